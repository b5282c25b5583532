/-
  Parts of what the laws of this seat stand on: TrmWo, TrmPlc.
-/
import Derived.Test.YtijbpdpkoamhbaaGreatQa1
import Derived.Deep.DeepCutAuto
import Derived.Test.YtijbpdpkoamhbaaGreatQa21
import Derived.Test.YtijbpdpkoamhbaaGreatQa23
import Derived.Test.YtijbpdpkoamhbaaGreatQa26
import Derived.Test.YtijbpdpkoamhbaaGreatQa7
set_option maxRecDepth 100000
set_option maxHeartbeats 6400000
namespace Go.Proofs.YtijbpdpkoamhbaaGreat
namespace Trm
open Go.RowKit So Dsk Rts Sto
def NL : Lay ByteArray where
 enc := fun s => [.string s]
 k := 1
 len := fun _ => rfl
 one := by intro f u hu; simp at hu; rw [hu]; rfl
 pos := by decide
 T := 9
 ok := fun _ => True
 z := ⟨#[]⟩
theorem info_nl : (Tryz.prog.info? 9).map (fun i => (i.zero, i.size, i.bytes)) = some (some (.string ByteArray.empty), 1, 16) := by kernel_rfl
theorem nl_at {w : World} {a : Option Addr} {n cap : Nat} {l : List ByteArray} (h : IsL NL w (.slice a n cap) l) {i : Nat} (hi : i < n) : ∃ b off, a = some ⟨b, off, none⟩ ∧ w.cell? ⟨b, off + i, none⟩ = some (.string (l.getD i ⟨#[]⟩)) := by
 have h' := h
 obtain ⟨a', cap', e, _, _, h3⟩ := h
 injection e with e1 e2 e3
 rcases h3 with h3 | ⟨b, off, h4, _⟩
 · rw [h3] at e2; simp at e2; omega
 · subst e1
   subst h4
   refine ⟨b, off, rfl, ?_⟩
   have := h'.at_ hi 0 _ rfl
   simpa [NL] using this
def zB : Obj := .cells #[.slice none 0 0, .int .i64 0, .bool false, .int .i64 0, .bool false, .int .i64 0, .slice none 0 0, .int .i64 0, .int .i64 0, .int .i64 0, .int .u32 0] 32
def stB (fv gv : Value) (S : St) : Obj := .cells #[fv, .int .i64 S.d.c, .bool S.d.a, .int .i64 S.d.l, .bool S.d.x, .int .i64 S.v, gv, .int .i64 S.x, .int .i64 S.s, .int .i64 S.z, .int .u32 S.c] 32
theorem two {t t1 : Nat} {o o' o1 : Obj} (h1 : t1 ≠ t) : ∀ q ∈ [(t1, o1), (t, o')], q = (t, o') ∨ (q ∈ [(t1, o1), (t, o)] ∧ q.1 ≠ t) := fun q hq => by
 rcases List.mem_cons.1 hq with rfl | hq
 · exact .inr ⟨mcs, h1⟩
 · rw [List.mem_singleton] at hq
   exact .inl hq
def WoOut (w : World) (fv : Value) (R : St) (e : Ending) (w' : World) : Prop := ∃ a n c, e = .returned (stVal fv (.slice a n c) R) ∧ IsL SL w' (.slice a n c) R.g ∧ (∀ j, j < w.heap.size → Sep (.slice a n c) j) ∧ Below w.heap.size w w'
theorem without13_any (fa ga : Option Addr) (fn fc gn gc : Nat) (S : St) (p : Nat) (w : World) (hv : IsL FL w (.slice fa fn fc) S.d.f) (hg : IsL SL w (.slice ga gn gc) S.g) (hB : Stb S) (hver : S.v < 1152921504606846976) (hp : p < gn) :
 Calls Tryz.prog 28 #[stVal (.slice fa fn fc) (.slice ga gn gc) S, .int .i64 p] w (WoOut w (.slice fa fn fc) { S with v := S.v + 1, g := S.g.drop p }) := by
 have hroom := hg.room
 have hgl := hg.len.1
 have hgn : gn ≤ 1000 := by have := hB.n; omega
 have M0 := ((Ms.start hv hg).alloc #[.slice fa fn fc, .int .i64 S.d.c, .bool S.d.a, .int .i64 S.d.l, .bool S.d.x, .int .i64 S.v, .slice ga gn gc, .int .i64 S.x, .int .i64 S.s, .int .i64 S.z, .int .u32 S.c] 32).alloc #[.slice none 0 0, .int .i64 0, .bool false, .int .i64 0, .bool false, .int .i64 0, .slice none 0 0, .int .i64 0, .int .i64 0, .int .i64 0, .int .u32 0] 32
 rw [World.size_alloc] at M0
 have MM := zid M0
 obtain ⟨⟨k0, k1, k2, k3, k4⟩, k5, k6, k7, k8, k9, k10⟩ := cellsS (M0.at_ (t := w.heap.size) (mcm mcs))
 have kf := frozenS (M0.at_ (t := w.heap.size) (mcm mcs))
 have hvv : IntKind.i64.wrap (S.v + 1) = S.v + 1 := IntWalk.i64_in _ ⟨by have := hB.v; omega, by omega⟩
 obtain ⟨sb, so, rfl, _, _, _⟩ := sg_at hg hp
 have CL := zid fun (W : World) (h : IsL SL W (.slice (some ⟨sb, so + p * 3, none⟩) (gn - p) (gc - p)) (S.g.drop p)) => sgclone_any _ (S.g.drop p) W h (by rw [List.length_drop]; omega)
 have HLEN := zid (show (S.g.drop p).length = gn - p from by rw [List.length_drop, ← hgl])
 have HDR := zid fun (W : World) (h : IsL SL W (.slice (some ⟨sb, so, none⟩) gn gc) S.g) => h.drop (k := p) (by omega) (gc - p) (by omega) (.inl rfl)
 have HOK := zid hg.ok
 clear hv hg hB hver M0 hgl
 unfold stVal
 go_enter Tryz.func28, Tryz.ntmps28
 go_upto_region 1 with (fail)
 generalize World.alloc (World.alloc w _) _ = W0 at MM k0 k1 k2 k3 k4 k5 k6 k7 k8 k9 k10 kf ⊢
 go_upto_region 2 with (fail)
 obtain ⟨Z, hZ, MZ⟩ := MM.out.lay1 (t := w.heap.size) (cs' := [(w.heap.size + 1, zB), (w.heap.size, stB (.slice fa fn fc) (.slice (some ⟨sb, so, none⟩) gn gc) { S with v := S.v + 1 })]) (mcm mcs) 5 (.int .i64 (S.v + 1)) (two (by show w.heap.size + 1 ≠ w.heap.size; omega))
 rw [hZ]
 have HZ := zid MZ
 clear hZ k0 k1 k2 k3 k4 k5 k6 k7 k8 k9 k10 kf MM
 obtain ⟨⟨k0, k1, k2, k3, k4⟩, k5, k6, k7, k8, k9, k10⟩ := cellsS (MZ.at_ (t := w.heap.size) (mcm mcs))
 clear MZ
 have hcp : ¬ gc = p := by omega
 have hpn : p ≤ gn := by omega
 go_wp2_with fail
 refine (CL.out _ (HDR.out _ (HZ.out.sl mcs))).mono ?_
 rintro e w1 ⟨v1, rfl, ho, b1⟩
 have hI := ho.is (by rw [HLEN.out]; unfold maxLen; omega) (fun y hy => HOK.out y (List.mem_of_mem_drop hy))
 obtain ⟨a1, n1, c1, rfl⟩ : ∃ a n c, v1 = .slice a n c := by obtain ⟨a, c, h, _⟩ := hI; exact ⟨a, _, c, h⟩
 have M1 := HZ.out.fresh b1 hI (fun j hj a' k' c' e' hk' e2 => by
  injection e' with e1 _ _
  subst e1
  have := (ho.lt a'.block rfl).1
  omega)
 have HSEP := zid (show ∀ j, j < w.heap.size → Sep (.slice a1 n1 c1) j from fun j hj a' k' c' e' hk' e2 => by
  injection e' with e1 _ _
  subst e1
  have := (ho.lt a'.block rfl).1
  have := HZ.out.le
  omega)
 have HM1 := zid M1
 clear k0 k1 k2 k3 k4 k5 k6 k7 k8 k9 k10 ho b1 hI
 obtain ⟨⟨k0, k1, k2, k3, k4⟩, k5, k6, k7, k8, k9, k10⟩ := cellsS (M1.at_ (t := w.heap.size) (mcm mcs))
 have kf := frozenS (M1.at_ (t := w.heap.size) (mcm mcs))
 clear M1
 go_upto_region 3 with (fail)
 obtain ⟨Z2, hZ2, MZ2⟩ := HM1.out.lay1 (t := w.heap.size) (cs' := [(w.heap.size + 1, zB), (w.heap.size, stB (.slice fa fn fc) (.slice a1 n1 c1) { S with v := S.v + 1, g := S.g.drop p })]) (mcm mcs) 6 (.slice a1 n1 c1) (two (by show w.heap.size + 1 ≠ w.heap.size; omega))
 rw [hZ2]
 have HZ2 := zid MZ2
 clear hZ2 k0 k1 k2 k3 k4 k5 k6 k7 k8 k9 k10 kf HM1
 obtain ⟨⟨k0, k1, k2, k3, k4⟩, k5, k6, k7, k8, k9, k10⟩ := cellsS (MZ2.at_ (t := w.heap.size) (mcm mcs))
 obtain ⟨⟨q0, q1, q2, q3, q4⟩, q5, q6, q7, q8, q9, q10⟩ := cellsS (MZ2.at_ (t := w.heap.size + 1) mcs)
 have qf := frozenS (MZ2.at_ (t := w.heap.size + 1) mcs)
 clear MZ2
 go_wp2_with fail
 obtain ⟨Y, hY, MY⟩ := HZ2.out.lay11 (t := w.heap.size + 1) (cs' := [(w.heap.size + 1, stB (.slice fa fn fc) (.slice a1 n1 c1) { S with v := S.v + 1, g := S.g.drop p })]) mcs (.slice fa fn fc) (.int .i64 S.d.c) (.bool S.d.a) (.int .i64 S.d.l) (.bool S.d.x) (.int .i64 (S.v + 1)) (.slice a1 n1 c1) (.int .i64 S.x) (.int .i64 S.s) (.int .i64 S.z) (.int .u32 S.c) (fun p hp => .inl (List.mem_singleton.1 hp))
 rw [hY]
 obtain ⟨⟨z0, z1, z2, z3, z4⟩, z5, z6, z7, z8, z9, z10⟩ := cellsS (MY.at_ (t := w.heap.size + 1) mcs)
 refine bodyPost_ret (v := .agg #[.slice fa fn fc, .int .i64 S.d.c, .bool S.d.a, .int .i64 S.d.l, .bool S.d.x, .int .i64 (S.v + 1), .slice a1 n1 c1, .int .i64 S.x, .int .i64 S.s, .int .i64 S.z, .int .u32 S.c]) (by simp [results, Tryz.results28, go_sem, z0, z1, z2, z3, z4, z5, z6, z7, z8, z9, z10]) rfl ?_
 exact ⟨a1, n1, c1, rfl, MY.sl mcs, HSEP.out, MY.w⟩
theorem gone_take {S : St} {p k : Nat} (hp : p ≤ S.g.length) (hk : k < p) : (((S.g.take p).map fun g => segN g.b).take (k + 1)) = (((S.g.take p).map fun g => segN g.b).take k) ++ [segN (S.g.getD k Rt.zero).b] := by
 have hl : k < ((S.g.take p).map fun g => segN g.b).length := by rw [List.length_map, List.length_take]; omega
 rw [List.take_succ_eq_append_getElem hl, List.getElem_map, List.getElem_take, getD_lt (by omega)]
theorem gone13_any (fv : Value) (ga : Option Addr) (gn gc : Nat) (S : St) (p : Nat) (w : World) (hg : IsL SL w (.slice ga gn gc) S.g) (hn : S.g ≠ []) (hB : Stb S) (hp : p < gn) :
 Calls Tryz.prog 34 #[stVal fv (.slice ga gn gc) S, .int .i64 p] w fun e w' => ∃ a n c, e = .returned (.slice a n c) ∧ IsL NL w' (.slice a n c) (goneL S p) ∧ Below w.heap.size w w' := by
 obtain ⟨i0, hi0, hz0, hz1, hz2⟩ := info_parts info_nl
 have hroom := hg.room
 have hgl := hg.len.1
 have hgn : gn ≤ 1000 := by have := hB.n; omega
 have hcp : p ≤ gc := by omega
 have hfl : 0 ≤ floor S := by
  unfold floor
  cases h : S.g with
  | nil => exact absurd h hn
  | cons g t => exact (hB.g g (by rw [h]; exact mcs)).1.1
 have HGB := zid fun k (hk : k < p) => (hB.g (S.g.getD k Rt.zero) (by rw [getD_lt (by omega)]; exact List.getElem_mem _)).1
 have HT := zid fun k (hk : k < p) => gone_take (S := S) (show p ≤ S.g.length by omega) hk
 have HLN := zid (show ((S.g.take p).map fun g => segN g.b).length = p by rw [List.length_map, List.length_take]; omega)
 have HE := zid (show goneL S p = ((S.g.take p).map fun g => segN g.b) ++ (if 0 < floor S then [Lg.snapN (floor S)] else []) from rfl)
 have FLO := zid fun (W : World) (h : IsL SL W (.slice ga gn gc) S.g) => floor12_any fv (.slice ga gn gc) S W h hn
 have SN := zid (show ∀ W : World, Calls Tryz.prog 48 #[.int .i64 (floor S)] W fun e w' => e = .returned (.string (Lg.snapN (floor S))) ∧ Below W.heap.size W w' from fun W => snap_any (floor S) W (by omega))
 have SGN := zid (show ∀ (b : Int) (W : World), 0 ≤ b → Calls Tryz.prog 79 #[.int .i64 b] W fun e w' => e = .returned (.string (segN b)) ∧ Below W.heap.size W w' from fun b W h => seg_any b W (by omega))
 have HG := zid hg
 have Q0 := zid (heap_alloc_new w (.cells #[fv, .int .i64 S.d.c, .bool S.d.a, .int .i64 S.d.l, .bool S.d.x, .int .i64 S.v, .slice ga gn gc, .int .i64 S.x, .int .i64 S.s, .int .i64 S.z, .int .u32 S.c] 32))
 have QB := zid ((Below.refl w.heap.size w).alloc (Nat.le_refl _) (.cells #[fv, .int .i64 S.d.c, .bool S.d.a, .int .i64 S.d.l, .bool S.d.x, .int .i64 S.v, .slice ga gn gc, .int .i64 S.x, .int .i64 S.s, .int .i64 S.z, .int .u32 S.c] 32))
 obtain ⟨⟨k0, k1, k2, k3, k4⟩, k5, k6, k7, k8, k9, k10⟩ := cellsS Q0.out
 have hpn : p ≤ gn := by omega
 clear hg hn hB hgl
 unfold stVal at FLO ⊢
 generalize ((S.g.take p).map fun g => segN g.b) = L at *
 generalize goneL S p = GL at *
 generalize floor S = fl at *
 go_enter Tryz.func34, Tryz.ntmps34
 go_wp2_with fail
 generalize World.alloc w _ = w0 at Q0 QB k0 k1 k2 k3 k4 k5 k6 k7 k8 k9 k10 ⊢
 clear k0 k1 k2 k3 k4 k5 k6 k7 k8 k9 k10
 have hs0 := (Array.getElem?_eq_some_iff.1 Q0.out).1
 go_loopw [5, 14] (fun s i wr => ∃ k : Nat, k ≤ p ∧ i = .int .i64 k ∧ OwnL NL wr w0.heap.size s (L.take k) ∧ Below w0.heap.size w0 wr) (fun _ i _ => p - (intOf i).toNat)
 case atStart => exact ⟨0, Nat.zero_le _, rfl, by rw [List.take_zero]; exact OwnL.nil _ _, Below.refl _ _⟩
 case round =>
  obtain ⟨k, hk, rfl, hO, bel⟩ := hrel
  have HO := zid hO
  have BEL := zid bel
  have BW := zid (QB.out.trans (bel.mono QB.out.size))
  clear hO
  by_cases hlt : k < p
  · obtain ⟨b, off, rfl, c0, c1, c2⟩ := sg_at (HG.out.keep BW.out) (show k < gn by omega)
    have HTk := HT.out k hlt
    have hb0 := HGB.out k hlt
    have hlk : (L.take k).length = k := by rw [List.length_take, HLN.out]; omega
    generalize (S.g.getD k Rt.zero).b = base at *
    generalize (S.g.getD k Rt.zero).n = sn at *
    generalize (S.g.getD k Rt.zero).z = sz at *
    have hgb := block_lt_of_cell c0
    generalize L.take k = LK at *
    replace HTk := zid HTk
    have HLK := zid hlk
    clear bel
    go_wp2_with fail
    refine (SGN.out _ _ hb0.1).mono ?_
    rintro e w2 ⟨rfl, b2⟩
    generalize segN base = nm at *
    have hsz2 : wr.heap.size ≤ w2.heap.size := by have := b2.size; simp at this; omega
    have B2 := zid (show Below wr.heap.size wr w2 from ((Below.refl wr.heap.size wr).alloc (Nat.le_refl _) _).trans (b2.mono (by simp)))
    have HOX := zid (show (w2.alloc (.cells [Value.string nm].toArray 9)).ownsRow w0.heap.size 9 1 _ LK.length (NL.vals LK) from (HO.out.keep B2.out).alloc _)
    have HLT := zid fun k' (h : _) => HO.out.lt k' h
    have hbw : w0.heap.size ≤ w2.heap.size := Nat.le_trans BEL.out.size hsz2
    have HBW := zid ((BEL.out.trans (B2.out.mono BEL.out.size)).alloc hbw (.cells [Value.string nm].toArray 9))
    have HNEW := zid (news_new w2 w2.heap.size [Value.string nm] 9 rfl)
    have H1 := zid (show ∀ u ∈ [Value.string nm], u.oneCell' = true from NL.one nm)
    have HF : Hid (∀ v' w3, w3.ownsRow w0.heap.size 9 1 v' (LK.length + 1) (NL.vals LK ++ [.string nm]) → OwnL NL w3 w0.heap.size v' (LK ++ [nm])) := fun v' w3 h => OwnL.snoc (n := LK.length) h rfl rfl
    clear b2 hb0
    generalize hxs : NL.vals LK = xs at *
    rw [hlk] at HOX HF
    clear hxs hlk
    go_wp2_with (at_builtin; refine wpList_append_own _ rfl _ _ 52 rfl w0.heap.size 9 i0 (.string ByteArray.empty) 1 16 Tryz.underlying52 hi0 hz0 hz1 hz2 rfl (by decide) _ _ _ rfl HOX.out ⟨w2.heap.size, 0, none⟩ 1 1 [Value.string nm] rfl rfl HNEW.out H1.out (by unfold maxLen; omega) (by omega) (by simp; omega) ?_; intro v' w3 hown' hgrow3 hnil3)
    go_roundw
    case rel =>
     exact ⟨k + 1, by omega, by go_num, by rw [HTk.out]; exact HF.out v' w3 hown', HBW.out.grown hgrow3 (by simp; omega) (fun q hq => (HLT.out q hq).1)⟩
    case measure => simp [intOf]; omega
  · obtain rfl : k = p := by omega
    rw [show L.take k = L from List.take_of_length_le (by rw [HLN.out]; exact Nat.le_refl _)] at HO
    have P0 := hkeep Q0.out bel
    obtain ⟨⟨k0, k1, k2, k3, k4⟩, k5, k6, k7, k8, k9, k10⟩ := cellsS P0
    clear P0 bel
    go_wp2_with fail
    refine (FLO.out _ (HG.out.keep BW.out)).mono ?_
    rintro e w2 ⟨rfl, b2⟩
    have BW2 := zid (BW.out.trans (b2.mono BW.out.size))
    have BEL2 := zid (BEL.out.trans (b2.mono BEL.out.size))
    have HO2 := zid (HO.out.keep b2)
    clear b2 k0 k1 k2 k3 k4 k5 k6 k7 k8 k9 k10
    by_cases hf : 0 < fl
    · have HEE := zid (show GL = L ++ [Lg.snapN fl] by rw [HE.out, if_pos hf])
      go_wp2_with fail
      refine (SN.out _).mono ?_
      rintro e w3 ⟨rfl, b3⟩
      have hlk := HLN.out
      generalize Lg.snapN fl = nm at *
      have hsz := b3.size
      have HOX := zid (show (w3.alloc (.cells [Value.string nm].toArray 9)).ownsRow w0.heap.size 9 1 _ L.length (NL.vals L) from (HO2.out.keep b3).alloc _)
      have HLT := zid fun k' (h : _) => HO2.out.lt k' h
      have hbw : w0.heap.size ≤ w3.heap.size := Nat.le_trans BEL2.out.size hsz
      have HBW := zid ((BW2.out.trans (b3.mono BW2.out.size)).alloc (Nat.le_trans BW2.out.size hsz) (.cells [Value.string nm].toArray 9))
      have HNEW := zid (news_new w3 w3.heap.size [Value.string nm] 9 rfl)
      have H1 := zid (show ∀ u ∈ [Value.string nm], u.oneCell' = true from NL.one nm)
      have HF : Hid (∀ v' w4, w4.ownsRow w0.heap.size 9 1 v' (L.length + 1) (NL.vals L ++ [.string nm]) → OwnL NL w4 w0.heap.size v' (L ++ [nm])) := fun v' w4 h => OwnL.snoc (n := L.length) h rfl rfl
      have HLL := zid hlk
      have HQS := zid QB.out.size
      clear b3
      generalize hxs : NL.vals L = xs at *
      rw [hlk] at HOX HF
      clear hxs hlk
      go_wp2_with (at_builtin; refine wpList_append_own _ rfl _ _ 52 rfl w0.heap.size 9 i0 (.string ByteArray.empty) 1 16 Tryz.underlying52 hi0 hz0 hz1 hz2 rfl (by decide) _ _ _ rfl HOX.out ⟨w3.heap.size, 0, none⟩ 1 1 [Value.string nm] rfl rfl HNEW.out H1.out (by unfold maxLen; omega) (by omega) (by simp; omega) ?_; intro v' w4 hown' hgrow3 hnil3)
      have hI := (HF.out v' w4 hown').is (by rw [List.length_append, HLL.out]; simp; unfold maxLen; omega) (fun _ _ => trivial)
      obtain ⟨a4, n4, c4, rfl⟩ : ∃ a n c, v' = .slice a n c := by obtain ⟨a, c, h, _⟩ := hI; exact ⟨a, _, c, h⟩
      have HFIN := zid (show ∃ a n c, Ending.returned (.slice a4 n4 c4) = .returned (.slice a n c) ∧ IsL NL w4 (.slice a n c) GL ∧ Below w.heap.size w w4 from ⟨a4, n4, c4, rfl, by rw [HEE.out]; exact hI, HBW.out.grown hgrow3 (by have := HQS.out; simp; omega) (fun q hq => Nat.le_trans HQS.out (HLT.out q hq).1)⟩)
      clear hI hown' hgrow3 hnil3
      go_wp2_with fail
      go_ret
      exact HFIN.out
    · have HEE := zid (show GL = L by rw [HE.out, if_neg hf, List.append_nil])
      have hI := HO2.out.is (by rw [HLN.out]; unfold maxLen; omega) (fun _ _ => trivial)
      obtain ⟨a4, n4, c4, rfl⟩ : ∃ a n c, u5 = .slice a n c := by obtain ⟨a, c, h, _⟩ := hI; exact ⟨a, _, c, h⟩
      have HI := zid hI
      clear hI HO HO2
      go_wp2_with fail
      go_ret
      exact ⟨a4, n4, c4, rfl, by rw [HEE.out]; exact HI.out, BW2.out⟩
def fz (D : Dp.Dk) (l : List ByteArray) (n : Nat) : Dp.Dk × Int := (l.take n).foldl (fun X n => tk X (Dp.delete X.1 n)) (D, 0)
theorem fz_all (D : Dp.Dk) (l : List ByteArray) : fz D l l.length = freedP D l := by unfold fz freedP; rw [List.take_length]
theorem fz_succ (D : Dp.Dk) (l : List ByteArray) {n : Nat} (h : n < l.length) : fz D l (n + 1) = tk (fz D l n) (Dp.delete (fz D l n).1 (l.getD n ⟨#[]⟩)) := by
 unfold fz
 rw [List.take_succ_eq_append_getElem h, List.foldl_append, getD_lt h]
 rfl
theorem fz_bd {D : Dp.Dk} {k : Nat} (h : Bd D k) (l : List ByteArray) : ∀ n, n ≤ l.length → Bd (fz D l n).1 (k + n)
 | 0, _ => h
 | n + 1, hn => by
  rw [fz_succ D l (by omega)]
  exact bd_tk (fz_bd h l n (by omega)) (bd_delete (fz_bd h l n (by omega)) _)
def Fd (w : World) (fv : Value) (d : Nat) (X : Dp.Dk × Int) (W : World) : Prop := ∃ a n c, Tk w w.heap.size fv (.slice none 0 0) w.heap.size (w.heap.size + 1 + 1) d form5 28 [(w.heap.size + 1, z5)] [] (.slice a n c) X W
theorem Fd.w {w W : World} {fv : Value} {d : Nat} {X : Dp.Dk × Int} (h : Fd w fv d X W) : Below w.heap.size w W := by obtain ⟨_, _, _, h⟩ := h; exact h.m.w
theorem freed13_any (fa : Option Addr) (fn fc : Nat) (D : Dp.Dk) (la : Option Addr) (ln lc : Nat) (l : List ByteArray) (w : World) (k : Nat) (hv : IsL FL w (.slice fa fn fc) D.f) (hl : IsL NL w (.slice la ln lc) l) (hS : Bd D k) (hk : k + l.length ≤ 100000) :
 Calls Tryz.prog 33 #[dkVal (.slice fa fn fc) D, .slice la ln lc] w (DkAns w (.slice fa fn fc) (freedP D l)) := by
 have hln := hl.len.1
 have M0 := ((Ms.start (gv := .slice none 0 0) (lg := []) hv (IsL.nil w none 0)).alloc #[.slice fa fn fc, .int .i64 D.c, .bool D.a, .int .i64 D.l, .bool D.x] 28).alloc #[.slice none 0 0, .int .i64 0, .bool false, .int .i64 0, .bool false] 28
 have M1 := M0.alloc #[.int .i64 0] 36
 simp only [World.size_alloc] at M1
 have HM1 := zid M1
 have HFA := zid (fz_all D l)
 have HFS := zid fun n (h : n < ln) => fz_succ D l (show n < l.length by omega)
 have HFB := zid fun n (h : n ≤ ln) => fz_bd hS l n (by omega)
 have HL := zid hl
 have HLN := zid hln
 have hkn : k + ln ≤ 100000 := by omega
 have H0 := zid (show fz D l 0 = (D, 0) from rfl)
 clear hv hl hS hk M0 M1 hln
 unfold dkVal
 go_enter Tryz.func33, Tryz.ntmps33
 go_upto_region 2 with (fail)
 generalize World.alloc (World.alloc (World.alloc w _) _) _ = w1 at HM1 ⊢
 go_wp2_with fail
 refine (taking_any _ _ _).mono ?_
 rintro en w2 ⟨rfl, rfl⟩
 have T2 := Tk.new (A := form5) (T := 28) (t := w.heap.size) (e := w.heap.size + 1 + 1) (v := .slice fa fn fc) (X := (D, 0)) (xs := [(w.heap.size + 1, z5)]) (gs := []) (HM1.out.sub (fun p hp => by
  simp only [List.mem_cons, List.not_mem_nil, or_false] at hp ⊢
  rcases hp with rfl | rfl | rfl
  · exact .inr (.inr rfl)
  · exact .inl rfl
  · exact .inr (.inl rfl)) (fun _ hp => hp) (fun _ hp => absurd hp List.not_mem_nil)) (by omega) (fun p hp => by
  simp only [List.mem_cons, List.not_mem_nil, or_false] at hp
  subst hp
  exact ⟨by show w.heap.size + 1 ≠ w.heap.size; omega, by show w.heap.size + 1 ≠ w.heap.size + 1 + 1; omega⟩)
 obtain ⟨d, hd⟩ : ∃ d, w1.heap.size = d := ⟨_, rfl⟩
 rw [hd] at T2 ⊢
 have HT2 := zid (show Fd w (.slice fa fn fc) d (fz D l 0) _ from ⟨_, _, _, by rw [H0.out]; exact T2⟩)
 clear T2 HM1 hd H0
 generalize World.alloc (World.alloc w1 _) _ = w2 at HT2 ⊢
 go_wp2_with fail
 go_loopw [13] (fun i wr => ∃ n : Nat, n ≤ ln ∧ i = .int .i64 n ∧ Hid (Fd w (.slice fa fn fc) d (fz D l n) wr)) (fun i _ => ln - (intOf i).toNat)
 case atStart => exact ⟨0, Nat.zero_le _, rfl, HT2⟩
 case round =>
  clear HT2
  obtain ⟨n, hn, rfl, HF⟩ := hrel
  by_cases hlt : n < ln
  · obtain ⟨sb, so, rfl, c0⟩ := nl_at (HL.out.keep HF.out.w) hlt
    have HS := HFS.out n hlt
    have HB := zid (HFB.out n hn)
    obtain ⟨a, m, c, T⟩ := HF.out
    have HT := zid T
    generalize l.getD n ⟨#[]⟩ = nm at *
    obtain ⟨X, hX⟩ : ∃ X, fz D l n = X := ⟨_, rfl⟩
    obtain ⟨Y, hY⟩ : ∃ Y, fz D l (n + 1) = Y := ⟨_, rfl⟩
    rw [hX] at HS HB HT
    rw [hY] at HS
    have HY := zid hY
    have HSS := zid HS.symm
    have hmf := Dsk.made_func
    have hgb := block_lt_of_cell c0
    clear T HF HS hX hY
    go_upto_region 6 with (fail)
    go_wp2_with fail
    refine (tk_take form5_is (HT.out.al _) (stp_freed HB.out (by omega) (HT.out.al _).fl (al_at wr _ _))).mono ?_
    rintro en w5 ⟨rfl, a5, n5, c5, T5⟩
    rw [HSS.out] at T5
    have HT5 := zid (show Fd w (.slice fa fn fc) d (fz D l (n + 1)) w5 from ⟨a5, n5, c5, by rw [HY.out]; exact T5⟩)
    clear T5 hmf
    go_wp2_with fail
    go_roundw
    case rel => exact ⟨n + 1, by omega, by go_num, HT5⟩
    case measure => simp [intOf]; omega
  · obtain rfl : n = ln := by omega
    have HFF := zid (show freedP D l = fz D l n by rw [← HFA.out, HLN.out])
    obtain ⟨a, m, c, T⟩ := HF.out
    have HT := zid T
    obtain ⟨X, hX⟩ : ∃ X, fz D l n = X := ⟨_, rfl⟩
    rw [hX] at HT HFF T
    clear hX HF
    obtain ⟨p0, p1, p2, p3, p4⟩ := cells5 T.hd
    obtain ⟨ec, _⟩ := cells1 T.he
    have hz := T.hx (i := w.heap.size + 1) (o := z5) mcs
    obtain ⟨q0, q1, q2, q3, q4⟩ := cells5 hz
    obtain ⟨qf0, qf1, qf2, qf3, qf4⟩ := frozen5 hz
    obtain ⟨XD, XE⟩ := X
    have LY := zid fun (W : World) (b : Below wr.heap.size wr W) => (HT.out.keep b).m.lay5 (cs' := [(w.heap.size + 1, .cells #[.slice a m c, .int .i64 XD.c, .bool XD.a, .int .i64 XD.l, .bool XD.x] 28)]) (t := w.heap.size + 1) (mcm (mcm (mcm (mcm mcs)))) (.slice a m c) (.int .i64 XD.c) (.bool XD.a) (.int .i64 XD.l) (.bool XD.x) (fun p hp => by
     simp only [List.mem_cons, List.not_mem_nil, or_false] at hp
     subst hp
     exact .inl rfl)
    have hne := (T.n3 (w.heap.size + 1, z5) mcs).2
    have ne1 : ¬ (w.heap.size + 1 = w.heap.size + 1 + 1) := by omega
    have ne2 : ¬ (w.heap.size + 1 + 1 = w.heap.size + 1) := by omega
    clear T HT hz hne
    dsimp only at p0 p1 p2 p3 p4 ec
    go_upto_region 8 with (fail)
    go_region
    all_goals
     go_wp2_with fail
     obtain ⟨Z, hZ, M8⟩ := LY.out wr (Below.refl _ _)
     rw [hZ]
     have M9 := M8.keep (W' := Z.drew) (Below.refl _ _).drew
     obtain ⟨z0, z1, z2, z3, z4⟩ := cells5 (M9.at_ mcs)
     refine bodyPost_ret (v := .tuple #[.agg #[.slice a m c, .int .i64 XD.c, .bool XD.a, .int .i64 XD.l, .bool XD.x], .int .i64 XE]) (by simp [results, Tryz.results33, go_sem, z0, z1, z2, z3, z4]) rfl ?_
     rw [HFF.out]
     exact ⟨_, _, _, rfl, M9.dks mcs⟩
theorem placed_is {D : Dp.Dk} {n s : ByteArray} {m : Qm.Mn} {X1 X2 X3 X4 : Dp.Dk × Int} (h1 : tk (D, 0) (Dp.create D n) = X1) (h2 : tk X1 (Dp.append X1.1 n s) = X2) (h3 : tk X2 (Dp.sync X2.1 n) = X3) (h4 : tk X3 (swap X3.1 m) = X4) : placedP D n s m = if X4.2 = 9 then wo X4.1 n else X4 := by
 subst h1 h2 h3 h4; rfl
theorem bd_wo {D : Dp.Dk} {k : Nat} (h : Bd D k) (n : ByteArray) : Bd (wo D n).1 (k + 1) := bd_delete h n
def Pc (w : World) (fv gv : Value) (X : St) (s n : ByteArray) (t m d : Nat) (Y : Dp.Dk × Int) (W : World) : Prop :=
 ∃ a n' c, Tk w w.heap.size fv (.slice none 0 0) t (t + 1) d form5 28 [(w.heap.size + 1 + 1, z5), (w.heap.size, stB fv gv X), (w.heap.size + 1, .cells #[.string s] 9), (m, .cells #[.string n] 9)] [] (.slice a n' c) Y W
theorem placed13_any (fa ga : Option Addr) (fn fc gn gc : Nat) (X : St) (s : ByteArray) (w : World) (k : Nat) (hv : IsL FL w (.slice fa fn fc) X.d.f) (hg : IsL SL w (.slice ga gn gc) X.g) (hn : X.g ≠ []) (hB : Stb X) (hS : Bd X.d k) (hk : k ≤ 90000) (hs : s.size ≤ 3000) :
 Calls Tryz.prog 32 #[stVal (.slice fa fn fc) (.slice ga gn gc) X, .string s] w (DkAns w (.slice fa fn fc) (placedP X.d (Lg.snapN (floor X)) s (man X))) := by
 have M0 := (((Ms.start (gv := .slice none 0 0) (lg := []) hv (IsL.nil w none 0)).alloc #[.slice fa fn fc, .int .i64 X.d.c, .bool X.d.a, .int .i64 X.d.l, .bool X.d.x, .int .i64 X.v, .slice ga gn gc, .int .i64 X.x, .int .i64 X.s, .int .i64 X.z, .int .u32 X.c] 32).alloc #[.string s] 9).alloc #[.slice none 0 0, .int .i64 0, .bool false, .int .i64 0, .bool false] 28
 simp only [World.size_alloc] at M0
 have HM0 := zid M0
 have hfl : 0 ≤ floor X := by
  unfold floor
  cases h : X.g with
  | nil => exact absurd h hn
  | cons g t => exact (hB.g g (by rw [h]; exact mcs)).1.1
 have FLO := zid fun (W : World) (h : IsL SL W (.slice ga gn gc) X.g) => floor12_any (.slice fa fn fc) (.slice ga gn gc) X W h hn
 have SN := zid (show ∀ W : World, Calls Tryz.prog 48 #[.int .i64 (floor X)] W fun e w' => e = .returned (.string (Lg.snapN (floor X))) ∧ Below W.heap.size W w' from fun W => snap_any (floor X) W (by omega))
 have hn14 : (Lg.snapN (floor X)).size ≤ 3000 := by have : (Lg.snapN (floor X)).size ≤ 14 := Np.name_short 116 _; omega
 obtain ⟨n, hnn⟩ : ∃ n, Lg.snapN (floor X) = n := ⟨_, rfl⟩
 rw [hnn] at hn14 SN
 have hpp : placedP X.d (Lg.snapN (floor X)) s (man X) = placedP X.d n s (man X) := by rw [hnn]
 rw [hpp] at ⊢
 have c1 := bd_tk (X := (X.d, 0)) hS (bd_create hS n)
 obtain ⟨X1, hX1⟩ : ∃ Y, tk (X.d, 0) (Dp.create X.d n) = Y := ⟨_, rfl⟩
 rw [hX1] at c1
 have c2 := bd_tk c1 (bd_append c1 n hs)
 obtain ⟨X2, hX2⟩ : ∃ Y, tk X1 (Dp.append X1.1 n s) = Y := ⟨_, rfl⟩
 rw [hX2] at c2
 have c3 := bd_tk c2 (bd_sync c2 n)
 obtain ⟨X3, hX3⟩ : ∃ Y, tk X2 (Dp.sync X2.1 n) = Y := ⟨_, rfl⟩
 rw [hX3] at c3
 have c4 : Bd (tk X3 (swap X3.1 (man X))).1 (k + 3 + 10) := by
  unfold tk
  split
  · exact (bd_swap c3 (man X)).mono (by omega)
  · exact c3.mono (by omega)
 obtain ⟨X4, hX4⟩ : ∃ Y, tk X3 (swap X3.1 (man X)) = Y := ⟨_, rfl⟩
 rw [hX4] at c4
 have HC := zid (And.intro c1 (And.intro c2 (And.intro c3 (And.intro c4 (And.intro hS (And.intro hs (And.intro hn14 hB)))))))
 have HX1 := zid hX1
 have HX2 := zid hX2
 have HX3 := zid hX3
 have HX4 := zid hX4
 have HPL := zid (placed_is hX1 hX2 hX3 hX4)
 have HG := zid hg
 clear hv hg hn hB hS hs hn14 hnn hpp c1 c2 c3 c4 hX1 hX2 hX3 hX4 M0 hfl
 unfold stVal
 unfold stVal at FLO
 have hmf := Dsk.made_func
 go_enter Tryz.func32, Tryz.ntmps32
 go_upto_region 1 with (fail)
 generalize World.alloc (World.alloc (World.alloc w _) _) _ = w0 at HM0 ⊢
 have hsz := HM0.out.lt (t := w.heap.size + 1 + 1) mcs
 obtain ⟨⟨k0, k1, k2, k3, k4⟩, k5, k6, k7, k8, k9, k10⟩ := cellsS (HM0.out.at_ (t := w.heap.size) (mcm (mcm mcs)))
 go_upto_region 2 with (fail)
 have M1 := (HM0.out.alloc #[.slice fa fn fc, .int .i64 X.d.c, .bool X.d.a, .int .i64 X.d.l, .bool X.d.x] 28).alloc #[.int .i64 0] 36
 rw [World.size_alloc] at M1
 have HM1 := zid M1
 have hs1 : (World.alloc (World.alloc w0 (.cells #[.slice fa fn fc, .int .i64 X.d.c, .bool X.d.a, .int .i64 X.d.l, .bool X.d.x] 28)) (.cells #[.int .i64 0] 36)).heap.size = w0.heap.size + 1 + 1 := by simp
 generalize World.alloc (World.alloc w0 _) _ = w1 at HM1 M1 hs1 ⊢
 obtain ⟨t, ht⟩ : ∃ t, w0.heap.size = t := ⟨_, rfl⟩
 rw [ht] at HM1 M1 hs1 hsz ⊢
 clear k0 k1 k2 k3 k4 k5 k6 k7 k8 k9 k10 HM0 ht
 obtain ⟨⟨k0, k1, k2, k3, k4⟩, k5, k6, k7, k8, k9, k10⟩ := cellsS (M1.at_ (t := w.heap.size) (mcm (mcm (mcm (mcm mcs)))))
 clear M1
 go_wp2_with fail
 refine (FLO.out _ (HG.out.keep HM1.out.w)).mono ?_
 rintro en w2 ⟨rfl, b2⟩
 have HM2 := zid (HM1.out.keep b2)
 have hs2 : t + 1 + 1 ≤ w2.heap.size := by rw [← hs1]; exact b2.size
 clear k0 k1 k2 k3 k4 k5 k6 k7 k8 k9 k10 b2 HM1 hs1 FLO
 go_wp2_with fail
 refine (SN.out _).mono ?_
 rintro en w3 ⟨rfl, b3⟩
 have M3 := (HM2.out.keep b3).alloc #[.string n] 9
 have hs3 : t + 1 + 1 ≤ w3.heap.size := Nat.le_trans hs2 b3.size
 have HM3 := zid M3
 clear b3 HM2 M3 SN hs2
 go_wp2_with fail
 refine (taking_any _ _ _).mono ?_
 rintro en w4 ⟨rfl, rfl⟩
 have T4 := Tk.new (A := form5) (T := 28) (t := t) (e := t + 1) (v := .slice fa fn fc) (X := (X.d, 0)) (xs := [(w.heap.size + 1 + 1, z5), (w.heap.size, stB (.slice fa fn fc) (.slice ga gn gc) X), (w.heap.size + 1, .cells #[.string s] 9), (w3.heap.size, .cells #[.string n] 9)]) (gs := []) (HM3.out.sub (fun p hp => by
  simp only [List.mem_cons, List.not_mem_nil, or_false] at hp ⊢
  rcases hp with rfl | rfl | rfl | rfl | rfl | rfl
  · exact .inr (.inr (.inl rfl))
  · exact .inr (.inl rfl)
  · exact .inr (.inr (.inr (.inl rfl)))
  · exact .inr (.inr (.inr (.inr (.inr rfl))))
  · exact .inr (.inr (.inr (.inr (.inl rfl))))
  · exact .inl rfl) (fun _ hp => hp) (fun _ hp => absurd hp List.not_mem_nil)) (by omega) (fun p hp => by
  simp only [List.mem_cons, List.not_mem_nil, or_false] at hp
  rcases hp with rfl | rfl | rfl | rfl
  · exact ⟨by show w.heap.size + 1 + 1 ≠ t; omega, by show w.heap.size + 1 + 1 ≠ t + 1; omega⟩
  · exact ⟨by show w.heap.size ≠ t; omega, by show w.heap.size ≠ t + 1; omega⟩
  · exact ⟨by show w.heap.size + 1 ≠ t; omega, by show w.heap.size + 1 ≠ t + 1; omega⟩
  · exact ⟨by show w3.heap.size ≠ t; omega, by show w3.heap.size ≠ t + 1; omega⟩)
 simp only [World.size_alloc] at T4 ⊢
 obtain ⟨m, hm⟩ : ∃ m, w3.heap.size = m := ⟨_, rfl⟩
 rw [hm] at T4 ⊢
 have HT4 := zid (show Pc w (.slice fa fn fc) (.slice ga gn gc) X s n t m (m + 1) (X.d, 0) _ from ⟨_, _, _, T4⟩)
 clear T4 HM3 hs3 hm hsz
 generalize World.alloc (World.alloc (World.alloc w3 _) _) _ = w4 at HT4 ⊢
 generalize m + 1 = d at HT4 ⊢
 go_wp2_with fail
 obtain ⟨a4, n4, c4, T4⟩ := HT4.out
 refine (tk_take form5_is T4 (stp_placed1 HC.out.2.2.2.2.1 (by omega) HC.out.2.2.2.2.2.2.1 T4.fl (T4.hx (i := m) (mcm (mcm (mcm mcs)))))).mono ?_
 rintro en w5 ⟨rfl, a5, n5, c5, T5⟩
 rw [HX1.out] at T5
 have HT5 := zid T5
 clear T4 T5 HT4
 go_wp2_with fail
 refine (tk_take form5_is HT5.out (stp_placed2 HC.out.1 (by omega) HC.out.2.2.2.2.2.1 HT5.out.fl (HT5.out.hx (i := m) (mcm (mcm (mcm mcs)))) (HT5.out.hx (i := w.heap.size + 1) (mcm (mcm mcs))))).mono ?_
 rintro en w6 ⟨rfl, a6, n6, c6, T6⟩
 rw [HX2.out] at T6
 have HT6 := zid T6
 clear T6 HT5
 go_wp2_with fail
 refine (tk_take form5_is HT6.out (stp_placed3 HC.out.2.1 (by omega) HT6.out.fl (HT6.out.hx (i := m) (mcm (mcm (mcm mcs)))))).mono ?_
 rintro en w7 ⟨rfl, a7, n7, c7, T7⟩
 rw [HX3.out] at T7
 have HT7 := zid T7
 clear T7 HT6
 go_wp2_with fail
 refine (tk_take form5_is HT7.out (stp_placed4 HC.out.2.2.1 (by omega) HC.out.2.2.2.2.2.2.2 HT7.out.fl (HG.out.keep HT7.out.m.w) (HT7.out.hx (i := w.heap.size) (mcm mcs)))).mono ?_
 rintro en w8 ⟨rfl, a8, n8, c8, T8⟩
 rw [HX4.out] at T8
 have HT8 := zid T8
 obtain ⟨ec, _⟩ := cells1 T8.he
 clear T8 HT7 hmf
 by_cases h9 : X4.2 = 9
 · have H9 := zid h9
   obtain ⟨⟨WD, WE⟩, hW⟩ : ∃ R, wo X4.1 n = R := ⟨_, rfl⟩
   have CW := unplaced_any a8 n8 c8 X4.1 n w8 _ HT8.out.fl HC.out.2.2.2.1 (by omega)
   rw [hW] at CW
   have HF := zid (show placedP X.d n s (man X) = (WD, WE) by rw [HPL.out, if_pos h9, hW])
   unfold dkVal at CW
   replace CW := zid CW
   obtain ⟨p0, p1, p2, p3, p4⟩ := cells5 HT8.out.hd
   obtain ⟨nc, _⟩ := cells1 (HT8.out.hx (i := m) (mcm (mcm (mcm mcs))))
   rw [h9] at ec
   clear hW h9
   go_wp2_with fail
   refine CW.out.mono ?_
   rintro en w9 ⟨a9, n9, c9, rfl, kk⟩
   have M9 := HT8.out.m.call (D' := WD) mcs kk
   have hz := M9.at_ (t := w.heap.size + 1 + 1) (o := z5) (mcm (mcm (mcm (mcm mcs))))
   obtain ⟨q0, q1, q2, q3, q4⟩ := cells5 hz
   obtain ⟨qf0, qf1, qf2, qf3, qf4⟩ := frozen5 hz
   obtain ⟨Z, hZ, MZ⟩ := M9.lay5 (cs' := [(w.heap.size + 1 + 1, .cells #[.slice a9 n9 c9, .int .i64 WD.c, .bool WD.a, .int .i64 WD.l, .bool WD.x] 28)]) (t := w.heap.size + 1 + 1) (mcm (mcm (mcm (mcm mcs)))) (.slice a9 n9 c9) (.int .i64 WD.c) (.bool WD.a) (.int .i64 WD.l) (.bool WD.x) (fun p hp => by
    simp only [List.mem_cons, List.not_mem_nil, or_false] at hp
    subst hp
    exact .inl rfl)
   have HZ := zid hZ
   have HMZ := zid (show DkS w (.slice fa fn fc) WD (.slice a9 n9 c9) Z from MZ.dks mcs)
   have HZC := zid (MZ.at_ mcs)
   clear kk M9 hz hZ MZ CW p0 p1 p2 p3 p4 ec nc
   unfold dkVal
   go_wp2_with fail
   rw [HZ.out]
   obtain ⟨z0, z1, z2, z3, z4⟩ := cells5 HZC.out
   refine bodyPost_ret (v := .tuple #[.agg #[.slice a9 n9 c9, .int .i64 WD.c, .bool WD.a, .int .i64 WD.l, .bool WD.x], .int .i64 WE]) (by simp [results, Tryz.results32, go_sem, z0, z1, z2, z3, z4]) rfl ?_
   rw [HF.out]
   exact ⟨_, _, _, rfl, HMZ.out⟩
 · have HF := zid (show placedP X.d n s (man X) = X4 by rw [HPL.out, if_neg h9])
   have h9' := ne_b h9
   have T8 := HT8.out
   obtain ⟨p0, p1, p2, p3, p4⟩ := cells5 T8.hd
   have hz := T8.hx (i := w.heap.size + 1 + 1) (o := z5) mcs
   obtain ⟨q0, q1, q2, q3, q4⟩ := cells5 hz
   obtain ⟨qf0, qf1, qf2, qf3, qf4⟩ := frozen5 hz
   obtain ⟨XD, XE⟩ := X4
   have LY := zid fun (W : World) (b : Below w8.heap.size w8 W) => (HT8.out.keep b).m.lay5 (cs' := [(w.heap.size + 1 + 1, .cells #[.slice a8 n8 c8, .int .i64 XD.c, .bool XD.a, .int .i64 XD.l, .bool XD.x] 28)]) (t := w.heap.size + 1 + 1) (mcm (mcm (mcm (mcm mcs)))) (.slice a8 n8 c8) (.int .i64 XD.c) (.bool XD.a) (.int .i64 XD.l) (.bool XD.x) (fun p hp => by
    simp only [List.mem_cons, List.not_mem_nil, or_false] at hp
    subst hp
    exact .inl rfl)
   have hne := (T8.n3 (w.heap.size + 1 + 1, z5) mcs).2
   have ne1 : ¬ (w.heap.size + 1 + 1 = t + 1) := hne
   have ne2 : ¬ (t + 1 = w.heap.size + 1 + 1) := fun h => hne h.symm
   clear T8 HT8 hz hne h9
   dsimp only at p0 p1 p2 p3 p4 ec
   go_upto_region 10 with (fail)
   go_region
   all_goals
    go_wp2_with fail
    obtain ⟨Z, hZ, M8⟩ := LY.out w8 (Below.refl _ _)
    rw [hZ]
    have M9 := M8.keep (W' := Z.drew) (Below.refl _ _).drew
    obtain ⟨z0, z1, z2, z3, z4⟩ := cells5 (M9.at_ mcs)
    refine bodyPost_ret (v := .tuple #[.agg #[.slice a8 n8 c8, .int .i64 XD.c, .bool XD.a, .int .i64 XD.l, .bool XD.x], .int .i64 XE]) (by simp [results, Tryz.results32, go_sem, z0, z1, z2, z3, z4]) rfl ?_
    rw [HF.out]
    exact ⟨_, _, _, rfl, M9.dks mcs⟩
end Trm
end Go.Proofs.YtijbpdpkoamhbaaGreat
