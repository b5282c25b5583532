/-
  Parts of what the laws of this seat stand on: TrmPro, StoAw, TrmG.
-/
import Derived.Test.YtijbpdpkoamhbaaGreatQa1
import Derived.Test.YtijbpdpkoamhbaaGreatQa27
import Derived.Test.YtijbpdpkoamhbaaGreatQa30
import Derived.Test.YtijbpdpkoamhbaaGreatQa38
import Derived.Test.YtijbpdpkoamhbaaGreatQa42
import Derived.Test.YtijbpdpkoamhbaaGreatQa43
set_option maxRecDepth 100000
set_option maxHeartbeats 6400000
namespace Go.Proofs.YtijbpdpkoamhbaaGreat
namespace Trm
open Go.RowKit So Dsk Rts Sto
theorem trimF_at {q F : Int} {S : St} {s0 : List Fp.Pr} {rs : List Rp.Rec} (h : Lg.Log q S F s0 rs) {p : Nat} (hp : p < S.g.length) : ∃ j : Nat, j ≤ rs.length ∧ Lg.trimF S p = F + (j : Int) := by
 obtain ⟨b1, b2, b3⟩ := h.bases
 have hm := b3 (S.g.getD p Rt.zero) (by rw [getD_lt hp]; exact List.getElem_mem hp)
 have hx := h.x
 have hF : Lg.trimF S p = (S.g.getD p Rt.zero).b := rfl
 exact ⟨(Lg.trimF S p - F).toNat, by omega, by omega⟩
theorem floor_drop {S : St} {p : Nat} (hp : p < S.g.length) {R : St} (hR : R.g = S.g.drop p) : floor R = Lg.trimF S p := by
 unfold floor
 rw [hR, Rt.drop_at hp]
 rfl
theorem bd_placed {D : Dp.Dk} {k : Nat} {n s : ByteArray} {m : Qm.Mn} (h : Bd D k) (hs : s.size ≤ 3000) : Bd (placedP D n s m).1 (k + 14) := by
 have c1 := bd_tk (X := (D, 0)) h (bd_create h n)
 obtain ⟨X1, hX1⟩ : ∃ Y, tk (D, 0) (Dp.create D n) = Y := ⟨_, rfl⟩
 rw [hX1] at c1
 have c2 := bd_tk c1 (bd_append c1 n hs)
 obtain ⟨X2, hX2⟩ : ∃ Y, tk X1 (Dp.append X1.1 n s) = Y := ⟨_, rfl⟩
 rw [hX2] at c2
 have c3 := bd_tk c2 (bd_sync c2 n)
 obtain ⟨X3, hX3⟩ : ∃ Y, tk X2 (Dp.sync X2.1 n) = Y := ⟨_, rfl⟩
 rw [hX3] at c3
 have c4 : Bd (tk X3 (swap X3.1 m)).1 (k + 3 + 10) := by
  unfold tk
  split
  · exact (bd_swap c3 m).mono (by omega)
  · exact c3.mono (by omega)
 obtain ⟨X4, hX4⟩ : ∃ Y, tk X3 (swap X3.1 m) = Y := ⟨_, rfl⟩
 rw [hX4] at c4
 rw [placed_is hX1 hX2 hX3 hX4]
 split
 · exact (bd_wo c4 n).mono (by omega)
 · exact c4.mono (by omega)
theorem gone_len (S : St) (p : Nat) : (goneL S p).length ≤ p + 1 := by
 unfold goneL
 rw [List.length_append, List.length_map, List.length_take]
 split <;> simp <;> omega
def Lx (w : World) (fv gv gx : Value) (S X : St) (x : Nat) (W : World) : Prop := Ms w w.heap.size fv gv [(x, stB fv gx X), (w.heap.size + 1, zB), (w.heap.size, stB fv gv S)] [(fv, S.d.f)] [(gx, X.g), (gv, S.g)] W
theorem Lx.keep {w W W' : World} {fv gv gx : Value} {S X : St} {x : Nat} (h : Lx w fv gv gx S X x W) (b : Below W.heap.size W W') : Lx w fv gv gx S X x W' := Ms.keep h b
theorem Lx.sx {w W : World} {fv gv gx : Value} {S X : St} {x : Nat} (h : Lx w fv gv gx S X x W) : IsL SL W gx X.g := Ms.sl h mcs
theorem Lx.sl {w W : World} {fv gv gx : Value} {S X : St} {x : Nat} (h : Lx w fv gv gx S X x W) : IsL SL W gv S.g := Ms.sl h (mcm mcs)
theorem Lx.fl {w W : World} {fv gv gx : Value} {S X : St} {x : Nat} (h : Lx w fv gv gx S X x W) : IsL FL W fv S.d.f := Ms.fl h mcs
theorem Lx.ax {w W : World} {fv gv gx : Value} {S X : St} {x : Nat} (h : Lx w fv gv gx S X x W) : W.heap[x]? = some (stB fv gx X) := Ms.at_ h mcs
theorem Lx.as {w W : World} {fv gv gx : Value} {S X : St} {x : Nat} (h : Lx w fv gv gx S X x W) : W.heap[w.heap.size]? = some (stB fv gv S) := Ms.at_ h (mcm (mcm mcs))
theorem three3 {t t1 t2 : Nat} {o o' o1 o2 : Obj} (h1 : t1 ≠ t) (h2 : t2 ≠ t) : ∀ q ∈ [(t, o'), (t1, o1), (t2, o2)], q = (t, o') ∨ (q ∈ [(t, o), (t1, o1), (t2, o2)] ∧ q.1 ≠ t) := fun q hq => by
 rcases List.mem_cons.1 hq with rfl | hq
 · exact .inl rfl
 rcases List.mem_cons.1 hq with rfl | hq
 · exact .inr ⟨mcm mcs, h1⟩
 · rw [List.mem_singleton] at hq
   subst hq
   exact .inr ⟨mcm (mcm mcs), h2⟩
theorem trim13_any {q F : Int} {s0 : List Fp.Pr} {rs : List Rp.Rec} (fa ga : Option Addr) (fn fc gn gc : Nat) (S : St) (keep count : Int) (p : Nat) (w : World) (k : Nat) (hv : IsL FL w (.slice fa fn fc) S.d.f) (hg : IsL SL w (.slice ga gn gc) S.g) (hL : Lg.Log q S F s0 rs) (hB : Stb S) (hS : Bd S.d k) (hk : k ≤ 60000) (hver : S.v < 1152921504606846976) (hM : Rt.May S.g) (hp : Rt.IsPick S.g keep count p)
 (hx : S.x ≤ 1000) (hfew : s0.length + rs.length ≤ 40) (hb1 : -9223372036854775808 ≤ keep ∧ keep ≤ 9223372036854775807) (hb2 : -9223372036854775808 ≤ count ∧ count ≤ 9223372036854775807) :
 Calls Tryz.prog 9 #[stVal (.slice fa fn fc) (.slice ga gn gc) S, .int .i64 keep, .int .i64 count] w (StOut w (.slice fa fn fc) (.slice ga gn gc) (Lg.trimK S p)) := by
 have hn : S.g ≠ [] := hL.ne
 have hroom := hg.room
 have hgl := hg.len.1
 have hpS : p < S.g.length := hp.lt.2 (List.length_pos_iff.2 hn)
 have hpl : p < gn := by omega
 have hpb : p ≤ 1000 := by have := hB.n; omega
 have hgn : gn ≤ 1000 := by have := hB.n; omega
 obtain ⟨hst, hlen⟩ := log_wants hL hfew hpS
 obtain ⟨j, hj, hje⟩ := trimF_at hL hpS
 have M0 := (((Ms.start hv hg).alloc #[.slice fa fn fc, .int .i64 S.d.c, .bool S.d.a, .int .i64 S.d.l, .bool S.d.x, .int .i64 S.v, .slice ga gn gc, .int .i64 S.x, .int .i64 S.s, .int .i64 S.z, .int .u32 S.c] 32).alloc #[.slice none 0 0, .int .i64 0, .bool false, .int .i64 0, .bool false, .int .i64 0, .slice none 0 0, .int .i64 0, .int .i64 0, .int .i64 0, .int .u32 0] 32)
 rw [World.size_alloc] at M0
 have MM := zid M0
 have hBl : (⟨(Lg.trimB S p).toArray⟩ : ByteArray).size ≤ 3000 := by show (Lg.trimB S p).toArray.size ≤ 3000; rw [List.size_toArray]; exact hlen
 have RP := zid fun (W : World) (h : IsL SL W (.slice ga gn gc) S.g) => pick11_any ga gn gc S.g keep count p W h hroom hM hp hb1.1 hb1.2 hb2.1 hb2.2
 have WO := fun (W : World) (h1 : IsL FL W (.slice fa fn fc) S.d.f) (h2 : IsL SL W (.slice ga gn gc) S.g) => without13_any fa ga fn fc gn gc S p W h1 h2 hB hver hpl
 have FLO := fun (a : Option Addr) (n c : Nat) (W : World) (h : IsL SL W (.slice a n c) (S.g.drop p)) => floor12_any (.slice fa fn fc) (.slice a n c) { S with v := S.v + 1, g := S.g.drop p } W h (by show S.g.drop p ≠ []; rw [Rt.drop_at hpS]; exact List.cons_ne_nil _ _)
 rw [floor_drop hpS rfl] at FLO
 have ST := fun (W : World) (h1 : IsL FL W (.slice fa fn fc) S.d.f) (h2 : IsL SL W (.slice ga gn gc) S.g) => state13_any fa ga fn fc gn gc S j W h1 h2 hB hL hj hx
 rw [← hje] at ST
 have BY := zid (show ∀ (W : World) (v : Value), IsPrs W v (Lg.stateT S (Lg.trimF S p)) → Calls Tryz.prog 29 #[v] W fun e w' => e = .returned (.string ⟨(Lg.trimB S p).toArray⟩) ∧ Below W.heap.size W w' from fun W v h => fbytes_any v _ W h hst)
 have SUM := zid (show ∀ W : World, Calls Tryz.prog 31 #[.slice (some ⟨W.heap.size, 0, none⟩) 1 1] (W.alloc (.cells #[.string ⟨(Lg.trimB S p).toArray⟩] 9)) fun e w' => e = .returned (.int .u32 (Cp.sum 0 (Lg.trimB S p) : Nat)) ∧ Below (W.alloc (.cells #[.string ⟨(Lg.trimB S p).toArray⟩] 9)).heap.size (W.alloc (.cells #[.string ⟨(Lg.trimB S p).toArray⟩] 9)) w' from fun W => by
  have h := sum_any _ _ _ (IsStrs.one W ⟨(Lg.trimB S p).toArray⟩ (by unfold maxLen; omega))
  rw [show cat [⟨(Lg.trimB S p).toArray⟩] = Lg.trimB S p from by unfold cat; simp] at h
  exact h)
 have HSX : Stb (Lg.trimX S p) := ⟨hB.d, ⟨by have := hB.v; show 0 ≤ S.v + 1; omega, by show S.v + 1 ≤ _; omega⟩, by show (S.g.drop p).length ≤ 1000; rw [List.length_drop]; have := hB.n; omega, fun g hg' => hB.g g (List.mem_of_mem_drop hg'), hB.x, hB.s, ⟨Int.natCast_nonneg _, by show ((Lg.trimB S p).length : Int) ≤ _; omega⟩, ⟨Int.natCast_nonneg _, by have := Lg.sum_lt (Lg.trimB S p); show (Cp.sum 0 (Lg.trimB S p) : Int) < _; omega⟩⟩
 have PL := fun (a : Option Addr) (n c : Nat) (W : World) (h1 : IsL FL W (.slice fa fn fc) S.d.f) (h2 : IsL SL W (.slice a n c) (S.g.drop p)) => placed13_any fa a fn fc n c (Lg.trimX S p) ⟨(Lg.trimB S p).toArray⟩ W k h1 h2 (by show S.g.drop p ≠ []; rw [Rt.drop_at hpS]; exact List.cons_ne_nil _ _) HSX hS (by omega) hBl
 rw [floor_drop hpS (show (Lg.trimX S p).g = S.g.drop p from rfl), show placedP (Lg.trimX S p).d (Lg.snapN (Lg.trimF S p)) ⟨(Lg.trimB S p).toArray⟩ (man (Lg.trimX S p)) = Lg.trim3 S p from (trim3_p S p).symm] at PL
 have BD3 : Bd (Lg.trim3 S p).1 (k + 14) := by rw [trim3_p]; exact bd_placed hS hBl
 have GN := zid fun (W : World) (h : IsL SL W (.slice ga gn gc) S.g) => gone13_any (.slice fa fn fc) ga gn gc S p W h hn hB hpl
 have FR := fun (a : Option Addr) (n c : Nat) (la : Option Addr) (ln lc : Nat) (W : World) (h1 : IsL FL W (.slice a n c) (Lg.trim3 S p).1.f) (h2 : IsL NL W (.slice la ln lc) (goneL S p)) => freed13_any a n c (Lg.trim3 S p).1 la ln lc (goneL S p) W (k + 14) h1 h2 BD3 (by have := gone_len S p; omega)
 rw [← trim4_p] at FR
 have HTX := zid (show Lg.trimX S p = { S with v := S.v + 1, g := S.g.drop p, z := ((Lg.trimB S p).length : Int), c := (Cp.sum 0 (Lg.trimB S p) : Int) } from rfl)
 have HTK := (show p ≠ 0 → Lg.trimK S p = if (Lg.trim3 S p).2 ≠ 0 then ({ S with d := (Lg.trim3 S p).1 }, (Lg.trim3 S p).2) else ({ Lg.trimX S p with d := (Lg.trim4 S p (Lg.trim3 S p).1).1 }, (Lg.trim4 S p (Lg.trim3 S p).1).2) from fun h => if_neg h)
 obtain ⟨⟨D3, E3⟩, h3⟩ : ∃ R, Lg.trim3 S p = R := ⟨_, rfl⟩
 rw [h3] at PL FR HTK
 dsimp only at FR HTK
 obtain ⟨⟨D4, E4⟩, h4⟩ : ∃ R, Lg.trim4 S p D3 = R := ⟨_, rfl⟩
 rw [h4] at FR HTK
 replace HTK := zid HTK
 have HZ0 := zid (show p = 0 → Lg.trimK S p = (S, 0) from fun h => if_pos h)
 obtain ⟨⟨k0, k1, k2, k3, k4⟩, k5, k6, k7, k8, k9, k10⟩ := cellsS (M0.at_ (t := w.heap.size) (mcm mcs))
 obtain ⟨⟨q0, q1, q2, q3, q4⟩, q5, q6, q7, q8, q9, q10⟩ := cellsS (M0.at_ (t := w.heap.size + 1) mcs)
 have qf := frozenS (M0.at_ (t := w.heap.size + 1) mcs)
 have HGL := zid hgl
 have HBL := zid hlen
 clear M0 hgl hv hg hn hB hS hp hst hlen hM hL hx hfew h3 h4 BD3 HSX hje hj hBl hpS
 unfold stVal at WO FLO ST PL GN ⊢
 unfold WoOut stVal at WO
 unfold Lg.trimX at PL
 dsimp only at PL
 unfold dkVal at FR
 dsimp only at FLO WO
 replace WO := zid WO
 replace FLO := zid FLO
 replace ST := zid ST
 replace PL := zid PL
 replace FR := zid FR
 go_enter Tryz.func9, Tryz.ntmps9
 go_upto_region 1 with (fail)
 generalize World.alloc (World.alloc w _) _ = W0 at MM k0 k1 k2 k3 k4 k5 k6 k7 k8 k9 k10 q0 q1 q2 q3 q4 q5 q6 q7 q8 q9 q10 qf ⊢
 go_wp2_with fail
 refine (RP.out W0 (MM.out.sl mcs)).mono ?_
 rintro e w1 ⟨rfl, b1⟩
 have M1 := MM.out.keep b1
 have HM1 := zid M1
 clear k0 k1 k2 k3 k4 k5 k6 k7 k8 k9 k10 q0 q1 q2 q3 q4 q5 q6 q7 q8 q9 q10 qf b1 MM
 obtain ⟨⟨k0, k1, k2, k3, k4⟩, k5, k6, k7, k8, k9, k10⟩ := cellsS (M1.at_ (t := w.heap.size) (mcm mcs))
 by_cases hp0 : p = 0
 · have e0 : ((p : Int) == 0) = true := by simpa using hp0
   have HR := zid (HZ0.out hp0)
   obtain ⟨⟨q0, q1, q2, q3, q4⟩, q5, q6, q7, q8, q9, q10⟩ := cellsS (M1.at_ (t := w.heap.size + 1) mcs)
   have qf := frozenS (M1.at_ (t := w.heap.size + 1) mcs)
   clear hp0 M1
   go_wp2_with fail
   obtain ⟨Z, hZ, Z1⟩ := HM1.out.lay11 (t := w.heap.size + 1) (cs' := [(w.heap.size + 1, stB (.slice fa fn fc) (.slice ga gn gc) S)]) mcs (.slice fa fn fc) (.int .i64 S.d.c) (.bool S.d.a) (.int .i64 S.d.l) (.bool S.d.x) (.int .i64 S.v) (.slice ga gn gc) (.int .i64 S.x) (.int .i64 S.s) (.int .i64 S.z) (.int .u32 S.c) (fun p hp => .inl (List.mem_singleton.1 hp))
   rw [hZ]
   obtain ⟨⟨z0, z1, z2, z3, z4⟩, z5, z6, z7, z8, z9, z10⟩ := cellsS (Z1.at_ (t := w.heap.size + 1) mcs)
   rw [HR.out]
   refine bodyPost_ret (v := .tuple #[.agg #[.slice fa fn fc, .int .i64 S.d.c, .bool S.d.a, .int .i64 S.d.l, .bool S.d.x, .int .i64 S.v, .slice ga gn gc, .int .i64 S.x, .int .i64 S.s, .int .i64 S.z, .int .u32 S.c], .int .i64 0]) (by simp [results, Tryz.results9, go_sem, z0, z1, z2, z3, z4, z5, z6, z7, z8, z9, z10]) rfl ?_
   exact ⟨_, _, _, _, _, _, rfl, Z1.sts mcs mcs⟩
 · have e0 : ((p : Int) == 0) = false := by simpa using hp0
   replace HTK := zid (HTK.out hp0)
   clear hp0 HZ0 M1
   generalize Lg.stateT S (Lg.trimF S p) = L at *
   generalize Lg.trimB S p = B at *
   generalize Lg.trimF S p = T at *
   go_wp2_with fail
   refine (WO.out _ (HM1.out.fl mcs) (HM1.out.sl mcs)).mono ?_
   rintro e w2 ⟨ax, nx, cx, rfl, hx2, hs2, b2⟩
   have M2 := (HM1.out.fresh b2 hx2 hs2).alloc #[.slice fa fn fc, .int .i64 S.d.c, .bool S.d.a, .int .i64 S.d.l, .bool S.d.x, .int .i64 (S.v + 1), .slice ax nx cx, .int .i64 S.x, .int .i64 S.s, .int .i64 S.z, .int .u32 S.c] 32
   have HM2 := zid (show Lx w (.slice fa fn fc) (.slice ga gn gc) (.slice ax nx cx) S { S with v := S.v + 1, g := S.g.drop p } w2.heap.size _ from M2)
   have hxx : w.heap.size + 1 < w2.heap.size := Nat.lt_of_lt_of_le (HM1.out.lt (t := w.heap.size + 1) mcs) b2.size
   clear M2 hx2 hs2 b2 HM1 WO k0 k1 k2 k3 k4 k5 k6 k7 k8 k9 k10
   dsimp only
   go_upto_region 5 with (fail)
   generalize w2.alloc _ = W2 at HM2 ⊢
   generalize w2.heap.size = x at HM2 hxx ⊢
   go_cut [10] (fun v wc => v = .string ⟨B.toArray⟩ ∧ Below W2.heap.size W2 wc)
   case first =>
    obtain ⟨⟨k0, k1, k2, k3, k4⟩, k5, k6, k7, k8, k9, k10⟩ := cellsS HM2.out.as
    obtain ⟨⟨x0, x1, x2, x3, x4⟩, x5, x6, x7, x8, x9, x10⟩ := cellsS HM2.out.ax
    have hl0 : w.heap.size < W2.heap.size := (Array.getElem?_eq_some_iff.1 HM2.out.as).1
    have hl1 : x < W2.heap.size := (Array.getElem?_eq_some_iff.1 HM2.out.ax).1
    go_region_held3 (fun W => (∀ b o, b < W2.heap.size → W.cell? ⟨b, o, none⟩ = W2.cell? ⟨b, o, none⟩) ∧ Below W2.heap.size W2 W) (first | with_reducible assumption | with_reducible exact KW.dr _ | with_reducible exact KW.keep (by assumption) (Below.refl _ _).drew | with_reducible exact KW.keep (by assumption) (by assumption)) (first | (go_at_call 30; refine (FLO.out _ _ _ _ (HM2.out.sx.keep (KW.bel (by assumption)))).mono ?_; rintro e w5 ⟨rfl, q5⟩; have s5 := KW.keep (by assumption) q5) | (go_at_call 16; refine (ST.out _ (HM2.out.fl.keep (KW.bel (by assumption))) (HM2.out.sl.keep (KW.bel (by assumption)))).mono ?_; rintro e w5 ⟨pa, pn, pc, rfl, hpr, q5⟩; have HPR := zid hpr; clear hpr; have s5 := KW.keep (by assumption) q5) | (go_at_call 29; refine (BY.out _ _ (by first | exact HPR.out | exact HPR.out.below (Below.refl _ _).drew (Nat.le_refl _))).mono ?_; rintro e w5 ⟨rfl, q5⟩; have s5 := KW.keep (by assumption) q5))
    all_goals
     rename_i hh
     have LB := zid (KW.bel hh)
     clear hh
     go_wp2_with fail
     go_meet
     case rel => exact ⟨rfl, LB.out⟩
   case rest =>
    obtain ⟨rfl, bc⟩ := hcut
    have HM3 := zid (HM2.out.keep bc)
    clear bc HM2 FLO ST BY
    have hbl : B.length ≤ 3000 := HBL.out
    go_wp2_with fail
    refine (SUM.out wc).mono ?_
    rintro e w4 ⟨rfl, b4⟩
    have M4 := (HM3.out.keep ((Below.refl wc.heap.size wc).alloc (Nat.le_refl _) (.cells #[.string ⟨B.toArray⟩] 9))).keep b4
    have HM4 := zid M4
    clear b4 HM3 SUM
    obtain ⟨⟨x0, x1, x2, x3, x4⟩, x5, x6, x7, x8, x9, x10⟩ := cellsS M4.ax
    have xf := frozenS M4.ax
    clear M4
    go_upto_region 7 with (fail)
    obtain ⟨Z3, hZ3, MZ3⟩ := Ms.lay1 HM4.out (t := x) (cs' := [(x, stB (.slice fa fn fc) (.slice ax nx cx) { S with v := S.v + 1, g := S.g.drop p, z := (B.length : Int) }), (w.heap.size + 1, zB), (w.heap.size, stB (.slice fa fn fc) (.slice ga gn gc) S)]) mcs 9 (.int .i64 B.length) (three3 (by show w.heap.size + 1 ≠ x; omega) (by show w.heap.size ≠ x; omega))
    rw [hZ3]
    obtain ⟨Z4, hZ4, MZ4⟩ := MZ3.lay1 (t := x) (cs' := [(x, stB (.slice fa fn fc) (.slice ax nx cx) { S with v := S.v + 1, g := S.g.drop p, z := (B.length : Int), c := (Cp.sum 0 B : Int) }), (w.heap.size + 1, zB), (w.heap.size, stB (.slice fa fn fc) (.slice ga gn gc) S)]) mcs 10 (.int .u32 (Cp.sum 0 B : Int)) (three3 (by show w.heap.size + 1 ≠ x; omega) (by show w.heap.size ≠ x; omega))
    rw [hZ4]
    have HM5 := zid (show Lx w (.slice fa fn fc) (.slice ga gn gc) (.slice ax nx cx) S { S with v := S.v + 1, g := S.g.drop p, z := (B.length : Int), c := (Cp.sum 0 B : Int) } x Z4 from MZ4)
    clear hZ3 MZ3 hZ4 MZ4 HM4 x0 x1 x2 x3 x4 x5 x6 x7 x8 x9 x10 xf
    obtain ⟨⟨x0, x1, x2, x3, x4⟩, x5, x6, x7, x8, x9, x10⟩ := cellsS HM5.out.ax
    go_wp2_with fail
    refine (PL.out _ _ _ _ HM5.out.fl HM5.out.sx).mono ?_
    rintro e w5 ⟨a5, n5, c5, rfl, k5'⟩
    have M6 := (Ms.call HM5.out mcs k5').alloc #[.slice a5 n5 c5, .int .i64 D3.c, .bool D3.a, .int .i64 D3.l, .bool D3.x] 28
    have hyx : x < w5.heap.size := Nat.lt_of_lt_of_le (Array.getElem?_eq_some_iff.1 HM5.out.ax).1 k5'.w.size
    have HM6 := zid M6
    clear M6 k5' HM5 PL x0 x1 x2 x3 x4 x5 x6 x7 x8 x9 x10
    unfold dkVal
    dsimp only
    go_upto_region 8 with (fail)
    generalize w5.alloc _ = W6 at HM6 ⊢
    generalize w5.heap.size = y at HM6 hyx ⊢
    by_cases hE3 : E3 = 0
    case neg =>
     have HR := zid (show Lg.trimK S p = ({ S with d := D3 }, E3) by rw [HTK.out, if_pos hE3])
     have e1 : (E3 != 0) = true := by simpa using hE3
     obtain ⟨y0, y1, y2, y3, y4⟩ := cells5 (HM6.out.at_ (t := y) mcs)
     have kf := frozenS (HM6.out.at_ (t := w.heap.size) (mcm (mcm (mcm mcs))))
     obtain ⟨⟨k0, k1, k2, k3, k4⟩, k5, k6, k7, k8, k9, k10⟩ := cellsS (HM6.out.at_ (t := w.heap.size) (mcm (mcm (mcm mcs))))
     clear hE3 GN FR
     go_upto_region 10 with (fail)
     obtain ⟨Z, hZ, MZ⟩ := HM6.out.layD (t := w.heap.size) (cs' := [(w.heap.size + 1, zB), (w.heap.size, stB (.slice a5 n5 c5) (.slice ga gn gc) { S with d := D3 })]) (mcm (mcm (mcm mcs))) (.slice a5 n5 c5) (.int .i64 D3.c) (.bool D3.a) (.int .i64 D3.l) (.bool D3.x) (fun q hq => by
      simp only [List.mem_cons, List.not_mem_nil, or_false] at hq
      rcases hq with rfl | rfl
      · exact .inr ⟨mcm (mcm mcs), by show w.heap.size + 1 ≠ w.heap.size; omega⟩
      · exact .inl rfl)
     rw [hZ]
     have HMZ := zid MZ
     clear hZ y0 y1 y2 y3 y4 k0 k1 k2 k3 k4 k5 k6 k7 k8 k9 k10 kf HM6
     obtain ⟨⟨k0, k1, k2, k3, k4⟩, k5, k6, k7, k8, k9, k10⟩ := cellsS (MZ.at_ (t := w.heap.size) (mcm mcs))
     obtain ⟨⟨q0, q1, q2, q3, q4⟩, q5, q6, q7, q8, q9, q10⟩ := cellsS (MZ.at_ (t := w.heap.size + 1) mcs)
     have qf := frozenS (MZ.at_ (t := w.heap.size + 1) mcs)
     clear MZ
     go_wp2_with fail
     obtain ⟨Y, hY, MY⟩ := HMZ.out.lay11 (t := w.heap.size + 1) (cs' := [(w.heap.size + 1, stB (.slice a5 n5 c5) (.slice ga gn gc) { S with d := D3 })]) mcs (.slice a5 n5 c5) (.int .i64 D3.c) (.bool D3.a) (.int .i64 D3.l) (.bool D3.x) (.int .i64 S.v) (.slice ga gn gc) (.int .i64 S.x) (.int .i64 S.s) (.int .i64 S.z) (.int .u32 S.c) (fun p hp => .inl (List.mem_singleton.1 hp))
     rw [hY]
     obtain ⟨⟨z0, z1, z2, z3, z4⟩, z5, z6, z7, z8, z9, z10⟩ := cellsS (MY.at_ (t := w.heap.size + 1) mcs)
     rw [HR.out]
     refine bodyPost_ret (v := .tuple #[.agg #[.slice a5 n5 c5, .int .i64 D3.c, .bool D3.a, .int .i64 D3.l, .bool D3.x, .int .i64 S.v, .slice ga gn gc, .int .i64 S.x, .int .i64 S.s, .int .i64 S.z, .int .u32 S.c], .int .i64 E3]) (by simp [results, Tryz.results9, go_sem, z0, z1, z2, z3, z4, z5, z6, z7, z8, z9, z10]) rfl ?_
     exact ⟨_, _, _, _, _, _, rfl, MY.sts mcs (mcm mcs)⟩
    case pos =>
     subst hE3
     have HR := zid (show Lg.trimK S p = ({ Lg.trimX S p with d := D4 }, E4) by rw [HTK.out, if_neg (fun h => h rfl)])
     go_upto_region 11 with (fail)
     have PD := zid (HM6.out.keep (W' := W6.drew) (Below.refl _ _).drew)
     obtain ⟨y0, y1, y2, y3, y4⟩ := cells5 (PD.out.at_ (t := y) mcs)
     obtain ⟨⟨k0, k1, k2, k3, k4⟩, k5, k6, k7, k8, k9, k10⟩ := cellsS (PD.out.at_ (t := w.heap.size) (mcm (mcm (mcm mcs))))
     clear HM6
     go_region_with (first | (go_at_call 34; refine (GN.out _ (PD.out.sl (mcm mcs))).mono ?_; rintro e w6 ⟨la, ln, lc, rfl, hl6, b6⟩; have P6 := zid (PD.out.keep b6); have HL6 := zid hl6; obtain ⟨l0, l1, l2, l3, l4⟩ := cells5 (P6.out.at_ (t := y) mcs); clear hl6 b6) | (go_at_call 33; refine (FR.out _ _ _ _ _ _ _ (P6.out.fl mcs) HL6.out).mono ?_; rintro e w7 ⟨a7, n7, c7, rfl, k7'⟩; have P7 := zid (P6.out.call (D' := D4) mcs k7'); have mf := frozenS (P7.out.at_ (t := x) (mcm mcs)); have mc := cellsS (P7.out.at_ (t := x) (mcm mcs)); obtain ⟨⟨m0, m1, m2, m3, m4⟩, m5, m6, m7, m8, m9, m10⟩ := mc; clear k7'; unfold dkVal))
     all_goals
      go_upto_region 12 with (fail)
      obtain ⟨Z, hZ, MZ⟩ := P7.out.layD (t := x) (cs' := [(w.heap.size + 1, zB), (x, stB (.slice a7 n7 c7) (.slice ax nx cx) { Lg.trimX S p with d := D4 })]) (mcm mcs) (.slice a7 n7 c7) (.int .i64 D4.c) (.bool D4.a) (.int .i64 D4.l) (.bool D4.x) (fun q hq => by
       rw [HTX.out] at hq
       simp only [List.mem_cons, List.not_mem_nil, or_false] at hq
       rcases hq with rfl | rfl
       · exact .inr ⟨mcm (mcm mcs), by show w.heap.size + 1 ≠ x; omega⟩
       · exact .inl rfl)
      rw [HTX.out] at MZ
      rw [hZ]
      have HMZ := zid MZ
      clear hZ P7 P6 PD k0 k1 k2 k3 k4 k5 k6 k7 k8 k9 k10 l0 l1 l2 l3 l4 y0 y1 y2 y3 y4 m0 m1 m2 m3 m4 m5 m6 m7 m8 m9 m10 mf
      obtain ⟨⟨k0, k1, k2, k3, k4⟩, k5, k6, k7, k8, k9, k10⟩ := cellsS (MZ.at_ (t := x) (mcm mcs))
      obtain ⟨⟨q0, q1, q2, q3, q4⟩, q5, q6, q7, q8, q9, q10⟩ := cellsS (MZ.at_ (t := w.heap.size + 1) mcs)
      have qf := frozenS (MZ.at_ (t := w.heap.size + 1) mcs)
      clear MZ
      go_wp2_with fail
      obtain ⟨Y, hY, MY⟩ := HMZ.out.lay11 (t := w.heap.size + 1) (cs' := [(w.heap.size + 1, stB (.slice a7 n7 c7) (.slice ax nx cx) { S with d := D4, v := S.v + 1, g := S.g.drop p, z := (B.length : Int), c := (Cp.sum 0 B : Int) })]) mcs (.slice a7 n7 c7) (.int .i64 D4.c) (.bool D4.a) (.int .i64 D4.l) (.bool D4.x) (.int .i64 (S.v + 1)) (.slice ax nx cx) (.int .i64 S.x) (.int .i64 S.s) (.int .i64 B.length) (.int .u32 (Cp.sum 0 B : Int)) (fun p hp => .inl (List.mem_singleton.1 hp))
      rw [hY]
      obtain ⟨⟨z0, z1, z2, z3, z4⟩, z5, z6, z7, z8, z9, z10⟩ := cellsS (MY.at_ (t := w.heap.size + 1) mcs)
      rw [HR.out, HTX.out]
      refine bodyPost_ret (v := .tuple #[.agg #[.slice a7 n7 c7, .int .i64 D4.c, .bool D4.a, .int .i64 D4.l, .bool D4.x, .int .i64 (S.v + 1), .slice ax nx cx, .int .i64 S.x, .int .i64 S.s, .int .i64 B.length, .int .u32 (Cp.sum 0 B : Int)], .int .i64 E4]) (by simp [results, Tryz.results9, go_sem, z0, z1, z2, z3, z4, z5, z6, z7, z8, z9, z10]) rfl ?_
      exact ⟨_, _, _, _, _, _, rfl, MY.sts mcs mcs⟩
end Trm
namespace So
open Go.RowKit Dp
theorem calm_change {D : Dk} (h : Calm D) (l : List Fl) (o : Int) : Calm (Dp.change D l o).1 := by
 unfold Dp.change
 rw [if_neg (by rw [h.x]; decide)]
 split
 · exact h
 · rw [if_neg (by rw [h.a]; simp), if_neg (by rw [h.a]; decide)]
   exact ⟨h.x, h.a, h.c⟩
theorem calm_create {D : Dk} (h : Calm D) (n : ByteArray) : Calm (Dp.create D n).1 := by
 unfold Dp.create
 split
 · exact calm_change h _ _
 · split <;> exact calm_change h _ _
theorem calm_append {D : Dk} (h : Calm D) (n s : ByteArray) : Calm (Dp.append D n s).1 := by
 unfold Dp.append
 split
 · exact calm_change h _ _
 · split <;> exact calm_change h _ _
theorem calm_sync {D : Dk} (h : Calm D) (n : ByteArray) : Calm (Dp.sync D n).1 := by
 unfold Dp.sync
 split <;> exact calm_change h _ _
theorem calm_rename {D : Dk} (h : Calm D) (n m : ByteArray) : Calm (Dp.rename D n m).1 := by
 unfold Dp.rename
 split
 · exact calm_change h _ _
 · split <;> exact calm_change h _ _
theorem calm_delete {D : Dk} (h : Calm D) (n : ByteArray) : Calm (Dp.delete D n).1 := by
 unfold Dp.delete
 split <;> exact calm_change h _ _
theorem calm_swap {D : Dk} (h : Calm D) (m : Qm.Mn) : Calm (swap D m).1 := by
 have hs : ∀ (E : Dk) (s : ByteArray), Calm E → Calm (swapS E s).1 := fun E s hE => by
  have c1 := calm_create hE nn
  have c2 := calm_append c1 nn s
  have c3 := calm_sync c2 nn
  unfold swapS
  split
  · exact c1
  · split
    · exact calm_delete c2 nn
    · split
      · exact c2
      · split
        · exact c3
        · exact calm_rename c3 nn nm
 unfold swap
 split
 · exact h
 · split
   · split
     · exact calm_delete h nn
     · exact hs _ _ (calm_delete h nn)
   · exact hs _ _ h
theorem calm_create12 {D : Dk} (h : Calm D) : Calm (createT D).1.d := by
 unfold createT
 split
 · exact calm_create h _
 · dsimp only
   split <;> exact calm_swap (calm_create h _) _
theorem bd_emp : Dsk.Bd empty 0 := ⟨⟨⟨by decide, by decide⟩, ⟨by decide, by decide⟩⟩, Right.empty, by decide, by decide⟩
end So
namespace Trm
open Go.RowKit So Dsk Rts Sto
structure G13 (q : Int) (n k : Nat) (S : St) : Prop where
 log : ∃ F s0 rs, Lg.Log q S F s0 rs ∧ s0.length + rs.length ≤ n
 x : S.x ≤ (n : Int)
 v : S.v ≤ (k : Int) + 1
 d : Bd S.d (100 * (k + 1))
section
variable {q : Int} {n k : Nat} {S : St}
theorem G13.segs (h : G13 q n k S) : S.g.length ≤ 64 := by
 obtain ⟨F, s0, rs, hL, _⟩ := h.log
 have h1 : (S.g.map fun g => g.b).length ≤ 64 := hL.mo.n1
 rwa [List.length_map] at h1
theorem G13.ne (h : G13 q n k S) : S.g ≠ [] := by obtain ⟨F, s0, rs, hL, _⟩ := h.log; exact hL.ne
theorem G13.more (h : G13 q n k S) {n' k' : Nat} (hn : n ≤ n') (hk : k ≤ k') : G13 q n' k' S := by
 obtain ⟨F, s0, rs, hL, hl⟩ := h.log
 exact ⟨⟨F, s0, rs, hL, by omega⟩, by have := h.x; omega, by have := h.v; omega, h.d.mono (by omega)⟩
theorem G13.stb (h : G13 q n k S) (hq : q ≤ 1000) (hn : n ≤ 1000) (hk : k ≤ 500) : Stb S := by
 obtain ⟨F, s0, rs, hL, hl⟩ := h.log
 have hm := hL.mo
 have hv0 : 1 ≤ S.v := hm.v0
 have hv1 := h.v
 have hx := hL.x
 have hf := hL.f0
 have hxn := h.x
 have hb := hL.bases
 have hlo := hL.lo
 have hhi := hL.hi
 have hz : 0 ≤ S.z ∧ S.z ≤ 65536 := by
  rcases hm.z with ⟨_, h2, _⟩ | ⟨_, h2, h3⟩
  · have h2 : S.z = 0 := h2
    omega
  · have h2 : 1 ≤ S.z := h2
    have h3 : S.z ≤ 65536 := h3
    omega
 refine ⟨bd_sm3 h.d (by omega), ⟨by omega, by omega⟩, by have := h.segs; omega, fun g hg => ?_, ⟨by omega, by omega⟩, ⟨by omega, by omega⟩, ⟨hz.1, by omega⟩, hm.c⟩
 obtain ⟨⟨a, b⟩, ⟨c, d⟩, e, f⟩ := log_segs hL g hg
 exact ⟨⟨a, by omega⟩, ⟨c, by omega⟩, e, by omega⟩
theorem G13.may (h : G13 q n k S) (hq : q ≤ 1000) (hn : n ≤ 1000) : Rt.May S.g := by
 obtain ⟨F, s0, rs, hL, hl⟩ := h.log
 refine ⟨by have := h.segs; omega, fun g hg => ?_⟩
 obtain ⟨⟨a, b⟩, ⟨c, d⟩, e, f⟩ := log_segs hL g hg
 exact ⟨c, by omega, e, by omega⟩
theorem play_x {F : Int} {s0 : List Fp.Pr} {rs : List Rp.Rec} (hL : Lg.Log q S F s0 rs) (hq : 0 < q) (hv : S.v < 1099511627776) (i : Int) (a : Lg.Pa) : (Lg.playA q i S a).x ≤ S.x + 1 := by
 unfold Lg.playA
 split
 · show S.x ≤ _; omega
 split
 · obtain ⟨m, _, _, hx, _⟩ := hL.trim_law hv a.n a.m
   rw [hx]; omega
 split
 · show S.x ≤ _; omega
 split
 · show S.x ≤ _; omega
 · have hx := hL.x
   obtain ⟨_, _, h3⟩ := hL.append hq hv ⟨S.x, i, a.d⟩
   rcases h3 with ⟨_, _, _, h3⟩ | ⟨_, h3, _⟩
   · rw [h3.x, List.length_append, List.length_singleton]; omega
   · rw [h3.x]; omega
theorem G13.wants (h : G13 q n k S) (hn : n ≤ 40) : ∀ p, p < S.g.length → (Lg.trimB S p).length ≤ 3000 := fun p hp => by
 obtain ⟨F, s0, rs, hL, hl⟩ := h.log
 exact (log_wants hL (by omega) hp).2
theorem G13.play (h : G13 q n k S) (hq : 0 < q) (hn : n ≤ 40) (hk : k ≤ 1000) (i : Int) (a : Lg.Pa) (ha : a.n ≤ 9223372036854775807) : G13 q (n + 1) (k + 1) (Lg.playA q i S a) := by
 have hs := h.segs
 have hB := h.wants hn
 have hne := h.ne
 have hv0 := h.v
 obtain ⟨F, s0, rs, hL, hl⟩ := h.log
 have hv : S.v < 1099511627776 := by omega
 obtain ⟨F', s0', rs', h1, h2⟩ := hL.play_n hq hv i a
 refine ⟨⟨F', s0', rs', h1, by omega⟩, by have := play_x hL hq hv i a; have := h.x; omega, by have := (hL.play hq hv i a).2; omega, (bd_play hne h.d ha hB).mono (by omega)⟩
theorem G13.trim (h : G13 q n k S) (hn : n ≤ 40) (hk : k ≤ 1000) (keep count : Int) : G13 q n (k + 1) (Lg.trimT S keep count).1 := by
 have hs := h.segs
 have hB := h.wants hn
 have hne := h.ne
 have hv0 := h.v
 obtain ⟨F, s0, rs, hL, hl⟩ := h.log
 obtain ⟨m, hm, m2, m3, m4, m5, m6, m7, _⟩ := hL.trim_law (show S.v < 1099511627776 by omega) keep count
 refine ⟨⟨_, _, _, m2, ?_⟩, by rw [m3]; exact h.x, by omega, ?_⟩
 · have hl := Lg.fold_len ((rs.take m).map fun r => r.d) s0
   rw [List.length_map, List.length_take] at hl
   rw [List.length_drop]
   omega
 · unfold Lg.trimT
   exact (bd_trimK h.d (hB _ ((Lg.pickN_is S.g keep count).lt.2 (List.length_pos_iff.2 hne)))).mono (by omega)
end
theorem G13.new {q : Int} (hq : 0 ≤ q) : G13 q 0 0 (createT Dp.empty).1 := by
 obtain ⟨h1, h2, h3⟩ := Lg.Log.new (q := q) hq
 refine ⟨⟨0, [], [], h2, Nat.le_refl _⟩, by rw [h2.x]; exact Int.le_refl _, by rw [h3]; exact Int.le_refl _, ?_⟩
 exact (create_gd (k := 0) bd_emp (by decide) h1).d.mono (by omega)
theorem G13.acts {q : Int} (hq : 0 < q) (l : List Lg.Pa) (hl : ∀ a ∈ l, a.n ≤ 9223372036854775807) : ∀ n : Nat, n ≤ 40 → G13 q n n (Lg.playL q l n)
 | 0, _ => G13.new (by omega)
 | n + 1, hn => by
  rw [Lg.playL_succ]
  refine (G13.acts hq l hl n (by omega)).play hq (by omega) (by omega) n _ ?_
  rcases Nat.lt_or_ge n l.length with h | h
  · exact hl _ (by rw [getD_lt h]; exact List.getElem_mem h)
  · rw [List.getD_eq_getElem?_getD, List.getElem?_eq_none h]
    exact (by decide : (0 : Int) ≤ 9223372036854775807)
end Trm
end Go.Proofs.YtijbpdpkoamhbaaGreat
