/-
  Parts of what the laws of this seat stand on: RoAwk, RoRsw.
-/
import Derived.Test.YtooipogbmfkeeaaGreatQt1
import Derived.BigQuiet
import Derived.Deep.RegionHeld3
import Derived.Test.YtooipogbmfkeeaaGreatQt21
import Derived.Test.YtooipogbmfkeeaaGreatQt28
import Derived.Test.YtooipogbmfkeeaaGreatQt30
import Derived.Test.YtooipogbmfkeeaaGreatQt40
import Derived.Test.YtooipogbmfkeeaaGreatQt41
set_option maxRecDepth 100000
set_option maxHeartbeats 6400000
namespace Go.Proofs.YtooipogbmfkeeaaGreat
namespace Ro
open Go.RowKit So Dsk Rts Sto
theorem bd_crash {D : Dp.Dk} {k : Nat} (h : Bd D k) (ks : List Int) : Bd (Dp.crash D ks) (k + 1) := by
 have e : (Dp.act D ⟨8, 0, ⟨#[]⟩, ⟨#[]⟩, ks⟩).1 = Dp.crash D ks := by unfold Dp.act; simp
 rw [← e]
 exact bd_step3 h (a := ⟨8, 0, ⟨#[]⟩, ⟨#[]⟩, ks⟩) (by show (0 : Int) ≤ _; omega) (by show 0 ≤ 3000; omega)
theorem rcrash_s {a : Option Addr} {n c : Nat} {D : Dp.Dk} {k : Nat} {kv : Value} {ks : List Int} {w : World} (h : Bd D k) (hk : k ≤ 200000) (hv : IsL FL w (.slice a n c) D.f) (hkv : IsL KL w kv ks) :
 Calls Tryz.prog 19 #[dkVal (.slice a n c) D, kv] w fun e w' => ∃ a n c, e = .returned (dkVal (.slice a n c) (Dp.crash D ks)) ∧ IsL FL w' (.slice a n c) (Dp.crash D ks).f ∧ (∀ j, j < w.heap.size → Sep (.slice a n c) j) ∧ Below w.heap.size w w' := by
 refine (rcrash_any (.slice a n c) D kv ks w hv (bd_sm3 h (by omega)) hkv).mono ?_
 rintro e w' ⟨v, rfl, ho, hb⟩
 have hs := bd_sm3 (bd_crash h ks) (by omega)
 have hi := ho.is (by have := hs.n; unfold maxLen; exact Nat.le_trans this (by decide)) hs.flb
 obtain ⟨a', c', rfl, _⟩ := id hi
 exact ⟨_, _, _, rfl, hi, fun j hj => own_sep ho hj, hb⟩
theorem kl_two (W : World) (x y : Int) (hx : -9223372036854775808 ≤ x ∧ x ≤ 9223372036854775807) (hy : -9223372036854775808 ≤ y ∧ y ≤ 9223372036854775807) : IsL KL (W.alloc (.cells #[.int .i64 x, .int .i64 y] 3)) (.slice (some ⟨W.heap.size, 0, none⟩) 2 2) [x, y] := by
 refine ⟨_, 2, rfl, ⟨(by decide : 2 ≤ maxLen), Nat.le_refl 2⟩, fun z hz => ?_, .inr ⟨W.heap.size, 0, rfl, fun j u hj => ?_⟩⟩
 · simp only [List.mem_cons, List.not_mem_nil, or_false] at hz
   rcases hz with rfl | rfl
   · exact hx
   · exact hy
 · have := news_new W W.heap.size [.int .i64 x, .int .i64 y] 3 rfl j u hj
   rwa [addr_plain] at this
theorem awake14 (w : World) : Calls Tryz.prog 9 #[] w fun e w' => e = .returned (.bool true) ∧ Below w.heap.size w w' := by
 obtain ⟨S0, S1, X, Y, A⟩ := aw14
 have OP := fun W : World => open14_any none 0 0 Dp.empty W 0 (IsL.nil W none 0) bd_emp (by decide)
 rw [A.o] at OP
 have AP := fun (a a' : Option Addr) (n c n' c' : Nat) (W : World) (h1 : IsL FL W (.slice a n c) S0.d.f) (h2 : IsL Rts.SL W (.slice a' n' c') S0.g) => rappend12_any a a' n c n' c' S0 100 rA W _ h1 h2 A.g0.ne (A.g0.stb (by decide) (by decide) (by decide)) A.g0.d (by decide) (by have := A.g0.v; omega) ⟨by decide, by decide, by decide, by decide, by decide⟩
 rw [A.a] at AP
 have CR := fun (a : Option Addr) (n c : Nat) (kv : Value) (ks : List Int) (W : World) (h : IsL FL W (.slice a n c) S1.d.f) (hk : IsL KL W kv ks) => rcrash_s A.g1.d (by decide) h hk
 have OX := fun (a : Option Addr) (n c : Nat) (W : World) (h : IsL FL W (.slice a n c) (Dp.crash S1.d [9, 5]).f) => open14_any a n c (Dp.crash S1.d [9, 5]) W _ h (bd_crash A.g1.d _) (by decide)
 have OY := fun (a : Option Addr) (n c : Nat) (W : World) (h : IsL FL W (.slice a n c) (Dp.crash S1.d [9, 99]).f) => open14_any a n c (Dp.crash S1.d [9, 99]) W _ h (bd_crash A.g1.d _) (by decide)
 rw [A.x.1] at OX
 rw [A.y.1] at OY
 have hX := zid A.x.2
 have hY := zid A.y.2
 have hg0 := A.g
 unfold recVal rA at AP
 unfold stVal at AP
 unfold dkVal at OP CR OX OY
 unfold Dp.crash at OX OY CR
 dsimp only [Dp.empty] at OP
 dsimp only at OX OY CR AP
 replace OP := zid OP
 replace AP := zid AP
 replace CR := zid CR
 replace OX := zid OX
 replace OY := zid OY
 have M0 := zid (Ms.start (w := w) (fv := .slice none 0 0) (gv := .slice none 0 0) (lf := []) (lg := []) (IsL.nil w none 0) (IsL.nil w none 0))
 clear A
 go_enter Tryz.func9, Tryz.ntmps9
 go_wp2_with fail
 refine (OP.out _).mono ?_
 rintro e w1 ⟨a1, n1, c1, a2, n2, c2, rfl, ks⟩
 have hn2 : n2 = 1 := by have := ks.g.len.1; rw [hg0] at this; exact this
 subst hn2
 have M1 := zid ((M0.out.call2 mcs mcs ks).alloc #[.slice a1 n1 c1, .int .i64 S0.d.c, .bool S0.d.a, .int .i64 S0.d.l, .bool S0.d.x, .int .i64 S0.v, .slice a2 1 c2, .int .i64 S0.x, .int .i64 S0.s, .int .i64 S0.z, .int .u32 S0.c] 30)
 clear ks M0 OP hg0
 unfold stVal
 dsimp only
 go_upto_region 2 with (fail)
 generalize w1.alloc _ = w2 at M1 ⊢
 generalize w1.heap.size = t at M1 ⊢
 obtain ⟨⟨k0, k1, k2, k3, k4⟩, k5, k6, k7, k8, k9, k10⟩ := cellsS (M1.out.at_ (t := t) mcs)
 go_wp2_with fail
 refine (AP.out _ _ _ _ _ _ _ (M1.out.fl mcs) (M1.out.sl mcs)).mono ?_
 rintro e w3 ⟨a3, n3, c3, a4, n4, c4, rfl, ks⟩
 have kf := frozenS (hkeep (M1.out.at_ (t := t) mcs) ks.w)
 have kk := cellsS (hkeep (M1.out.at_ (t := t) mcs) ks.w)
 have LY := zid ((M1.out.call2 mcs mcs ks).lay11 (t := t) (cs' := [(t, sC (.slice a3 n3 c3) (.slice a4 n4 c4) S1)]) mcs (.slice a3 n3 c3) (.int .i64 S1.d.c) (.bool S1.d.a) (.int .i64 S1.d.l) (.bool S1.d.x) (.int .i64 S1.v) (.slice a4 n4 c4) (.int .i64 S1.x) (.int .i64 S1.s) (.int .i64 S1.z) (.int .u32 S1.c) (fun p hp => .inl (List.mem_singleton.1 hp)))
 clear k0 k1 k2 k3 k4 k5 k6 k7 k8 k9 k10 ks AP M1
 obtain ⟨⟨k0, k1, k2, k3, k4⟩, k5, k6, k7, k8, k9, k10⟩ := kk
 unfold stVal
 go_upto_region 5 with (fail)
 obtain ⟨Z, hZ, MZ⟩ := LY.out
 rw [hZ]
 have M2 := zid MZ
 clear hZ MZ LY k0 k1 k2 k3 k4 k5 k6 k7 k8 k9 k10 kf
 obtain ⟨⟨k0, k1, k2, k3, k4⟩, k5, k6, k7, k8, k9, k10⟩ := cellsS (M2.out.at_ (t := t) mcs)
 have KN := zid (kl_two Z 9 5 (by decide) (by decide))
 have AB := zid (al_bel Z (.cells #[.int .i64 9, .int .i64 5] 3))
 go_wp2_with fail
 refine (CR.out _ _ _ _ [9, 5] _ ((M2.out.keep AB.out).fl mcs) KN.out).mono ?_
 rintro e w4 ⟨a5, n5, c5, rfl, hc, _, b4⟩
 have HC := zid hc
 have B4 := zid (AB.out.trans (b4.mono AB.out.size))
 clear hc b4 k0 k1 k2 k3 k4 k5 k6 k7 k8 k9 k10 KN AB
 go_wp2_with fail
 refine (OX.out _ _ _ _ HC.out).mono ?_
 rintro e w5 ⟨a6, n6, c6, a7, n7, c7, rfl, ks⟩
 have ALC := al_bel w5 (.cells #[.slice a6 n6 c6, .int .i64 X.d.c, .bool X.d.a, .int .i64 X.d.l, .bool X.d.x, .int .i64 X.v, .slice a7 n7 c7, .int .i64 X.x, .int .i64 X.s, .int .i64 X.z, .int .u32 X.c] 30)
 have HXB := zid (heap_alloc_new w5 (.cells #[.slice a6 n6 c6, .int .i64 X.d.c, .bool X.d.a, .int .i64 X.d.l, .bool X.d.x, .int .i64 X.v, .slice a7 n7 c7, .int .i64 X.x, .int .i64 X.s, .int .i64 X.z, .int .u32 X.c] 30))
 have M3 := zid (((M2.out.keep B4.out).keep ks.w).keep ALC)
 clear ks B4 HC ALC M2 OX
 unfold stVal
 dsimp only
 go_upto_region 6 with (fail)
 generalize w5.alloc _ = w6 at M3 HXB ⊢
 generalize w5.heap.size = tx at HXB ⊢
 obtain ⟨⟨k0, k1, k2, k3, k4⟩, k5, k6, k7, k8, k9, k10⟩ := cellsS (M3.out.at_ (t := t) mcs)
 have KN := zid (kl_two w6 9 99 (by decide) (by decide))
 have AB := zid (al_bel w6 (.cells #[.int .i64 9, .int .i64 99] 3))
 go_wp2_with fail
 refine (CR.out _ _ _ _ [9, 99] _ ((M3.out.keep AB.out).fl mcs) KN.out).mono ?_
 rintro e w7 ⟨a8, n8, c8, rfl, hc, _, b7⟩
 have HC := zid hc
 have B7 := zid (AB.out.trans (b7.mono AB.out.size))
 clear hc b7 k0 k1 k2 k3 k4 k5 k6 k7 k8 k9 k10 KN AB
 go_wp2_with fail
 refine (OY.out _ _ _ _ HC.out).mono ?_
 rintro e w8 ⟨a9, n9, c9, a10, n10, c10, rfl, ks⟩
 have ALC := al_bel w8 (.cells #[.slice a9 n9 c9, .int .i64 Y.d.c, .bool Y.d.a, .int .i64 Y.d.l, .bool Y.d.x, .int .i64 Y.v, .slice a10 n10 c10, .int .i64 Y.x, .int .i64 Y.s, .int .i64 Y.z, .int .u32 Y.c] 30)
 have HYB := zid (heap_alloc_new w8 (.cells #[.slice a9 n9 c9, .int .i64 Y.d.c, .bool Y.d.a, .int .i64 Y.d.l, .bool Y.d.x, .int .i64 Y.v, .slice a10 n10 c10, .int .i64 Y.x, .int .i64 Y.s, .int .i64 Y.z, .int .u32 Y.c] 30))
 have HXB2 := zid (hkeep (hkeep (hkeep HXB.out B7.out) ks.w) ALC)
 have M4 := zid (((M3.out.keep B7.out).keep ks.w).keep ALC)
 clear ks B7 HC ALC M3 OY HXB CR
 unfold stVal
 dsimp only
 go_upto_region 7 with (fail)
 generalize w8.alloc _ = w9 at M4 HXB2 HYB ⊢
 generalize w8.heap.size = ty at HYB ⊢
 obtain ⟨⟨k0, k1, k2, k3, k4⟩, k5, k6, k7, k8, k9, k10⟩ := cellsS HXB2.out
 obtain ⟨⟨y0, y1, y2, y3, y4⟩, y5, y6, y7, y8, y9, y10⟩ := cellsS HYB.out
 have BW := zid M4.out.w
 rw [hX.out] at k7
 rw [hY.out] at y7
 clear M4 HXB2 HYB hX hY k0 k1 k2 k3 k4 k5 k6 k8 k9 k10 y0 y1 y2 y3 y4 y5 y6 y8 y9 y10
 go_wp2_with fail
 go_ret
 exact ⟨by first | rfl | simp, BW.out⟩
theorem Rw.keep {w W W' : World} {fv0 lv v : Value} {P : World → Prop} {l U : List ByteArray} {R : Dp.Dk × Int} {k t1 j : Nat} {D : Dp.Dk} (h : Rw w fv0 lv P l U R k v D t1 j W) (b : Below W.heap.size W W') (hP : P W → P W') : Rw w fv0 lv P l U R k v D t1 j W' :=
 ⟨h.c.keep b, h.i.keep b, hP h.s, h.b, h.e⟩
theorem rsweep14_any (fa : Option Addr) (fn fc : Nat) (D : Dp.Dk) (ua : Option Addr) (un uc : Nat) (U : List ByteArray) (w : World) (k : Nat) (hv : IsL FL w (.slice fa fn fc) D.f) (hS : Bd D k) (hk : k ≤ 10000) (hm : IsL Dsk.SL w (.slice ua un uc) U) (hun : un ≤ 10000) :
 Calls Tryz.prog 33 #[dkVal (.slice fa fn fc) D, .slice ua un uc] w (DkAns w (.slice fa fn fc) (Lg.sweep D U)) := by
 obtain ⟨l, hl⟩ : ∃ l, D.f.map (·.n) = l := ⟨_, rfl⟩
 have hll : l.length ≤ 10000 := by rw [← hl, List.length_map]; have := hS.n; omega
 have NM := zid fun (W : World) (h : IsL FL W (.slice fa fn fc) D.f) => rnames_any (.slice fa fn fc) D W h (by have := hS.n; omega)
 rw [hl] at NM
 have HSW := zid (show Lg.sweepT U D l = Lg.sweep D U by rw [← hl]; rfl)
 obtain ⟨R, hR⟩ : ∃ R, Lg.sweep D U = R := ⟨_, rfl⟩
 rw [hR] at HSW
 rw [hR]
 have C0 := zid (Cw.start (w := w) hv #[.slice none 0 0, .int .i64 0, .bool false, .int .i64 0, .bool false] 24)
 have HUP := zid (IsL.sep_new hm (Nat.le_refl _))
 have HUL := zid hm.len.1
 have HS := zid hS
 have HM := zid hm
 unfold dkVal at NM
 clear hv hR hl hS hm
 unfold dkVal
 go_enter Tryz.func33, Tryz.ntmps33
 go_upto_region 1 with (fail)
 obtain ⟨w0, hw0⟩ : ∃ w0, (w.alloc (.cells #[.slice fa fn fc, .int .i64 D.c, .bool D.a, .int .i64 D.l, .bool D.x] 24)).alloc (.cells #[.slice none 0 0, .int .i64 0, .bool false, .int .i64 0, .bool false] 24) = w0 := ⟨_, rfl⟩
 unfold dC at C0
 rw [hw0] at C0 ⊢
 have C0 := zid (show Cw w (.slice fa fn fc) w.heap.size (.slice fa fn fc) D (w.heap.size + 1) dZ [] w0 from C0.out)
 have HM0 := zid (HM.out.keep C0.out.bw)
 clear hw0 HM
 obtain ⟨p0, p1, p2, p3, p4⟩ := cells5 C0.out.d
 go_wp2_with fail
 refine (NM.out _ C0.out.f).mono ?_
 rintro e w1 ⟨lv, rfl, ho, b1⟩
 have hol : IsL Dsk.SL w1 lv l := ho.is (by unfold maxLen; omega) (fun _ _ => trivial)
 obtain ⟨la, lc, rfl, _⟩ := id hol
 have HSP := zid (own_sep ho C0.out.lt)
 obtain ⟨ln, hln⟩ : ∃ ln, l.length = ln := ⟨_, rfl⟩
 rw [hln] at hll
 have HLN := zid hln
 have HOL := zid (show IsL Dsk.SL w1 (.slice la ln lc) l by rw [← hln]; exact hol)
 have C1 := zid (show Rw w (.slice fa fn fc) (.slice la ln lc) (fun W => IsL Dsk.SL W (.slice ua un uc) U) l U R k (.slice fa fn fc) D (w.heap.size + 1) 0 w1 from ⟨C0.out.keep b1, HOL.out, HM0.out.keep b1, HS.out, HSW.out⟩)
 rw [hln] at HSP ⊢
 clear ho hol hln b1 C0 HM0 HS HSW NM p0 p1 p2 p3 p4 HOL
 go_wp2_with fail
 go_loopw [7] (fun i wr => ∃ j : Nat, j ≤ ln ∧ i = .int .i64 j ∧ ∃ a n c Dj, Hid (Rw w (.slice fa fn fc) (.slice la ln lc) (fun W => IsL Dsk.SL W (.slice ua un uc) U) l U R k (.slice a n c) Dj (w.heap.size + 1) j wr)) (fun i _ => ln - (intOf i).toNat)
 case atStart => exact ⟨0, Nat.zero_le _, rfl, _, _, _, _, C1⟩
 case round =>
  clear C1
  obtain ⟨j, hj, rfl, a, n, c, Dj, HR⟩ := hrel
  by_cases hlt : j < ln
  case neg =>
   have HF := zid (show R = (Dj, 0) by rw [← HR.out.e, List.drop_of_length_le (by rw [HLN.out]; omega)]; rfl)
   obtain ⟨p0, p1, p2, p3, p4⟩ := cells5 HR.out.c.d
   obtain ⟨z0, z1, z2, z3, z4⟩ := cells5 HR.out.c.r
   obtain ⟨zf0, zf1, zf2, zf3, zf4⟩ := frozen5 HR.out.c.r
   go_wp2_with fail
   obtain ⟨Y, hY, hr, hA⟩ := HR.out.c.ret
   rw [hY]
   obtain ⟨x0, x1, x2, x3, x4⟩ := cells5 hr
   refine bodyPost_ret (v := .tuple #[dkVal (.slice a n c) Dj, .int .i64 0]) (by unfold dkVal; simp [results, Tryz.results33, go_sem, x0, x1, x2, x3, x4]) rfl ?_
   rw [HF.out]
   exact hA 0
  case pos =>
  obtain ⟨ab, ao, rfl, c0⟩ := sl_at HR.out.i hlt
  have hjl : j < l.length := by rw [HLN.out]; exact hlt
  have HD := zid (show l.drop j = l.getD j ⟨#[]⟩ :: l.drop (j + 1) by rw [getD_lt hjl]; exact List.drop_eq_getElem_cons hjl)
  generalize l.getD j ⟨#[]⟩ = nn at c0 HD
  clear hjl
  go_wp2_with fail
  go_loopw [8, 9] (fun kp i wi => ∃ (m q : Nat) (bb : Bool), m ≤ un ∧ i = .int .i64 m ∧ kp = .bool bb ∧ (bb = true ↔ nn ∈ U.take m) ∧ wi = wr.drewN q) (fun _ i _ => un - (intOf i).toNat)
  case atStart => exact ⟨0, 0, false, Nat.zero_le _, rfl, rfl, by simp, rfl⟩
  case round =>
   obtain ⟨m, q, bb, hm, rfl, rfl, hbb, rfl⟩ := hrel
   by_cases hlt2 : m < un
   case pos =>
    obtain ⟨b2, o2, rfl, c2⟩ := sl_at HR.out.s hlt2
    have HT := zid (take_snocD (l := U) (k := m) (z := ⟨#[]⟩) (by rw [← HUL.out]; exact hlt2))
    generalize U.getD m ⟨#[]⟩ = un2 at c2 HT
    have HBB := zid hbb
    clear hbb
    cases bb with
    | true =>
     go_wp2_with fail
     go_quiet (fail)
     go_wp2_with fail
     go_roundw
     case rel => exact ⟨m + 1, _, true, by omega, by go_num, rfl, ⟨fun _ => by rw [HT.out]; exact List.mem_append_left _ (HBB.out.1 (by first | rfl | trivial)), fun _ => rfl⟩, rfl⟩
     case measure => simp [intOf]; omega
    | false =>
     by_cases he : un2 = nn
     · have heq : (un2.toList == nn.toList) = true := by rw [he]; simp
       have HE := zid he
       clear he
       go_wp2_with fail
       go_quiet (fail)
       go_wp2_with fail
       go_roundw
       case rel => exact ⟨m + 1, _, true, by omega, by go_num, by first | rfl | simp, ⟨fun _ => by rw [HT.out, HE.out]; simp, fun _ => rfl⟩, rfl⟩
       case measure => simp [intOf]; omega
     · have heq := str_ne he
       have HE := zid he
       clear he
       go_wp2_with fail
       go_quiet (fail)
       go_wp2_with fail
       go_roundw
       case rel => exact ⟨m + 1, _, false, by omega, by go_num, by first | rfl | simp, ⟨fun h => (by cases h), fun h => by
        rw [HT.out] at h
        rcases List.mem_append.1 h with h | h
        · exact absurd (HBB.out.2 h) (by decide)
        · exact absurd (List.mem_singleton.1 h).symm HE.out⟩, rfl⟩
       case measure => simp [intOf]; omega
   case neg =>
   obtain rfl : m = un := by omega
   rw [List.take_of_length_le (by rw [HUL.out]; exact Nat.le_refl _)] at hbb
   have HR2 := zid (HR.out.keep (bel_drewN q) (fun h => h.keep (bel_drewN q)))
   have c3 : (wr.drewN q).cell? ⟨ab, ao + j, none⟩ = some (.string nn) := c0
   generalize wr.drewN q = w2 at HR2 c3 ⊢
   clear c0 HR
   cases bb with
   | true =>
    have HN := zid (show Lg.sweepT U Dj (l.drop (j + 1)) = R by rw [← HR2.out.e, HD.out, Lg.sweepT_use (hbb.1 rfl)])
    clear hbb HD
    go_wp2_with fail
    go_roundw
    case rel => exact ⟨j + 1, by omega, by go_num, a, n, c, Dj, zid ⟨HR2.out.c, HR2.out.i, HR2.out.s, HR2.out.b.mono (by omega), HN.out⟩⟩
    case measure => simp [intOf]; omega
   | false =>
    have hu : nn ∉ U := fun h => absurd (hbb.2 h) (by decide)
    have HE := zid (fun h : (Dp.delete Dj nn).2 ≠ 0 => show R = Dp.delete Dj nn by rw [← HR2.out.e, HD.out, Lg.sweepT_err hu h])
    have HN := zid (fun h : (Dp.delete Dj nn).2 = 0 => show Lg.sweepT U (Dp.delete Dj nn).1 (l.drop (j + 1)) = R by rw [← HR2.out.e, HD.out, Lg.sweepT_go hu h])
    have HB := zid (bd_delete HR2.out.b nn)
    have DL := fun (W : World) (h : IsL FL W (.slice a n c) Dj.f) => rdelete_s HR2.out.b (by omega) nn h
    obtain ⟨⟨T, E⟩, hT⟩ : ∃ X, Dp.delete Dj nn = X := ⟨_, rfl⟩
    rw [hT] at HE HN HB DL
    dsimp only at HE HN HB
    unfold dkVal at DL
    replace DL := zid DL
    clear hu hbb HD hT
    obtain ⟨p0, p1, p2, p3, p4⟩ := cells5 HR2.out.c.d
    have hal := block_lt_of_cell c3
    have hbl := HR2.out.c.lt
    have HMS := zid HR2.out.c.2.2
    go_upto_region 11 with (fail)
    go_cut [10, 11] (fun p v wc => ∃ t : Nat, p = .pointer (some ⟨t, 0, none⟩) ∧ v = .int .i64 E ∧ NwR w w.heap.size (.slice fa fn fc) (.slice none 0 0) [(w.heap.size, dC (.slice a n c) Dj), (w.heap.size + 1, dZ)] [(.slice a n c, Dj.f)] [] T t wc ∧ Below w2.heap.size w2 wc)
    case first =>
     go_region_held3 (fun W => (∀ b o, b < w2.heap.size → W.cell? ⟨b, o, none⟩ = w2.cell? ⟨b, o, none⟩) ∧ Below w2.heap.size w2 W) (first | with_reducible assumption | with_reducible exact KW.al5 (by assumption) | with_reducible exact KW.al (by assumption) | with_reducible exact KW.ad (KW.start _) | with_reducible exact KW.ad (by assumption) | with_reducible exact KW.dr _ | with_reducible exact KW.st5 (by assumption) (by assumption) | with_reducible exact KW.st5 (by assumption) (Nat.le_refl _) | with_reducible exact KW.keep (by assumption) (Below.refl _ _).drew | with_reducible exact KW.keep (by assumption) (by assumption)) (first | (go_at_call 66; refine (DL.out _ (HR2.out.c.f.keep (KW.bel (by assumption)))).mono ?_; rintro e w5 ⟨a5, n5, c5, rfl, k5'⟩; have q5 := k5'.w; have s5 := KW.keep (by assumption) q5; have q4 := KW.at (by assumption) q5; (first | (with_reducible have z5 := hkeep (alloc_drew_new _ _ _) q5) | skip); (first | (have zc := cells5 z5; have zf := frozen5 z5; obtain ⟨y0, y1, y2, y3, y4⟩ := zc; obtain ⟨yf0, yf1, yf2, yf3, yf4⟩ := zf) | skip); unfold dkVal))
     all_goals
      rename_i hh
      have LB := zid (KW.bel hh)
      clear hh
      go_wp2_with fail
      go_meet
      case rel =>
       first
        | (refine ⟨_, rfl, rfl, ?_, LB.out⟩; with_reducible exact NwR.A HMS.out q4 k5')
        | (refine ⟨_, rfl, rfl, ?_, LB.out⟩; with_reducible exact NwR.B HMS.out q4 k5' z5 (Nat.le_refl _) (by simp))
    case rest =>
    obtain ⟨t, rfl, rfl, ⟨a5, n5, c5, hne, M5⟩, bw⟩ := hcut
    have HK := zid (And.intro (HR2.out.i.keep bw) (IsL.keep HR2.out.s bw))
    obtain ⟨q0, q1, q2, q3, q4⟩ := cells5 (M5.at_ (t := t) mcs)
    obtain ⟨y0, y1, y2, y3, y4⟩ := cells5 (M5.at_ (t := w.heap.size) (mcm mcs))
    obtain ⟨yf0, yf1, yf2, yf3, yf4⟩ := frozen5 (M5.at_ (t := w.heap.size) (mcm mcs))
    have LY := zid (M5.lay5 (t := w.heap.size) (cs' := [(w.heap.size, dC (.slice a5 n5 c5) T), (w.heap.size + 1, dZ)]) (mcm mcs) (.slice a5 n5 c5) (.int .i64 T.c) (.bool T.a) (.int .i64 T.l) (.bool T.x) (fun r hr => by
     simp only [List.mem_cons, List.not_mem_nil, or_false] at hr ⊢
     rcases hr with rfl | rfl
     · exact .inl rfl
     · exact .inr ⟨.inr (.inr rfl), by show w.heap.size + 1 ≠ w.heap.size; omega⟩))
    clear p0 p1 p2 p3 p4 hne M5 bw c3 hal DL HR2 HMS
    go_upto_region 13 with (fail)
    obtain ⟨Z, hZ, MZ⟩ := LY.out
    have gZ := grown5 wc w.heap.size (.slice a5 n5 c5) (.int .i64 T.c) (.bool T.a) (.int .i64 T.l) (.bool T.x)
    rw [hZ] at gZ ⊢
    have HRZ := zid (show IsL Dsk.SL Z _ l ∧ IsL Dsk.SL Z _ U from ⟨IsL.grown12 HK.out.1 gZ (fun q e => by injection e with e; rw [← e]; exact HSP.out), IsL.grown12 HK.out.2 gZ (fun q e => by injection e with e; rw [← e]; exact HUP.out)⟩)
    have HCZ := zid (show Cw w (.slice fa fn fc) w.heap.size (.slice a5 n5 c5) T (w.heap.size + 1) dZ [] Z from ⟨by omega, fun p hp => absurd hp List.not_mem_nil, MZ.sub (fun _ h => h) (fun p hp => by rw [List.mem_singleton] at hp; rw [hp]; exact mcs) (fun _ h => h)⟩)
    clear hZ MZ gZ LY y0 y1 y2 y3 y4 yf0 yf1 yf2 yf3 yf4 q0 q1 q2 q3 q4 HK hbl
    by_cases hE : E = 0
    · subst hE
      replace HN := zid (HN.out rfl)
      clear HE
      go_wp2_with fail
      go_roundw
      case rel => exact ⟨j + 1, by omega, by go_num, a5, n5, c5, T, zid ⟨HCZ.out, HRZ.out.1, HRZ.out.2, HB.out, HN.out⟩⟩
      case measure => simp [intOf]; omega
    · replace HE := zid (HE.out hE)
      have hE' : (E != 0) = true := by simpa using hE
      obtain ⟨p0, p1, p2, p3, p4⟩ := cells5 HCZ.out.d
      obtain ⟨z0, z1, z2, z3, z4⟩ := cells5 HCZ.out.r
      obtain ⟨zf0, zf1, zf2, zf3, zf4⟩ := frozen5 HCZ.out.r
      clear HN
      go_wp2_with fail
      obtain ⟨Y, hY, hr, hA⟩ := HCZ.out.ret
      rw [hY]
      obtain ⟨x0, x1, x2, x3, x4⟩ := cells5 hr
      refine bodyPost_ret (v := .tuple #[dkVal (.slice a5 n5 c5) T, .int .i64 E]) (by unfold dkVal; simp [results, Tryz.results33, go_sem, x0, x1, x2, x3, x4]) rfl ?_
      rw [HE.out]
      exact hA E
end Ro
end Go.Proofs.YtooipogbmfkeeaaGreat
