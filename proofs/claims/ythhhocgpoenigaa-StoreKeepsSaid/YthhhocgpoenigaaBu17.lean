/-
  Parts of what the laws of this seat stand on: StoManP, StoCrt, StoSyn, StoClone.
-/
import Derived.Test.YthhhocgpoenigaaBu1
import Derived.Test.YthhhocgpoenigaaBu11
import Derived.Test.YthhhocgpoenigaaBu15
import Derived.Test.YthhhocgpoenigaaBu16
import Derived.Test.YthhhocgpoenigaaBu2
import Derived.Test.YthhhocgpoenigaaBu5
import Derived.Test.YthhhocgpoenigaaBu8
namespace Go.Proofs.Ythhhocgpoenigaa.Sto
open Go.RowKit Go.Proofs.Ythhhocgpoenigaa.So Go.Proofs.Ythhhocgpoenigaa.Dsk Go.Proofs.Ythhhocgpoenigaa.Rts

set_option maxRecDepth 100000 in
set_option maxHeartbeats 1600000 in
theorem man12_any (fv gv : Value) (S : St) (w : World) (hg : IsL SL w gv S.g) (hB : Stb S) :
    Calls Try.prog 16 #[stVal fv gv S] w (ManOut w (man S)) := by
  obtain ⟨ga, gn, gc, rfl⟩ : ∃ a n c, gv = .slice a n c := by obtain ⟨a, c, h, _⟩ := hg; exact ⟨a, _, c, h⟩
  have hgl := hg.len.1
  have hgn : gn ≤ 1000 := by rw [hgl]; exact hB.n
  have HGL := Lib.hid hgl
  have HB := Lib.hid hB
  obtain ⟨i1, hj, hy0, hy1, hy2⟩ := info_parts info_int12
  have R1 := Lib.hid (halloc (o := .cells #[.int .i64 S.v, .slice none 0 0, .int .i64 S.z, .int .u32 S.c] 61) (halloc (o := .cells #[.int .i64 0, .slice none 0 0, .int .i64 0, .int .u32 0] 61) (heap_alloc_new w (.cells (stCells fv (.slice ga gn gc) S) 31))))
  have R2 := halloc (o := .cells #[.int .i64 S.v, .slice none 0 0, .int .i64 S.z, .int .u32 S.c] 61) (heap_alloc_new (w.alloc (.cells (stCells fv (.slice ga gn gc) S) 31)) (.cells #[.int .i64 0, .slice none 0 0, .int .i64 0, .int .u32 0] 61))
  have R3 := heap_alloc_new ((w.alloc (.cells (stCells fv (.slice ga gn gc) S) 31)).alloc (.cells #[.int .i64 0, .slice none 0 0, .int .i64 0, .int .u32 0] 61)) (.cells #[.int .i64 S.v, .slice none 0 0, .int .i64 S.z, .int .u32 S.c] 61)
  have RB := Lib.hid ((((Below.refl w.heap.size w).alloc (Nat.le_refl _) (.cells (stCells fv (.slice ga gn gc) S) 31)).alloc (by simp) (.cells #[.int .i64 0, .slice none 0 0, .int .i64 0, .int .u32 0] 61)).alloc (by simp; omega) (.cells #[.int .i64 S.v, .slice none 0 0, .int .i64 S.z, .int .u32 S.c] 61))
  simp only [World.size_alloc] at R2 R3
  replace R2 := Lib.hid R2
  replace R3 := Lib.hid R3
  clear hgl hB
  unfold stCells at R1 R2 R3 RB
  unfold stVal
  go_enter Try.func16, Try.ntmps16
  go_wp2_with fail
  generalize ((w.alloc _).alloc _).alloc _ = w0 at R1 R2 R3 RB ⊢
  obtain ⟨⟨k0, k1, k2, k3, k4⟩, k5, k6, k7, k8, k9, k10⟩ := cellsS R1.out
  go_loopw [16] (fun i wr => ∃ k : Nat, k ≤ gn ∧ i = .int .i64 k ∧ ∃ v, OwnL Mfs.IL wr w.heap.size v ((S.g.map (·.b)).take k) ∧ wr.heap[w.heap.size]? = some (.cells #[fv, .int .i64 S.d.c, .bool S.d.a, .int .i64 S.d.l, .bool S.d.x, .int .i64 S.v, .slice ga gn gc, .int .i64 S.x, .int .i64 S.s, .int .i64 S.z, .int .u32 S.c] 31 (0, 0)) ∧ wr.heap[w.heap.size + 1]? = some (.cells #[.int .i64 0, .slice none 0 0, .int .i64 0, .int .u32 0] 61 (0, 0)) ∧ wr.heap[w.heap.size + 1 + 1]? = some (.cells #[.int .i64 S.v, v, .int .i64 S.z, .int .u32 S.c] 61 (0, 0)) ∧ Below w.heap.size w wr) (fun i _ => gn - (intOf i).toNat)
  case atStart => exact ⟨0, Nat.zero_le _, rfl, _, OwnL.nil _ _, R1.out, R2.out, R3.out, RB.out⟩
  case round =>
    obtain ⟨k, hk, rfl, v, hO, r1, r2, r3, hb⟩ := hrel
    have Q1 := Lib.hid r1
    have Q2 := Lib.hid r2
    have Q3 := Lib.hid r3
    have QB := Lib.hid hb
    have HO := Lib.hid hO
    obtain ⟨⟨z0, z1, z2, z3, z4⟩, z5, z6, z7, z8, z9, z10⟩ := cellsS r1
    by_cases hlt : k < gn
    · obtain ⟨b, off, rfl, c0, cn, cz⟩ := sg_at (hg.keep hb) hlt
      have hbl : b < w.heap.size := by
        have := IsL.blk hg rfl (by omega)
        exact this
      have hlen : ((S.g.map (·.b)).take k).length = k := by rw [List.length_take, List.length_map, ← HGL.out]; omega
      have HT := Lib.hid (show (S.g.map (·.b)).take (k + 1) = (S.g.map (·.b)).take k ++ [(S.g.getD k Rt.zero).b] from by
        have hk' : k < (S.g.map (·.b)).length := by rw [List.length_map, ← HGL.out]; exact hlt
        rw [List.take_succ_eq_append_getElem hk']
        rw [getD_lt (by rw [← HGL.out]; exact hlt)]
        simp)
      have hO2 := hO
      unfold OwnL at hO2
      rw [hlen] at hO2
      obtain ⟨va, vc, rfl⟩ : ∃ a c, v = .slice a k c := by
        rcases hO2.2 with ⟨h, h'⟩ | ⟨g, cap, cur, h, _⟩
        · exact ⟨none, 0, by rw [h, h']⟩
        · exact ⟨_, _, h⟩
      have hg0 := (HB.out.g _ (by rw [getD_lt (show k < S.g.length by rw [← HGL.out]; exact hlt)]; exact List.getElem_mem _) : ((0 ≤ (S.g.getD k Rt.zero).b ∧ (S.g.getD k Rt.zero).b ≤ 1152921504606846976) ∧ _))
      generalize (S.g.getD k Rt.zero).b = base at *
      generalize (S.g.getD k Rt.zero).n = sn at *
      generalize (S.g.getD k Rt.zero).z = sz at *
      have n1 : ¬ (w.heap.size + 1 + 1 = b) := by omega
      have n2 : ¬ (b = w.heap.size + 1 + 1) := by omega
      have n3 : ¬ (w.heap.size + 1 + 1 = w.heap.size) := by omega
      have n4 : ¬ (w.heap.size = w.heap.size + 1 + 1) := by omega
      have HOW := Lib.hid ((own_below hO2 ((Below.refl _ wr).alloc (Nat.le_refl _) (.cells #[.int .i64 base, .int .i64 sn, .int .i64 sz] 49))).alloc (.cells #[.int .i64 base] 3))
      have KP := Lib.hid fun (w1 : World) (hg1 : ((wr.alloc (.cells #[.int .i64 base, .int .i64 sn, .int .i64 sz] 49)).alloc (.cells #[.int .i64 base] 3)).grownBy w1 (Value.slice va k vc).ownBlock) => (show w1.heap[w.heap.size]? = some (.cells #[fv, .int .i64 S.d.c, .bool S.d.a, .int .i64 S.d.l, .bool S.d.x, .int .i64 S.v, .slice (some ⟨b, off, none⟩) gn gc, .int .i64 S.x, .int .i64 S.s, .int .i64 S.z, .int .u32 S.c] 31 (0, 0)) ∧ w1.heap[w.heap.size + 1]? = some (.cells #[.int .i64 0, .slice none 0 0, .int .i64 0, .int .u32 0] 61 (0, 0)) ∧ w1.heap[w.heap.size + 1 + 1]? = some (.cells #[.int .i64 S.v, .slice va k vc, .int .i64 S.z, .int .u32 S.c] 61 (0, 0)) ∧ Below w.heap.size w w1 from
        ⟨row_grown (halloc (halloc Q1.out)) (by decide) HOW.out hg1, row_grown (halloc (halloc Q2.out)) (by decide) HOW.out hg1, row_grown (halloc (halloc Q3.out)) (by decide) HOW.out hg1,
          ((QB.out.alloc QB.out.size _).alloc (by have := QB.out.size; simp; omega) _).grown hg1 (by have := QB.out.size; simp; omega) (fun r hr => (World.ownsRow.lt HOW.out r hr).1)⟩)
      have HNEW := Lib.hid (news_new (wr.alloc (.cells #[.int .i64 base, .int .i64 sn, .int .i64 sz] 49)) (wr.heap.size + 1) [.int .i64 base] 3 (by simp))
      have H1 := Lib.hid (show ∀ u ∈ [Value.int .i64 base], u.oneCell' = true by simp [Value.oneCell'])
      have hwl := (Array.getElem?_eq_some_iff.1 r3).1
      obtain ⟨m0, m1, m2, m3⟩ := cellsM r3
      clear r1 r2 r3 hb hO2
      go_wp2_with (at_builtin; refine wpList_append_own _ rfl _ _ 59 rfl w.heap.size 3 i1 (.int .i64 0) 1 8 Try.underlying59 hj hy0 hy1 hy2 rfl (by decide) (.slice va k vc) k _ rfl HOW.out ⟨wr.heap.size + 1, 0, none⟩ 1 1 [.int .i64 base] rfl rfl HNEW.out H1.out (by unfold maxLen; omega) (by omega) (by simp; omega) ?_; intro v1 w1 ho1 hg1 hnil1; obtain ⟨q1, q2, q3, q4⟩ := KP.out w1 hg1; have q6 := (cellsS q1).2.2.1; obtain ⟨q7, q8, q9, q10⟩ := cellsM q3; have q11 := Lib.frozen_of_heap q3 1; obtain ⟨ua, uc, rfl⟩ := own_slice1 ho1)
      · have FIN := Lib.hid (show OwnL Mfs.IL (w1.setCell ⟨w.heap.size + 1 + 1, 1, none⟩ (.slice ua (k + 1) uc)) w.heap.size (.slice ua (k + 1) uc) ((S.g.map (·.b)).take (k + 1)) from by
          refine World.ownsRow.kept ?_ (grownBy_setC _ _ _ _) (.inr (row_not q3 (by decide) ho1).symm)
          rw [HT.out, Lay.vals_append, List.length_append, hlen]
          exact ho1)
        have G1 := Lib.hid ((Below.heap_setCell w1 ⟨w.heap.size + 1 + 1, 1, none⟩ (.slice ua (k + 1) uc) w.heap.size (fun e => n4 e)).trans q1)
        have G2 := Lib.hid ((Below.heap_setCell w1 ⟨w.heap.size + 1 + 1, 1, none⟩ (.slice ua (k + 1) uc) (w.heap.size + 1) (fun e => by have e : w.heap.size + 1 = w.heap.size + 1 + 1 := e; omega)).trans q2)
        have G3 := Lib.hid (heap_setCell_same _ _ 1 _ _ (.slice ua (k + 1) uc) q3)
        have G4 := Lib.hid (q4.setCell (p := ⟨w.heap.size + 1 + 1, 1, none⟩) (by show w.heap.size ≤ w.heap.size + 1 + 1; omega) (.slice ua (k + 1) uc))
        clear q1 q2 q3 q4 q6 q7 q8 q9 q10 q11 ho1 hg1
        go_roundw
        case rel => exact ⟨k + 1, by omega, by go_num, _, FIN.out, G1.out, G2.out, G3.out, G4.out⟩
        case measure => simp [intOf]; omega
    · obtain rfl : k = gn := by omega
      have HE := Lib.hid (show (S.g.map (·.b)).take k = S.g.map (·.b) by rw [HGL.out, ← List.length_map (f := (·.b)), List.take_length])
      rw [HE.out] at HO
      obtain ⟨va, vn, vc, rfl⟩ : ∃ a n c, v = .slice a n c := by obtain ⟨a, c, h⟩ := own_slice1 HO.out; exact ⟨a, _, c, h⟩
      obtain ⟨m0, m1, m2, m3⟩ := cellsM r3
      obtain ⟨p0, p1, p2, p3⟩ := cellsM r2
      have fz := fun o => Lib.frozen_of_heap r2 o
      have hwl := (Array.getElem?_eq_some_iff.1 r3).1
      clear r1 r2 r3 hb
      have W4 := Lib.hid fun (a : Value) => (show ∃ W, (((wr.setCell ⟨w.heap.size + 1, 0, none⟩ (.int .i64 S.v)).setCell ⟨w.heap.size + 1, 1, none⟩ a).setCell ⟨w.heap.size + 1, 2, none⟩ (.int .i64 S.z)).setCell ⟨w.heap.size + 1, 3, none⟩ (.int .u32 S.c) = W ∧ W.heap[w.heap.size + 1]? = some (.cells #[.int .i64 S.v, a, .int .i64 S.z, .int .u32 S.c] 61 (0, 0)) ∧ Below w.heap.size w W ∧ OwnL Mfs.IL W w.heap.size (.slice va vn vc) (S.g.map (·.b)) from by
        have b0 := Q2.out
        refine ⟨_, rfl, heap_setCell_same _ _ 3 _ _ _ (heap_setCell_same _ _ 2 _ _ _ (heap_setCell_same _ _ 1 _ _ _ (heap_setCell_same _ _ 0 _ _ _ b0))), (((QB.out.setCell (p := ⟨w.heap.size + 1, 0, none⟩) (Nat.le_succ _) _).setCell (p := ⟨w.heap.size + 1, 1, none⟩) (Nat.le_succ _) _).setCell (p := ⟨w.heap.size + 1, 2, none⟩) (Nat.le_succ _) _).setCell (p := ⟨w.heap.size + 1, 3, none⟩) (Nat.le_succ _) _, ?_⟩
        have ne : some (w.heap.size + 1) ≠ (Value.slice va vn vc).ownBlock := row_not b0 (by decide) HO.out
        exact World.ownsRow.kept (World.ownsRow.kept (World.ownsRow.kept (World.ownsRow.kept HO.out (grownBy_setC _ _ _ _) (.inr ne.symm)) (grownBy_setC _ _ _ _) (.inr ne.symm)) (grownBy_setC _ _ _ _) (.inr ne.symm)) (grownBy_setC _ _ _ _) (.inr ne.symm))
      go_wp2_with fail
      obtain ⟨W, hW, hw1, hw2, hw3⟩ := W4.out (.slice va vn vc)
      rw [hW]
      obtain ⟨y0, y1, y2, y3⟩ := cellsM hw1
      refine bodyPost_ret (v := .agg #[.int .i64 S.v, .slice va vn vc, .int .i64 S.z, .int .u32 S.c]) (by simp [results, Try.results16, go_sem, y0, y1, y2, y3]) rfl ?_
      refine ⟨va, vn, vc, rfl, hw3.is (by rw [List.length_map, ← HGL.out]; unfold maxLen; omega) fun y hy => ?_, hw2⟩
      rw [List.mem_map] at hy
      obtain ⟨g, hg', rfl⟩ := hy
      have := (HB.out.g g hg').1
      exact ⟨by omega, by omega⟩

end Go.Proofs.Ythhhocgpoenigaa.Sto

namespace Go.Proofs.Ythhhocgpoenigaa.Sto
open Go.RowKit Go.Proofs.Ythhhocgpoenigaa.So Go.Proofs.Ythhhocgpoenigaa.Dsk Go.Proofs.Ythhhocgpoenigaa.Rts

set_option maxRecDepth 100000 in
theorem swapped_any (ma : Option Addr) (mn mc : Nat) (m : Qm.Mn) (w : World) : Calls Try.prog 15 #[Mfs.mnVal ma mn mc m] w fun e w' => e = .returned (.func (.func 36) #[] #[.pointer (some ⟨w.heap.size, 0, none⟩)]) ∧ w' = w.alloc (.cells #[.int .i64 m.v, .slice ma mn mc, .int .i64 m.z, .int .u32 m.c] 61) := by
  have hmf := Dsk.made_func
  unfold Mfs.mnVal
  go_enter Try.func15, Try.ntmps15
  go_wp2_with fail
  go_ret
  exact ⟨rfl, rfl⟩
set_option maxRecDepth 100000 in
set_option maxHeartbeats 800000 in
theorem swapped1 (fa : Option Addr) (fn fc : Nat) (D : Dp.Dk) (ma : Option Addr) (mn mc : Nat) (m : Qm.Mn) (b : Nat) (R : Dp.Dk × Int) (w : World) (hv : IsL FL w (.slice fa fn fc) D.f) (hb : w.heap[b]? = some (.cells #[.int .i64 m.v, .slice ma mn mc, .int .i64 m.z, .int .u32 m.c] 61 (0, 0)))
    (C : ∀ W, Below w.heap.size w W → Calls Try.prog 37 #[dkVal (.slice fa fn fc) D, Mfs.mnVal ma mn mc m] W (DkAns W (.slice fa fn fc) R)) :
    Calls Try.prog 36 #[dkVal (.slice fa fn fc) D, .pointer (some ⟨b, 0, none⟩)] w (DkAns w (.slice fa fn fc) R) := by
  obtain ⟨g0, g1, gb, gs⟩ := boxes2 w #[.slice fa fn fc, .int .i64 D.c, .bool D.a, .int .i64 D.l, .bool D.x] #[.slice none 0 0, .int .i64 0, .bool false, .int .i64 0, .bool false] 27 27
  have HG := Lib.hid g1
  have HB := Lib.hid gb
  have HS := Lib.hid (Array.getElem?_eq_some_iff.1 g1).1
  have SP := Lib.hid (show Sep (.slice fa fn fc) (w.heap.size + 1) from IsL.sep_new hv (by omega))
  obtain ⟨n0, n1, n2, n3⟩ := cellsM (hkeep hb gb)
  have HC := Lib.hid C
  unfold dkVal Mfs.mnVal at HC
  unfold dkVal
  clear hv hb C g0 g1 gb gs
  go_enter Try.func36, Try.ntmps36
  go_wp2_with fail
  generalize World.alloc (World.alloc w _) _ = w0 at HG HB HS n0 n1 n2 n3 ⊢
  refine (HC.out _ HB.out).mono ?_
  rintro e w1 ⟨ga, gn, gc, rfl, kk⟩
  obtain ⟨q0, q1, q2, q3, q4⟩ := cells5 (hkeep HG.out kk.w)
  obtain ⟨qf0, qf1, qf2, qf3, qf4⟩ := frozen5 (hkeep HG.out kk.w)
  have LY := Lib.hid (dks_lay HB.out kk (t := w.heap.size + 1) (by omega) HS.out SP.out (.slice ga gn gc) (.int .i64 R.1.c) (.bool R.1.a) (.int .i64 R.1.l) (.bool R.1.x))
  clear kk
  unfold dkVal
  go_wp2_with fail
  refine bodyPost_ret (v := .tuple #[.agg #[.slice ga gn gc, .int .i64 R.1.c, .bool R.1.a, .int .i64 R.1.l, .bool R.1.x], .int .i64 R.2]) (by simp [results, Try.results36, go_sem, q0, q1, q2, q3, q4]) rfl ?_
  exact ⟨_, _, _, rfl, LY.out⟩
theorem stp_swapped {fa : Option Addr} {fn fc : Nat} {D : Dp.Dk} {k : Nat} {W : World} (h : Bd D k) (hk : k ≤ 100000) {ma : Option Addr} {mn mc : Nat} {m : Qm.Mn} (hm : IsL Mfs.IL W (.slice ma mn mc) m.l) (hM : Mfs.MnB m) (hv : IsL FL W (.slice fa fn fc) D.f) :
    Stp 36 #[.pointer (some ⟨W.heap.size, 0, none⟩)] (.slice fa fn fc) D (swap D m) (W.alloc (.cells #[.int .i64 m.v, .slice ma mn mc, .int .i64 m.z, .int .u32 m.c] 61)) :=
  stp_of (enters Try.func36 (by kernel_rfl) (by rfl)) fun W' b => swapped1 fa fn fc D ma mn mc m W.heap.size _ W' ((hv.keep (al_bel W _)).keep b) (hkeep (al_at W _ _) b) fun W'' b' => swap12_any fa fn fc D ma mn mc m W'' k (((hv.keep (al_bel W _)).keep b).keep b') (((hm.keep (al_bel W _)).keep b).keep b') h hk hM

theorem seg_new (W : World) (x y z : Int) (hb : (-9223372036854775808 ≤ x ∧ x ≤ 9223372036854775807) ∧ (-9223372036854775808 ≤ y ∧ y ≤ 9223372036854775807) ∧ (-9223372036854775808 ≤ z ∧ z ≤ 9223372036854775807)) :
    IsL SL (W.alloc (.cells #[.int .i64 x, .int .i64 y, .int .i64 z] 49)) (.slice (some ⟨W.heap.size, 0, none⟩) 1 1) [⟨x, y, z⟩] := by
  refine ⟨_, 1, rfl, ⟨(by decide : 1 ≤ maxLen), Nat.le_refl 1⟩, fun y' hy => ?_, .inr ⟨W.heap.size, 0, rfl, fun j u hj => ?_⟩⟩
  · rw [List.mem_singleton] at hy
    subst hy
    exact hb
  · have := news_new W W.heap.size [.int .i64 x, .int .i64 y, .int .i64 z] 49 rfl j u hj
    rwa [addr_plain] at this
def z11 : Obj := .cells #[.slice none 0 0, .int .i64 0, .bool false, .int .i64 0, .bool false, .int .i64 0, .slice none 0 0, .int .i64 0, .int .i64 0, .int .i64 0, .int .u32 0] 31

set_option maxRecDepth 100000 in
set_option maxHeartbeats 3200000 in
theorem create12_any (fa : Option Addr) (fn fc : Nat) (D : Dp.Dk) (w : World) (k : Nat) (hv : IsL FL w (.slice fa fn fc) D.f) (hS : Bd D k) (hk : k ≤ 99000) :
    Calls Try.prog 6 #[dkVal (.slice fa fn fc) D] w (StOut w (.slice fa fn fc) (.slice none 0 0) (createT D)) := by
  have M0 := ((Ms.start (gv := .slice none 0 0) (lg := []) hv (IsL.nil w none 0)).alloc #[.slice fa fn fc, .int .i64 D.c, .bool D.a, .int .i64 D.l, .bool D.x] 27).alloc #[.slice none 0 0, .int .i64 0, .bool false, .int .i64 0, .bool false, .int .i64 0, .slice none 0 0, .int .i64 0, .int .i64 0, .int .i64 0, .int .u32 0] 31
  simp only [World.size_alloc] at M0
  have HM0 := Lib.hid M0
  have HCR := create_p D
  unfold createP at HCR
  dsimp only at HCR
  have c1 := bd_tk (X := (D, 0)) hS (bd_create hS (segN 0))
  obtain ⟨X1, hX1⟩ : ∃ X, tk (D, 0) (Dp.create D (segN 0)) = X := ⟨_, rfl⟩
  rw [hX1] at HCR c1
  obtain ⟨X2, hX2⟩ : ∃ X, tk X1 (swap X1.1 (man (new12 X1.1))) = X := ⟨_, rfl⟩
  rw [hX2] at HCR
  have HC := Lib.hid (And.intro c1 hS)
  have HX1 := Lib.hid hX1
  have HX2 := Lib.hid hX2
  replace HCR := Lib.hid HCR
  have SG := Lib.hid fun W : World => seg_any 0 W (by decide)
  have MN := Lib.hid fun (fv gv : Value) (W : World) (h : IsL SL W gv [⟨0, 0, 0⟩]) => man12_any fv gv (new12 X1.1) W h (stb1 (bd_sm3 c1 (by omega)))
  unfold stVal new12 at MN
  dsimp only at MN
  have hM : Mfs.MnB (man (new12 X1.1)) := ⟨⟨(by decide : (-9223372036854775808 : Int) ≤ 1), (by decide : (1 : Int) ≤ 9223372036854775807)⟩, ⟨(by decide : (-9223372036854775808 : Int) ≤ 0), (by decide : (0 : Int) ≤ 9223372036854775807)⟩, (by decide : (0 : Int) ≤ 0), (by decide : (0 : Int) < 4294967296)⟩
  unfold new12 at HX2 hM
  obtain ⟨m, hm⟩ : ∃ m, man ⟨X1.1, 1, [⟨0, 0, 0⟩], 0, 0, 0, 0⟩ = m := ⟨_, rfl⟩
  rw [hm] at HX2 MN hM
  have HM := Lib.hid hM
  clear hv hS c1 hX1 hX2 M0 hm hM
  unfold dkVal
  go_enter Try.func6, Try.ntmps6
  go_upto_region 1 with (fail)
  generalize World.alloc (World.alloc w _) _ = w0 at HM0 ⊢
  obtain ⟨p0, p1, p2, p3, p4⟩ := cells5 (HM0.out.at_ (List.mem_cons_of_mem _ List.mem_cons_self))
  have hlt := HM0.out.lt (t := w.heap.size + 1) List.mem_cons_self
  go_wp2_with fail
  clear p0 p1 p2 p3 p4
  have M1 := ((HM0.out.fresh (al_bel w0 (.cells #[.int .i64 0, .int .i64 0, .int .i64 0] 49)) (seg_new w0 0 0 0 ⟨⟨by decide, by decide⟩, ⟨by decide, by decide⟩, ⟨by decide, by decide⟩⟩) (fun j hj a k c e _ => by
    injection e with e _ _
    injection e with e
    rw [← e]
    show w0.heap.size ≠ j
    omega)).alloc #[.slice fa fn fc, .int .i64 D.c, .bool D.a, .int .i64 D.l, .bool D.x, .int .i64 1, .slice (some ⟨w0.heap.size, 0, none⟩) 1 1, .int .i64 0, .int .i64 0, .int .i64 0, .int .u32 0] 31).alloc #[.int .i64 0] 32
  simp only [World.size_alloc] at M1
  refine (taking_any _ _ _).mono ?_
  rintro en w2 ⟨rfl, rfl⟩
  have T2 := Tk.new (A := form11 (.slice (some ⟨w0.heap.size, 0, none⟩) 1 1) (new12 D)) (T := 31) (t := w0.heap.size + 1) (e := w0.heap.size + 1 + 1) (v := .slice fa fn fc) (X := (D, 0)) (xs := [(w.heap.size + 1, z11)]) (gs := [(.slice (some ⟨w0.heap.size, 0, none⟩) 1 1, [⟨0, 0, 0⟩]), (.slice none 0 0, [])]) (M1.sub (fun p hp => by
    simp only [List.mem_cons, List.not_mem_nil, or_false] at hp ⊢
    rcases hp with rfl | rfl | rfl
    · exact .inr (.inl rfl)
    · exact .inl rfl
    · exact .inr (.inr (.inl rfl))) (fun _ hp => hp) (fun _ hp => hp)) (by omega) (fun p hp => by
    simp only [List.mem_cons, List.not_mem_nil, or_false] at hp
    subst hp
    exact ⟨by show w.heap.size + 1 ≠ w0.heap.size + 1; omega, by show w.heap.size + 1 ≠ w0.heap.size + 1 + 1; omega⟩)
  simp only [World.size_alloc] at T2 ⊢
  obtain ⟨t, ht⟩ : ∃ t, w0.heap.size + 1 = t := ⟨_, rfl⟩
  obtain ⟨gv, hgv⟩ : ∃ gv : Addr, (⟨w0.heap.size, 0, none⟩ : Addr) = gv := ⟨_, rfl⟩
  rw [ht, hgv] at T2 ⊢
  obtain ⟨w2, hw2⟩ : ∃ w2, World.alloc (World.alloc (World.alloc (World.alloc (World.alloc w0 (.cells #[.int .i64 0, .int .i64 0, .int .i64 0] 49)) (.cells #[.slice fa fn fc, .int .i64 D.c, .bool D.a, .int .i64 D.l, .bool D.x, .int .i64 1, .slice (some gv) 1 1, .int .i64 0, .int .i64 0, .int .i64 0, .int .u32 0] 31)) (.cells #[.int .i64 0] 32)) (.cells #[.pointer (some ⟨t, 0, none⟩)] 52)) (.cells #[.pointer (some ⟨t + 1, 0, none⟩)] 53) = w2 := ⟨_, rfl⟩
  rw [hw2] at T2 ⊢
  have HT2 := Lib.hid T2
  clear T2 M1 hlt ht hgv hw2 HM0
  go_wp2_with fail
  refine (SG.out _).mono ?_
  rintro en w3 ⟨rfl, b3⟩
  have HT3 := Lib.hid (HT2.out.keep b3)
  clear b3 HT2 SG
  go_wp2_with fail
  refine (created_any (segN 0) _).mono ?_
  rintro en w4 ⟨rfl, rfl⟩
  go_wp2_with fail
  refine (Tk.take (form11_is _ _) (HT3.out.al _) (stp_created HC.out.2 (by omega) (segN 0) (seg_size ⟨by decide, by decide⟩) HT3.out.fl)).mono ?_
  rintro en w5 ⟨rfl, a5, n5, c5, T5⟩
  rw [show (tk (D, 0) (Dp.create (D, (0 : Int)).1 (segN 0))) = X1 from HX1.out] at T5
  have HT5 := Lib.hid T5
  obtain ⟨⟨p0, p1, p2, p3, p4⟩, p5, p6, p7, p8, p9, p10⟩ := cellsS T5.hd
  replace p5 : w5.cell? ⟨t, 5, none⟩ = some (.int .i64 1) := p5
  replace p7 : w5.cell? ⟨t, 7, none⟩ = some (.int .i64 0) := p7
  replace p8 : w5.cell? ⟨t, 8, none⟩ = some (.int .i64 0) := p8
  replace p9 : w5.cell? ⟨t, 9, none⟩ = some (.int .i64 0) := p9
  replace p10 : w5.cell? ⟨t, 10, none⟩ = some (.int .u32 0) := p10
  clear T5 HT3
  go_wp2_with fail
  refine (MN.out _ _ _ (HT5.out.m.sl List.mem_cons_self)).mono ?_
  rintro en w6 ⟨am, an, ac, rfl, hl, b6⟩
  have HL := Lib.hid hl
  have HT6 := Lib.hid (HT5.out.keep b6)
  clear hl b6 HT5 MN p0 p1 p2 p3 p4 p5 p6 p7 p8 p9 p10
  unfold Mfs.mnVal
  go_wp2_with fail
  refine (swapped_any am an ac m _).mono ?_
  rintro en w7 ⟨rfl, rfl⟩
  go_wp2_with fail
  refine (Tk.take (form11_is _ _) (HT6.out.al _) (stp_swapped HC.out.1 (by omega) HL.out HM.out HT6.out.fl)).mono ?_
  rintro en w8 ⟨rfl, a8, n8, c8, T8⟩
  rw [HX2.out] at T8
  obtain ⟨XD, XE⟩ := X2
  have HT8 := Lib.hid T8
  obtain ⟨⟨p0, p1, p2, p3, p4⟩, p5, p6, p7, p8, p9, p10⟩ := cellsS T8.hd
  replace p5 : w8.cell? ⟨t, 5, none⟩ = some (.int .i64 1) := p5
  replace p7 : w8.cell? ⟨t, 7, none⟩ = some (.int .i64 0) := p7
  replace p8 : w8.cell? ⟨t, 8, none⟩ = some (.int .i64 0) := p8
  replace p9 : w8.cell? ⟨t, 9, none⟩ = some (.int .i64 0) := p9
  replace p10 : w8.cell? ⟨t, 10, none⟩ = some (.int .u32 0) := p10
  obtain ⟨ec, _⟩ := cells1 T8.he
  have hz := T8.hx (i := w.heap.size + 1) (o := z11) List.mem_cons_self
  have hmz : (w.heap.size + 1, z11) ∈ (t, Obj.cells (form11 (.slice (some gv) 1 1) (new12 D) (.slice a8 n8 c8) XD) 31) :: (t + 1, .cells #[.int .i64 XE] 32) :: (t + 1 + 1, .cells #[.pointer (some ⟨t, 0, none⟩)] 52) :: (t + 1 + 1 + 1, .cells #[.pointer (some ⟨t + 1, 0, none⟩)] 53) :: [(w.heap.size + 1, z11)] := List.mem_cons_of_mem _ (List.mem_cons_of_mem _ (List.mem_cons_of_mem _ (List.mem_cons_of_mem _ List.mem_cons_self)))
  obtain ⟨⟨q0, q1, q2, q3, q4⟩, q5, q6, q7, q8, q9, q10⟩ := cellsS hz
  have qf := frozenS hz
  have hne := T8.n3 (w.heap.size + 1, z11) List.mem_cons_self
  have ne1 : ¬ (w.heap.size + 1 = t) := hne.1
  have ne2 : ¬ (t = w.heap.size + 1) := fun h => hne.1 h.symm
  have ne3 : ¬ (w.heap.size + 1 = t + 1) := hne.2
  have ne4 : ¬ (t + 1 = w.heap.size + 1) := fun h => hne.2 h.symm
  have LY := Lib.hid fun (W : World) (b : Below w8.heap.size w8 W) (y0 y1 y2 y3 y4 y5 y6 y7 y8 y9 y10 : Value) => (HT8.out.keep b).m.lay11 (cs' := [(w.heap.size + 1, .cells #[y0, y1, y2, y3, y4, y5, y6, y7, y8, y9, y10] 31)]) (t := w.heap.size + 1) hmz y0 y1 y2 y3 y4 y5 y6 y7 y8 y9 y10 (fun p hp => by
    simp only [List.mem_cons, List.not_mem_nil, or_false] at hp
    subst hp
    exact .inl rfl)
  dsimp only at p0 p1 p2 p3 p4 ec
  clear T8 HT6 hz hne HL hmz
  by_cases hE : XE = 0
  · subst hE
    have HF := Lib.hid (show createT D = (new12 XD, 0) by rw [HCR.out, if_neg (fun h => h rfl)])
    clear HCR HX2
    go_wp2_with fail
    obtain ⟨Z, hZ, M9⟩ := LY.out w8 (Below.refl _ _) (.slice a8 n8 c8) (.int .i64 XD.c) (.bool XD.a) (.int .i64 XD.l) (.bool XD.x) (.int .i64 1) (.slice (some gv) 1 1) (.int .i64 0) (.int .i64 0) (.int .i64 0) (.int .u32 0)
    rw [hZ]
    obtain ⟨⟨z0, z1, z2, z3, z4⟩, z5, z6, z7, z8, z9, z10⟩ := cellsS (M9.at_ List.mem_cons_self)
    refine bodyPost_ret (v := .tuple #[stVal (.slice a8 n8 c8) (.slice (some gv) 1 1) (new12 XD), .int .i64 0]) (by unfold stVal new12; simp [results, Try.results6, go_sem, z0, z1, z2, z3, z4, z5, z6, z7, z8, z9, z10]) rfl ?_
    rw [HF.out]
    exact ⟨_, _, _, _, _, _, rfl, M9.sts (T := new12 XD) List.mem_cons_self List.mem_cons_self⟩
  · have HF := Lib.hid (show createT D = (⟨XD, 0, [], 0, 0, 0, 0⟩, XE) by rw [HCR.out, if_pos hE])
    have hE' := ne_b hE
    clear HCR HX2 hE
    go_upto_region 7 with (fail)
    go_region
    all_goals
      go_wp2_with fail
      obtain ⟨Z, hZ, M8⟩ := LY.out w8 (Below.refl _ _) (.slice a8 n8 c8) (.int .i64 XD.c) (.bool XD.a) (.int .i64 XD.l) (.bool XD.x) (.int .i64 0) (.slice none 0 0) (.int .i64 0) (.int .i64 0) (.int .i64 0) (.int .u32 0)
      rw [hZ]
      have M9 := M8.keep (W' := Z.drew) (Below.refl _ _).drew
      obtain ⟨⟨z0, z1, z2, z3, z4⟩, z5, z6, z7, z8, z9, z10⟩ := cellsS (M9.at_ List.mem_cons_self)
      refine bodyPost_ret (v := .tuple #[stVal (.slice a8 n8 c8) (.slice none 0 0) ⟨XD, 0, [], 0, 0, 0, 0⟩, .int .i64 XE]) (by unfold stVal; simp [results, Try.results6, go_sem, z0, z1, z2, z3, z4, z5, z6, z7, z8, z9, z10]) rfl ?_
      rw [HF.out]
      exact ⟨_, _, _, _, _, _, rfl, M9.sts (T := ⟨XD, 0, [], 0, 0, 0, 0⟩) List.mem_cons_self (List.mem_cons_of_mem _ List.mem_cons_self)⟩

end Go.Proofs.Ythhhocgpoenigaa.Sto

namespace Go.Proofs.Ythhhocgpoenigaa.Sto
open Go.RowKit Go.Proofs.Ythhhocgpoenigaa.So Go.Proofs.Ythhhocgpoenigaa.Dsk Go.Proofs.Ythhhocgpoenigaa.Rts

set_option maxRecDepth 100000 in
set_option maxHeartbeats 3200000 in
theorem sync12_any (fa ga : Option Addr) (fn fc gn gc : Nat) (S : St) (w : World) (k : Nat) (hv : IsL FL w (.slice fa fn fc) S.d.f) (hg : IsL SL w (.slice ga gn gc) S.g) (hn : S.g ≠ []) (hB : Stb S) (hS : Bd S.d k) (hk : k ≤ 100000) :
    Calls Try.prog 10 #[stVal (.slice fa fn fc) (.slice ga gn gc) S] w (StOut w (.slice fa fn fc) (.slice ga gn gc) (syncT S)) := by
  have T0 := Lib.hid fun (W0 : World) => @Ts.new w (.slice fa fn fc) (.slice ga gn gc) S W0 hv hg
  have RL := Lib.hid fun (W : World) (h : IsL SL W (.slice ga gn gc) S.g) => file12_any (.slice fa fn fc) (.slice ga gn gc) S W h hn (fun g hg => (hB.g g hg).1) hB.n
  have RS := Lib.hid fun (W : World) (n : ByteArray) (h : IsL FL W (.slice fa fn fc) S.d.f) => sync_s hS (by omega) n h
  clear hv hg hn hB hS
  unfold stVal at RL ⊢
  unfold dkVal at RS
  go_enter Try.func10, Try.ntmps10
  go_upto_region 1 with (fail)
  obtain ⟨w0, hW⟩ : ∃ W0, (w.alloc (.cells #[.slice fa fn fc, .int .i64 S.d.c, .bool S.d.a, .int .i64 S.d.l, .bool S.d.x, .int .i64 S.v, .slice ga gn gc, .int .i64 S.x, .int .i64 S.s, .int .i64 S.z, .int .u32 S.c] 31)).alloc (.cells #[.slice none 0 0, .int .i64 0, .bool false, .int .i64 0, .bool false, .int .i64 0, .slice none 0 0, .int .i64 0, .int .i64 0, .int .i64 0, .int .u32 0] 31) = W0 := ⟨_, rfl⟩
  rw [hW]
  have T1 := T0.out w0 hW
  clear T0 hW
  obtain ⟨⟨k0, k1, k2, k3, k4⟩, k5, k6, k7, k8, k9, k10⟩ := cellsS T1.d
  have b0 := Below.refl w0.heap.size w0
  have TT := Lib.hid T1
  clear T1
  obtain ⟨R, hR⟩ : ∃ R, Dp.sync S.d (segN (lastG S).b) = R := ⟨_, rfl⟩
  have RN := Lib.hid (show ∀ W : World, IsL FL W (.slice fa fn fc) S.d.f → _ from fun W h => RS.out W (segN (lastG S).b) h)
  rw [hR] at RN
  have HSY := Lib.hid (show syncT S = ({ S with d := R.1, s := if R.2 = 0 then S.x else S.s }, R.2) from by unfold syncT; rw [hR])
  clear hR
  generalize segN (lastG S).b = nn at *
  go_cut [4, 5] (fun p v wc => ∃ t : Nat, p = .pointer (some ⟨t, 0, none⟩) ∧ v = .int .i64 R.2 ∧ SyR w w.heap.size (.slice fa fn fc) (.slice ga gn gc) (.slice fa fn fc) (.slice ga gn gc) S R.1 t wc)
  case first =>
    have ST : w0.cell? ⟨w.heap.size, 0, none⟩ = some (.slice fa fn fc) ∧ w0.cell? ⟨w.heap.size, 1, none⟩ = some (.int .i64 S.d.c) ∧ w0.cell? ⟨w.heap.size, 2, none⟩ = some (.bool S.d.a) ∧ w0.cell? ⟨w.heap.size, 3, none⟩ = some (.int .i64 S.d.l) ∧ w0.cell? ⟨w.heap.size, 4, none⟩ = some (.bool S.d.x) ∧ w0.cell? ⟨w.heap.size, 5, none⟩ = some (.int .i64 S.v) ∧ w0.cell? ⟨w.heap.size, 6, none⟩ = some (.slice ga gn gc) ∧ w0.cell? ⟨w.heap.size, 7, none⟩ = some (.int .i64 S.x) ∧ w0.cell? ⟨w.heap.size, 8, none⟩ = some (.int .i64 S.s) ∧ w0.cell? ⟨w.heap.size, 9, none⟩ = some (.int .i64 S.z) ∧ w0.cell? ⟨w.heap.size, 10, none⟩ = some (.int .u32 S.c) ∧ Below w0.heap.size w0 w0 := ⟨k0, k1, k2, k3, k4, k5, k6, k7, k8, k9, k10, b0⟩
    clear k0 k1 k2 k3 k4 k5 k6 k7 k8 k9 k10 b0
    have hb0 : w.heap.size < w0.heap.size := Nat.lt_of_succ_lt TT.out.lt
    go_region_held3 (fun W => W.cell? ⟨w.heap.size, 0, none⟩ = some (.slice fa fn fc) ∧ W.cell? ⟨w.heap.size, 1, none⟩ = some (.int .i64 S.d.c) ∧ W.cell? ⟨w.heap.size, 2, none⟩ = some (.bool S.d.a) ∧ W.cell? ⟨w.heap.size, 3, none⟩ = some (.int .i64 S.d.l) ∧ W.cell? ⟨w.heap.size, 4, none⟩ = some (.bool S.d.x) ∧ W.cell? ⟨w.heap.size, 5, none⟩ = some (.int .i64 S.v) ∧ W.cell? ⟨w.heap.size, 6, none⟩ = some (.slice ga gn gc) ∧ W.cell? ⟨w.heap.size, 7, none⟩ = some (.int .i64 S.x) ∧ W.cell? ⟨w.heap.size, 8, none⟩ = some (.int .i64 S.s) ∧ W.cell? ⟨w.heap.size, 9, none⟩ = some (.int .i64 S.z) ∧ W.cell? ⟨w.heap.size, 10, none⟩ = some (.int .u32 S.c) ∧ Below w0.heap.size w0 W) (first | with_reducible assumption | with_reducible exact keep5 (by assumption) | with_reducible exact keepA (by assumption) | with_reducible exact keepAD (by assumption) | with_reducible exact keep6 hb0 (by assumption) (by assumption) | with_reducible exact keepS (by assumption) (Below.refl _ _).drew | with_reducible exact keepS (by assumption) (by assumption)) (first | (go_at_call 28; refine (RL.out _ (by first | exact TT.out.g.keep (belS (by assumption)) | exact TT.out.g.keep (Below.refl _ _).drew)).mono ?_; rintro e w4 ⟨rfl, b4⟩; have h4 : w0.heap.size ≤ w4.heap.size := Nat.le_trans (by first | exact Nat.le_refl _ | exact alloc_drew_size _ _) b4.size; (first | (with_reducible have z4 := hkeep (alloc_drew_new _ _ _) b4; have y4 : w0.heap.size < w4.heap.size := Nat.lt_of_lt_of_le (alloc_drew_lt _ _) b4.size; have x4 : w0.heap.size ≤ w0.heap.size := Nat.le_refl _) | skip)) | (go_at_call 30; refine (RN.out _ (by first | exact TT.out.f.keep (belS (by assumption)) | exact TT.out.f.keep (Below.refl _ _).drew)).mono ?_; rintro e w5 ⟨a5, n5, c5, rfl, k5'⟩; have q5 := k5'.w; have s5 := keepS (by assumption) q5; have q4 := belQ (by assumption) q5; (first | (with_reducible have z5 := hkeep (heap_alloc_new _ _) q5) | (with_reducible have z5 := hkeep z4 q5) | skip); (first | (have zc := cells5 z5; have zf := frozen5 z5; obtain ⟨y0, y1, y2, y3, y4⟩ := zc; obtain ⟨yf0, yf1, yf2, yf3, yf4⟩ := zf) | skip); unfold dkVal))
    all_goals
      go_wp2_with fail
      go_meet
      case rel =>
        first
          | (refine ⟨_, rfl, rfl, ?_⟩; with_reducible exact SyR.A TT.out q4 k5')
          | (refine ⟨_, rfl, rfl, ?_⟩; with_reducible exact SyR.B TT.out q4 k5' z5 (by assumption) (by first | assumption | simp))
  case rest =>
    clear k0 k1 k2 k3 k4 k5 k6 k7 k8 k9 k10 b0
    obtain ⟨t, rfl, rfl, a, n, c, T2, DB, hk2⟩ := hcut
    obtain ⟨RD, RE⟩ := R
    dsimp only at *
    have LY := Lib.hid (T2.disk DB.f ⟨DB.s.1, DB.s.2.1⟩ hk2)
    obtain ⟨⟨k0, k1, k2, k3, k4⟩, k5, k6, k7, k8, k9, k10⟩ := cellsS T2.d
    have kf := frozenS T2.d
    obtain ⟨d0, d1, d2, d3, d4⟩ := cells5 DB.d
    clear T2 DB hk2 TT
    go_upto_if 17 with (fail)
    obtain ⟨Z, hZ, T3, _, _⟩ := LY.out
    rw [hZ]
    clear hZ LY k0 k1 k2 k3 k4 k5 k6 k7 k8 k9 k10 d0 d1 d2 d3 d4 kf
    have TS := Lib.hid T3
    have TF := Lib.hid T3.fin
    have TU := Lib.hid ((T3.sure S.x).fin)
    have kr := frozenS T3.r
    obtain ⟨⟨r0, r1, r2, r3, r4⟩, r5, r6, r7, r8, r9, r10⟩ := cellsS T3.r
    obtain ⟨⟨k0, k1, k2, k3, k4⟩, k5, k6, k7, k8, k9, k10⟩ := cellsS T3.d
    have kf := frozenS T3.d
    by_cases hz : RE = 0
    · subst hz
      have U := T3.sure S.x
      have US := Lib.hid U
      clear T3 TF U
      go_upto_region 5 with (fail)
      have U := US.out
      dsimp only at U
      generalize Z.setCell ⟨w.heap.size, 8, none⟩ (.int .i64 S.x) = Z2 at U TU ⊢
      clear kf kr r0 r1 r2 r3 r4 r5 r6 r7 r8 r9 r10 k0 k1 k2 k3 k4 k5 k6 k7 k8 k9 k10
      have kr := frozenS U.r
      obtain ⟨⟨r0, r1, r2, r3, r4⟩, r5, r6, r7, r8, r9, r10⟩ := cellsS U.r
      obtain ⟨⟨k0, k1, k2, k3, k4⟩, k5, k6, k7, k8, k9, k10⟩ := cellsS U.d
      clear U
      go_wp2_with fail
      obtain ⟨Z3, hZ3, Z4, Z5⟩ := TU.out
      rw [hZ3]
      obtain ⟨⟨s0, s1, s2, s3, s4⟩, s5, s6, s7, s8, s9, s10⟩ := cellsS Z4
      refine bodyPost_ret (v := .tuple #[stVal (.slice a n c) (.slice ga gn gc) { S with d := RD, s := S.x }, .int .i64 0]) (by unfold stVal; simp [results, Try.results10, go_sem, s0, s1, s2, s3, s4, s5, s6, s7, s8, s9, s10]) rfl ?_
      rw [HSY.out]
      exact ⟨_, _, _, _, _, _, rfl, Z5⟩
    · have hz' := ne_b hz
      have HSE := Lib.hid (if_neg hz : (if RE = 0 then S.x else S.s) = S.s)
      clear T3 TU hz
      go_wp2_with fail
      obtain ⟨Z3, hZ3, Z4, Z5⟩ := TF.out
      rw [hZ3]
      obtain ⟨⟨s0, s1, s2, s3, s4⟩, s5, s6, s7, s8, s9, s10⟩ := cellsS Z4
      refine bodyPost_ret (v := .tuple #[stVal (.slice a n c) (.slice ga gn gc) { S with d := RD }, .int .i64 RE]) (by unfold stVal; simp [results, Try.results10, go_sem, s0, s1, s2, s3, s4, s5, s6, s7, s8, s9, s10]) rfl ?_
      rw [HSY.out, HSE.out]
      exact ⟨_, _, _, _, _, _, rfl, Z5⟩

end Go.Proofs.Ythhhocgpoenigaa.Sto

namespace Go.Proofs.Ythhhocgpoenigaa.Sto
open Go.RowKit Go.Proofs.Ythhhocgpoenigaa.Rts

set_option maxHeartbeats 1600000 in
set_option maxRecDepth 100000 in
theorem sgclone_nil (cap : Nat) (w : World) :
    Calls Try.prog 29 #[.slice none 0 cap] w (OutL SL w w.heap.size []) := by
  have q22 : ∀ (w : World) (a : Option Addr) (n c n' c' : Nat), (binOp .eql 28 (.slice a n c) (.slice none n' c')).run Try.prog w = .ok (.bool a.isNone) w := fun w a n c n' c' => Lib.run_eql_slice_nil w _ _ a n c n' c' Try.underlying28
  have HF := Lib.hid (OutL.mk (OwnL.nil (Y := SL) w w.heap.size) (Below.refl _ w))
  go_enter Try.func29, Try.ntmps29
  go_wp2_with fail
  go_ret
  exact HF.out

set_option maxHeartbeats 1600000 in
set_option maxRecDepth 100000 in
theorem sgclone_some (x : Addr) (cap : Nat) (l : List Rt.Sg) (w : World) (hl : l.length ≤ 1000000000000) (hc : ∀ j u, (SL.vals l)[j]? = some u → w.cell? (x.add j) = some u) :
    Calls Try.prog 29 #[.slice (some x) l.length cap] w (OutL SL w w.heap.size l) := by
  obtain ⟨i0, hi0, hz0, hz1, hz2⟩ := info_parts info_sg
  have q22 : ∀ (w : World) (a : Option Addr) (n c n' c' : Nat), (binOp .eql 28 (.slice a n c) (.slice none n' c')).run Try.prog w = .ok (.bool a.isNone) w := fun w a n c n' c' => Lib.run_eql_slice_nil w _ _ a n c n' c' Try.underlying28
  have HC : Hid (∀ j u, (SL.vals l)[j]? = some u → (w.alloc (.cells #[] 49)).cell? (x.add j) = some u) := fun j u hj => Lib.cell?_alloc_some _ (hc j u hj)
  have H1 := Lib.hid (SL.vals_cells l)
  have HL := Lib.hid (SL.vals_len l)
  have HF : Hid (∀ v' w3, w3.ownsRow w.heap.size 49 3 v' (0 + l.length) ([] ++ SL.vals l) → (w.alloc (.cells #[] 49)).grownBy w3 (some w.heap.size) → OutL SL w w.heap.size l (.returned v') w3) := by
    intro v' w3 h hg
    rw [Nat.zero_add, List.nil_append] at h
    exact OutL.mk h (((Below.refl _ w).alloc (Nat.le_refl _) _).grown hg (by simp) (fun k hk => by injection hk with hk; omega))
  have hown := Lib.hid (World.ownsRow_made (e := 49) (size := 3) w #[] 0 (Nat.le_refl _) (Nat.zero_le _) (by simp))
  clear hc
  generalize SL.vals l = xs at *
  generalize l.length = len at *
  go_enter Try.func29, Try.ntmps29
  go_wp2_with (at_builtin; refine wpList_append_own _ rfl _ _ 28 rfl w.heap.size 49 i0 (.agg #[.int .i64 0, .int .i64 0, .int .i64 0]) 3 24 Try.underlying28 hi0 hz0 hz1 hz2 rfl (by decide) _ _ _ rfl hown.out x len cap xs rfl HL.out HC.out H1.out (by unfold maxLen; omega) (by omega) (by simp) ?_; intro v' w3 hown' hgrow3 hnil3)
  go_ret
  exact HF.out v' w3 hown' hgrow3

theorem sgclone_any (v : Value) (l : List Rt.Sg) (w : World) (h : IsL SL w v l) (hl : l.length ≤ 1000000000000) :
    Calls Try.prog 29 #[v] w (OutL SL w w.heap.size l) := by
  obtain ⟨a, cap, rfl, _, _, h3⟩ := h
  rcases h3 with rfl | ⟨b, off, rfl, h4⟩
  · cases a with
    | none => exact sgclone_nil cap w
    | some x => exact sgclone_some x cap [] w (by simp) (by simp [Lay.vals])
  · exact sgclone_some ⟨b, off, none⟩ cap l w hl (fun j u hj => by rw [addr_plain]; exact h4 j u hj)

end Go.Proofs.Ythhhocgpoenigaa.Sto
