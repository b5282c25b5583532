/-
  Parts of what the laws of this seat stand on: StoManP, TrmClo.
-/
import Derived.Test.YtijbpdpkoamhbaaGreatQa1
import Derived.Test.YtijbpdpkoamhbaaGreatQa11
import Derived.Test.YtijbpdpkoamhbaaGreatQa21
import Derived.Test.YtijbpdpkoamhbaaGreatQa22
import Derived.Test.YtijbpdpkoamhbaaGreatQa3
set_option maxRecDepth 100000
set_option maxHeartbeats 6400000
namespace Go.Proofs.YtijbpdpkoamhbaaGreat
namespace Sto
open Go.RowKit So Dsk Rts
theorem man12_any (fv gv : Value) (S : St) (w : World) (hg : IsL SL w gv S.g) (hB : Stb S) :
 Calls Tryz.prog 75 #[stVal fv gv S] w (ManOut w (man S)) := by
 obtain ⟨ga, gn, gc, rfl⟩ : ∃ a n c, gv = .slice a n c := by obtain ⟨a, c, h, _⟩ := hg; exact ⟨a, _, c, h⟩
 have hgl := hg.len.1
 have hgn : gn ≤ 1000 := by rw [hgl]; exact hB.n
 have HGL := zid hgl
 have HB := zid hB
 obtain ⟨i1, hj, hy0, hy1, hy2⟩ := info_parts info_int12
 have R1 := zid (halloc (o := .cells #[.int .i64 S.v, .slice none 0 0, .int .i64 S.z, .int .u32 S.c] 82) (halloc (o := .cells #[.int .i64 0, .slice none 0 0, .int .i64 0, .int .u32 0] 82) (heap_alloc_new w (.cells (stCells fv (.slice ga gn gc) S) 32))))
 have R2 := halloc (o := .cells #[.int .i64 S.v, .slice none 0 0, .int .i64 S.z, .int .u32 S.c] 82) (heap_alloc_new (w.alloc (.cells (stCells fv (.slice ga gn gc) S) 32)) (.cells #[.int .i64 0, .slice none 0 0, .int .i64 0, .int .u32 0] 82))
 have R3 := heap_alloc_new ((w.alloc (.cells (stCells fv (.slice ga gn gc) S) 32)).alloc (.cells #[.int .i64 0, .slice none 0 0, .int .i64 0, .int .u32 0] 82)) (.cells #[.int .i64 S.v, .slice none 0 0, .int .i64 S.z, .int .u32 S.c] 82)
 have RB := zid ((((Below.refl w.heap.size w).alloc (Nat.le_refl _) (.cells (stCells fv (.slice ga gn gc) S) 32)).alloc (by simp) (.cells #[.int .i64 0, .slice none 0 0, .int .i64 0, .int .u32 0] 82)).alloc (by simp; omega) (.cells #[.int .i64 S.v, .slice none 0 0, .int .i64 S.z, .int .u32 S.c] 82))
 simp only [World.size_alloc] at R2 R3
 replace R2 := zid R2
 replace R3 := zid R3
 clear hgl hB
 unfold stCells at R1 R2 R3 RB
 unfold stVal
 go_enter Tryz.func75, Tryz.ntmps75
 go_wp2_with fail
 generalize ((w.alloc _).alloc _).alloc _ = w0 at R1 R2 R3 RB ⊢
 obtain ⟨⟨k0, k1, k2, k3, k4⟩, k5, k6, k7, k8, k9, k10⟩ := cellsS R1.out
 go_loopw [16] (fun i wr => ∃ k : Nat, k ≤ gn ∧ i = .int .i64 k ∧ ∃ v, OwnL Mfs.IL wr w.heap.size v ((S.g.map (·.b)).take k) ∧ wr.heap[w.heap.size]? = some (.cells #[fv, .int .i64 S.d.c, .bool S.d.a, .int .i64 S.d.l, .bool S.d.x, .int .i64 S.v, .slice ga gn gc, .int .i64 S.x, .int .i64 S.s, .int .i64 S.z, .int .u32 S.c] 32 (0, 0)) ∧ wr.heap[w.heap.size + 1]? = some (.cells #[.int .i64 0, .slice none 0 0, .int .i64 0, .int .u32 0] 82 (0, 0)) ∧ wr.heap[w.heap.size + 1 + 1]? = some (.cells #[.int .i64 S.v, v, .int .i64 S.z, .int .u32 S.c] 82 (0, 0)) ∧ Below w.heap.size w wr) (fun i _ => gn - (intOf i).toNat)
 case atStart => exact ⟨0, Nat.zero_le _, rfl, _, OwnL.nil _ _, R1.out, R2.out, R3.out, RB.out⟩
 case round =>
  obtain ⟨k, hk, rfl, v, hO, r1, r2, r3, hb⟩ := hrel
  have Q1 := zid r1
  have Q2 := zid r2
  have Q3 := zid r3
  have QB := zid hb
  have HO := zid hO
  obtain ⟨⟨z0, z1, z2, z3, z4⟩, z5, z6, z7, z8, z9, z10⟩ := cellsS r1
  by_cases hlt : k < gn
  · obtain ⟨b, off, rfl, c0, cn, cz⟩ := sg_at (hg.keep hb) hlt
    have hbl : b < w.heap.size := by
     have := IsL.blk hg rfl (by omega)
     exact this
    have hlen : ((S.g.map (·.b)).take k).length = k := by rw [List.length_take, List.length_map, ← HGL.out]; omega
    have HT := zid (show (S.g.map (·.b)).take (k + 1) = (S.g.map (·.b)).take k ++ [(S.g.getD k Rt.zero).b] from by
     have hk' : k < (S.g.map (·.b)).length := by rw [List.length_map, ← HGL.out]; exact hlt
     rw [List.take_succ_eq_append_getElem hk']
     rw [getD_lt (by rw [← HGL.out]; exact hlt)]
     simp)
    have hO2 := hO
    unfold OwnL at hO2
    rw [hlen] at hO2
    obtain ⟨va, vc, rfl⟩ : ∃ a c, v = .slice a k c := by
     rcases hO2.2 with ⟨h, h'⟩ | ⟨g, cap, cur, h, _⟩
     · exact ⟨none, 0, by rw [h, h']⟩
     · exact ⟨_, _, h⟩
    have hg0 := (HB.out.g _ (by rw [getD_lt (show k < S.g.length by rw [← HGL.out]; exact hlt)]; exact List.getElem_mem _) : ((0 ≤ (S.g.getD k Rt.zero).b ∧ (S.g.getD k Rt.zero).b ≤ 1152921504606846976) ∧ _))
    generalize (S.g.getD k Rt.zero).b = base at *
    generalize (S.g.getD k Rt.zero).n = sn at *
    generalize (S.g.getD k Rt.zero).z = sz at *
    have n1 : ¬ (w.heap.size + 1 + 1 = b) := by omega
    have n2 : ¬ (b = w.heap.size + 1 + 1) := by omega
    have n3 : ¬ (w.heap.size + 1 + 1 = w.heap.size) := by omega
    have n4 : ¬ (w.heap.size = w.heap.size + 1 + 1) := by omega
    have HOW := zid ((own_below hO2 ((Below.refl _ wr).alloc (Nat.le_refl _) (.cells #[.int .i64 base, .int .i64 sn, .int .i64 sz] 73))).alloc (.cells #[.int .i64 base] 3))
    have KP := zid fun (w1 : World) (hg1 : ((wr.alloc (.cells #[.int .i64 base, .int .i64 sn, .int .i64 sz] 73)).alloc (.cells #[.int .i64 base] 3)).grownBy w1 (Value.slice va k vc).ownBlock) => (show w1.heap[w.heap.size]? = some (.cells #[fv, .int .i64 S.d.c, .bool S.d.a, .int .i64 S.d.l, .bool S.d.x, .int .i64 S.v, .slice (some ⟨b, off, none⟩) gn gc, .int .i64 S.x, .int .i64 S.s, .int .i64 S.z, .int .u32 S.c] 32 (0, 0)) ∧ w1.heap[w.heap.size + 1]? = some (.cells #[.int .i64 0, .slice none 0 0, .int .i64 0, .int .u32 0] 82 (0, 0)) ∧ w1.heap[w.heap.size + 1 + 1]? = some (.cells #[.int .i64 S.v, .slice va k vc, .int .i64 S.z, .int .u32 S.c] 82 (0, 0)) ∧ Below w.heap.size w w1 from
     ⟨row_grown (halloc (halloc Q1.out)) (by decide) HOW.out hg1, row_grown (halloc (halloc Q2.out)) (by decide) HOW.out hg1, row_grown (halloc (halloc Q3.out)) (by decide) HOW.out hg1,
      ((QB.out.alloc QB.out.size _).alloc (by have := QB.out.size; simp; omega) _).grown hg1 (by have := QB.out.size; simp; omega) (fun r hr => (World.ownsRow.lt HOW.out r hr).1)⟩)
    have HNEW := zid (news_new (wr.alloc (.cells #[.int .i64 base, .int .i64 sn, .int .i64 sz] 73)) (wr.heap.size + 1) [.int .i64 base] 3 (by simp))
    have H1 := zid (show ∀ u ∈ [Value.int .i64 base], u.oneCell' = true by simp [Value.oneCell'])
    have hwl := (Array.getElem?_eq_some_iff.1 r3).1
    obtain ⟨m0, m1, m2, m3⟩ := cellsM r3
    clear r1 r2 r3 hb hO2
    go_wp2_with (at_builtin; refine wpList_append_own _ rfl _ _ 80 rfl w.heap.size 3 i1 (.int .i64 0) 1 8 Tryz.underlying80 hj hy0 hy1 hy2 rfl (by decide) (.slice va k vc) k _ rfl HOW.out ⟨wr.heap.size + 1, 0, none⟩ 1 1 [.int .i64 base] rfl rfl HNEW.out H1.out (by unfold maxLen; omega) (by omega) (by simp; omega) ?_; intro v1 w1 ho1 hg1 hnil1; obtain ⟨q1, q2, q3, q4⟩ := KP.out w1 hg1; have q6 := (cellsS q1).2.2.1; obtain ⟨q7, q8, q9, q10⟩ := cellsM q3; have q11 := Lib.frozen_of_heap q3 1; obtain ⟨ua, uc, rfl⟩ := own_slice1 ho1)
    · have FIN := zid (show OwnL Mfs.IL (w1.setCell ⟨w.heap.size + 1 + 1, 1, none⟩ (.slice ua (k + 1) uc)) w.heap.size (.slice ua (k + 1) uc) ((S.g.map (·.b)).take (k + 1)) from by
       refine World.ownsRow.kept ?_ (grownBy_setC _ _ _ _) (.inr (row_not q3 (by decide) ho1).symm)
       rw [HT.out, Lay.vals_append, List.length_append, hlen]
       exact ho1)
      have G1 := zid ((Below.heap_setCell w1 ⟨w.heap.size + 1 + 1, 1, none⟩ (.slice ua (k + 1) uc) w.heap.size (fun e => n4 e)).trans q1)
      have G2 := zid ((Below.heap_setCell w1 ⟨w.heap.size + 1 + 1, 1, none⟩ (.slice ua (k + 1) uc) (w.heap.size + 1) (fun e => by have e : w.heap.size + 1 = w.heap.size + 1 + 1 := e; omega)).trans q2)
      have G3 := zid (heap_setCell_same _ _ 1 _ _ (.slice ua (k + 1) uc) q3)
      have G4 := zid (q4.setCell (p := ⟨w.heap.size + 1 + 1, 1, none⟩) (by show w.heap.size ≤ w.heap.size + 1 + 1; omega) (.slice ua (k + 1) uc))
      clear q1 q2 q3 q4 q6 q7 q8 q9 q10 q11 ho1 hg1
      go_roundw
      case rel => exact ⟨k + 1, by omega, by go_num, _, FIN.out, G1.out, G2.out, G3.out, G4.out⟩
      case measure => simp [intOf]; omega
  · obtain rfl : k = gn := by omega
    have HE := zid (show (S.g.map (·.b)).take k = S.g.map (·.b) by rw [HGL.out, ← List.length_map (f := (·.b)), List.take_length])
    rw [HE.out] at HO
    obtain ⟨va, vn, vc, rfl⟩ : ∃ a n c, v = .slice a n c := by obtain ⟨a, c, h⟩ := own_slice1 HO.out; exact ⟨a, _, c, h⟩
    obtain ⟨m0, m1, m2, m3⟩ := cellsM r3
    obtain ⟨p0, p1, p2, p3⟩ := cellsM r2
    have fz := fun o => Lib.frozen_of_heap r2 o
    have hwl := (Array.getElem?_eq_some_iff.1 r3).1
    clear r1 r2 r3 hb
    have W4 := zid fun (a : Value) => (show ∃ W, (((wr.setCell ⟨w.heap.size + 1, 0, none⟩ (.int .i64 S.v)).setCell ⟨w.heap.size + 1, 1, none⟩ a).setCell ⟨w.heap.size + 1, 2, none⟩ (.int .i64 S.z)).setCell ⟨w.heap.size + 1, 3, none⟩ (.int .u32 S.c) = W ∧ W.heap[w.heap.size + 1]? = some (.cells #[.int .i64 S.v, a, .int .i64 S.z, .int .u32 S.c] 82 (0, 0)) ∧ Below w.heap.size w W ∧ OwnL Mfs.IL W w.heap.size (.slice va vn vc) (S.g.map (·.b)) from by
     have b0 := Q2.out
     refine ⟨_, rfl, heap_setCell_same _ _ 3 _ _ _ (heap_setCell_same _ _ 2 _ _ _ (heap_setCell_same _ _ 1 _ _ _ (heap_setCell_same _ _ 0 _ _ _ b0))), (((QB.out.setCell (p := ⟨w.heap.size + 1, 0, none⟩) (Nat.le_succ _) _).setCell (p := ⟨w.heap.size + 1, 1, none⟩) (Nat.le_succ _) _).setCell (p := ⟨w.heap.size + 1, 2, none⟩) (Nat.le_succ _) _).setCell (p := ⟨w.heap.size + 1, 3, none⟩) (Nat.le_succ _) _, ?_⟩
     have ne : some (w.heap.size + 1) ≠ (Value.slice va vn vc).ownBlock := row_not b0 (by decide) HO.out
     exact World.ownsRow.kept (World.ownsRow.kept (World.ownsRow.kept (World.ownsRow.kept HO.out (grownBy_setC _ _ _ _) (.inr ne.symm)) (grownBy_setC _ _ _ _) (.inr ne.symm)) (grownBy_setC _ _ _ _) (.inr ne.symm)) (grownBy_setC _ _ _ _) (.inr ne.symm))
    go_wp2_with fail
    obtain ⟨W, hW, hw1, hw2, hw3⟩ := W4.out (.slice va vn vc)
    rw [hW]
    obtain ⟨y0, y1, y2, y3⟩ := cellsM hw1
    refine bodyPost_ret (v := .agg #[.int .i64 S.v, .slice va vn vc, .int .i64 S.z, .int .u32 S.c]) (by simp [results, Tryz.results75, go_sem, y0, y1, y2, y3]) rfl ?_
    refine ⟨va, vn, vc, rfl, hw3.is (by rw [List.length_map, ← HGL.out]; unfold maxLen; omega) fun y hy => ?_, hw2⟩
    rw [List.mem_map] at hy
    obtain ⟨g, hg', rfl⟩ := hy
    have := (HB.out.g g hg').1
    exact ⟨by omega, by omega⟩
end Sto
namespace Trm
open Go.RowKit So Dsk Rts Sto
theorem placed1 (fa : Option Addr) (fn fc : Nat) (D : Dp.Dk) (n : ByteArray) (b : Nat) (R : Dp.Dk × Int) (w : World) (hv : IsL FL w (.slice fa fn fc) D.f) (hb : w.heap[b]? = some (.cells #[.string n] 9 (0, 0)))
 (C : ∀ W, Below w.heap.size w W → Calls Tryz.prog 68 #[dkVal (.slice fa fn fc) D, .string n] W (DkAns W (.slice fa fn fc) R)) :
 Calls Tryz.prog 67 #[dkVal (.slice fa fn fc) D, .pointer (some ⟨b, 0, none⟩)] w (DkAns w (.slice fa fn fc) R) := by
 obtain ⟨g0, g1, gb, gs⟩ := boxes2 w #[.slice fa fn fc, .int .i64 D.c, .bool D.a, .int .i64 D.l, .bool D.x] #[.slice none 0 0, .int .i64 0, .bool false, .int .i64 0, .bool false] 28 28
 have HG := zid g1
 have HB := zid gb
 have HS := zid (Array.getElem?_eq_some_iff.1 g1).1
 have SP := zid (show Sep (.slice fa fn fc) (w.heap.size + 1) from IsL.sep_new hv (by omega))
 have HN := (cells1 (hkeep hb gb)).1
 have HC := zid C
 unfold dkVal at HC ⊢
 clear hv hb C g0 g1 gb gs
 go_enter Tryz.func67, Tryz.ntmps67
 go_wp2_with fail
 generalize World.alloc (World.alloc w _) _ = w0 at HG HB HS HN ⊢
 refine (HC.out _ HB.out).mono ?_
 rintro e w1 ⟨ga, gn, gc, rfl, kk⟩
 obtain ⟨q0, q1, q2, q3, q4⟩ := cells5 (hkeep HG.out kk.w)
 obtain ⟨qf0, qf1, qf2, qf3, qf4⟩ := frozen5 (hkeep HG.out kk.w)
 have LY := zid (dks_lay HB.out kk (t := w.heap.size + 1) (by omega) HS.out SP.out (.slice ga gn gc) (.int .i64 R.1.c) (.bool R.1.a) (.int .i64 R.1.l) (.bool R.1.x))
 clear kk
 unfold dkVal
 go_wp2_with fail
 refine bodyPost_ret (v := .tuple #[.agg #[.slice ga gn gc, .int .i64 R.1.c, .bool R.1.a, .int .i64 R.1.l, .bool R.1.x], .int .i64 R.2]) (by simp [results, Tryz.results67, go_sem, q0, q1, q2, q3, q4]) rfl ?_
 exact ⟨_, _, _, rfl, LY.out⟩
theorem placed2 (fa : Option Addr) (fn fc : Nat) (D : Dp.Dk) (n s : ByteArray) (b b2 : Nat) (R : Dp.Dk × Int) (w : World) (hv : IsL FL w (.slice fa fn fc) D.f) (hb : w.heap[b]? = some (.cells #[.string n] 9 (0, 0))) (hb2 : w.heap[b2]? = some (.cells #[.string s] 9 (0, 0)))
 (C : ∀ W, Below w.heap.size w W → Calls Tryz.prog 70 #[dkVal (.slice fa fn fc) D, .string n, .string s] W (DkAns W (.slice fa fn fc) R)) :
 Calls Tryz.prog 69 #[dkVal (.slice fa fn fc) D, .pointer (some ⟨b, 0, none⟩), .pointer (some ⟨b2, 0, none⟩)] w (DkAns w (.slice fa fn fc) R) := by
 obtain ⟨g0, g1, gb, gs⟩ := boxes2 w #[.slice fa fn fc, .int .i64 D.c, .bool D.a, .int .i64 D.l, .bool D.x] #[.slice none 0 0, .int .i64 0, .bool false, .int .i64 0, .bool false] 28 28
 have HG := zid g1
 have HB := zid gb
 have HS := zid (Array.getElem?_eq_some_iff.1 g1).1
 have SP := zid (show Sep (.slice fa fn fc) (w.heap.size + 1) from IsL.sep_new hv (by omega))
 have HN := (cells1 (hkeep hb gb)).1
 have HN2 := (cells1 (hkeep hb2 gb)).1
 have HC := zid C
 unfold dkVal at HC ⊢
 clear hv hb hb2 C g0 g1 gb gs
 go_enter Tryz.func69, Tryz.ntmps69
 go_wp2_with fail
 generalize World.alloc (World.alloc w _) _ = w0 at HG HB HS HN HN2 ⊢
 refine (HC.out _ HB.out).mono ?_
 rintro e w1 ⟨ga, gn, gc, rfl, kk⟩
 obtain ⟨q0, q1, q2, q3, q4⟩ := cells5 (hkeep HG.out kk.w)
 obtain ⟨qf0, qf1, qf2, qf3, qf4⟩ := frozen5 (hkeep HG.out kk.w)
 have LY := zid (dks_lay HB.out kk (t := w.heap.size + 1) (by omega) HS.out SP.out (.slice ga gn gc) (.int .i64 R.1.c) (.bool R.1.a) (.int .i64 R.1.l) (.bool R.1.x))
 clear kk
 unfold dkVal
 go_wp2_with fail
 refine bodyPost_ret (v := .tuple #[.agg #[.slice ga gn gc, .int .i64 R.1.c, .bool R.1.a, .int .i64 R.1.l, .bool R.1.x], .int .i64 R.2]) (by simp [results, Tryz.results69, go_sem, q0, q1, q2, q3, q4]) rfl ?_
 exact ⟨_, _, _, rfl, LY.out⟩
theorem placed3 (fa : Option Addr) (fn fc : Nat) (D : Dp.Dk) (n : ByteArray) (b : Nat) (R : Dp.Dk × Int) (w : World) (hv : IsL FL w (.slice fa fn fc) D.f) (hb : w.heap[b]? = some (.cells #[.string n] 9 (0, 0)))
 (C : ∀ W, Below w.heap.size w W → Calls Tryz.prog 72 #[dkVal (.slice fa fn fc) D, .string n] W (DkAns W (.slice fa fn fc) R)) :
 Calls Tryz.prog 71 #[dkVal (.slice fa fn fc) D, .pointer (some ⟨b, 0, none⟩)] w (DkAns w (.slice fa fn fc) R) := by
 obtain ⟨g0, g1, gb, gs⟩ := boxes2 w #[.slice fa fn fc, .int .i64 D.c, .bool D.a, .int .i64 D.l, .bool D.x] #[.slice none 0 0, .int .i64 0, .bool false, .int .i64 0, .bool false] 28 28
 have HG := zid g1
 have HB := zid gb
 have HS := zid (Array.getElem?_eq_some_iff.1 g1).1
 have SP := zid (show Sep (.slice fa fn fc) (w.heap.size + 1) from IsL.sep_new hv (by omega))
 have HN := (cells1 (hkeep hb gb)).1
 have HC := zid C
 unfold dkVal at HC ⊢
 clear hv hb C g0 g1 gb gs
 go_enter Tryz.func71, Tryz.ntmps71
 go_wp2_with fail
 generalize World.alloc (World.alloc w _) _ = w0 at HG HB HS HN ⊢
 refine (HC.out _ HB.out).mono ?_
 rintro e w1 ⟨ga, gn, gc, rfl, kk⟩
 obtain ⟨q0, q1, q2, q3, q4⟩ := cells5 (hkeep HG.out kk.w)
 obtain ⟨qf0, qf1, qf2, qf3, qf4⟩ := frozen5 (hkeep HG.out kk.w)
 have LY := zid (dks_lay HB.out kk (t := w.heap.size + 1) (by omega) HS.out SP.out (.slice ga gn gc) (.int .i64 R.1.c) (.bool R.1.a) (.int .i64 R.1.l) (.bool R.1.x))
 clear kk
 unfold dkVal
 go_wp2_with fail
 refine bodyPost_ret (v := .tuple #[.agg #[.slice ga gn gc, .int .i64 R.1.c, .bool R.1.a, .int .i64 R.1.l, .bool R.1.x], .int .i64 R.2]) (by simp [results, Tryz.results71, go_sem, q0, q1, q2, q3, q4]) rfl ?_
 exact ⟨_, _, _, rfl, LY.out⟩
theorem freed1 (fa : Option Addr) (fn fc : Nat) (D : Dp.Dk) (n : ByteArray) (b : Nat) (R : Dp.Dk × Int) (w : World) (hv : IsL FL w (.slice fa fn fc) D.f) (hb : w.heap[b]? = some (.cells #[.string n] 9 (0, 0)))
 (C : ∀ W, Below w.heap.size w W → Calls Tryz.prog 78 #[dkVal (.slice fa fn fc) D, .string n] W (DkAns W (.slice fa fn fc) R)) :
 Calls Tryz.prog 77 #[dkVal (.slice fa fn fc) D, .pointer (some ⟨b, 0, none⟩)] w (DkAns w (.slice fa fn fc) R) := by
 obtain ⟨g0, g1, gb, gs⟩ := boxes2 w #[.slice fa fn fc, .int .i64 D.c, .bool D.a, .int .i64 D.l, .bool D.x] #[.slice none 0 0, .int .i64 0, .bool false, .int .i64 0, .bool false] 28 28
 have HG := zid g1
 have HB := zid gb
 have HS := zid (Array.getElem?_eq_some_iff.1 g1).1
 have SP := zid (show Sep (.slice fa fn fc) (w.heap.size + 1) from IsL.sep_new hv (by omega))
 have HN := (cells1 (hkeep hb gb)).1
 have HC := zid C
 unfold dkVal at HC ⊢
 clear hv hb C g0 g1 gb gs
 go_enter Tryz.func77, Tryz.ntmps77
 go_wp2_with fail
 generalize World.alloc (World.alloc w _) _ = w0 at HG HB HS HN ⊢
 refine (HC.out _ HB.out).mono ?_
 rintro e w1 ⟨ga, gn, gc, rfl, kk⟩
 obtain ⟨q0, q1, q2, q3, q4⟩ := cells5 (hkeep HG.out kk.w)
 obtain ⟨qf0, qf1, qf2, qf3, qf4⟩ := frozen5 (hkeep HG.out kk.w)
 have LY := zid (dks_lay HB.out kk (t := w.heap.size + 1) (by omega) HS.out SP.out (.slice ga gn gc) (.int .i64 R.1.c) (.bool R.1.a) (.int .i64 R.1.l) (.bool R.1.x))
 clear kk
 unfold dkVal
 go_wp2_with fail
 refine bodyPost_ret (v := .tuple #[.agg #[.slice ga gn gc, .int .i64 R.1.c, .bool R.1.a, .int .i64 R.1.l, .bool R.1.x], .int .i64 R.2]) (by simp [results, Tryz.results77, go_sem, q0, q1, q2, q3, q4]) rfl ?_
 exact ⟨_, _, _, rfl, LY.out⟩
theorem unplaced_any (fa : Option Addr) (fn fc : Nat) (D : Dp.Dk) (n : ByteArray) (w : World) (k : Nat) (hv : IsL FL w (.slice fa fn fc) D.f) (hS : Bd D k) (hk : k ≤ 200000) :
 Calls Tryz.prog 76 #[dkVal (.slice fa fn fc) D, .string n] w (DkAns w (.slice fa fn fc) (wo D n)) := by
 have M0 := (((Ms.start (gv := .slice none 0 0) (lg := []) hv (IsL.nil w none 0)).alloc #[.slice fa fn fc, .int .i64 D.c, .bool D.a, .int .i64 D.l, .bool D.x] 28).alloc #[.slice none 0 0, .int .i64 0, .bool false, .int .i64 0, .bool false] 28)
 rw [World.size_alloc] at M0
 have HM0 := zid M0
 obtain ⟨⟨D1, E1⟩, h1⟩ : ∃ R, Dp.delete D n = R := ⟨_, rfl⟩
 have C := zid fun (W : World) (h : IsL FL W (.slice fa fn fc) D.f) => delete_s hS hk n h
 rw [h1] at C
 have HW := zid (show wo D n = (D1, if E1 = 0 then 9 else E1) by unfold wo; rw [h1])
 clear h1 hv hS hk M0
 unfold dkVal at C ⊢
 go_enter Tryz.func76, Tryz.ntmps76
 go_upto_region 1 with (fail)
 generalize World.alloc (World.alloc w _) _ = w0 at HM0 ⊢
 obtain ⟨p0, p1, p2, p3, p4⟩ := cells5 (HM0.out.at_ (mcm mcs))
 go_wp2_with fail
 refine (C.out _ (HM0.out.fl mcs)).mono ?_
 rintro e w1 ⟨a, m, c, rfl, kk⟩
 have M1 := HM0.out.call (D' := D1) mcs kk
 have HM1 := zid M1
 clear p0 p1 p2 p3 p4 kk C
 obtain ⟨p0, p1, p2, p3, p4⟩ := cells5 (M1.at_ (mcm mcs))
 obtain ⟨pf0, pf1, pf2, pf3, pf4⟩ := frozen5 (M1.at_ (mcm mcs))
 clear M1
 unfold dkVal
 go_upto_region 2 with (fail)
 obtain ⟨Z, hZ, M2⟩ := HM1.out.lay5 (cs' := [(w.heap.size + 1, z5), (w.heap.size, .cells #[.slice a m c, .int .i64 D1.c, .bool D1.a, .int .i64 D1.l, .bool D1.x] 28)]) (mcm mcs) (.slice a m c) (.int .i64 D1.c) (.bool D1.a) (.int .i64 D1.l) (.bool D1.x) (fun p hp => by
  simp only [List.mem_cons, List.not_mem_nil, or_false] at hp
  rcases hp with rfl | rfl
  · exact .inr ⟨mcs, by show w.heap.size + 1 ≠ w.heap.size; omega⟩
  · exact .inl rfl)
 rw [hZ]
 have HM2 := zid M2
 clear hZ p0 p1 p2 p3 p4 pf0 pf1 pf2 pf3 pf4 HM0 HM1
 obtain ⟨p0, p1, p2, p3, p4⟩ := cells5 (M2.at_ (mcm mcs))
 obtain ⟨q0, q1, q2, q3, q4⟩ := cells5 (M2.at_ mcs)
 obtain ⟨qf0, qf1, qf2, qf3, qf4⟩ := frozen5 (M2.at_ mcs)
 obtain ⟨Y, hY, M3⟩ := M2.lay5 (cs' := [(w.heap.size + 1, .cells #[.slice a m c, .int .i64 D1.c, .bool D1.a, .int .i64 D1.l, .bool D1.x] 28)]) mcs (.slice a m c) (.int .i64 D1.c) (.bool D1.a) (.int .i64 D1.l) (.bool D1.x) (fun p hp => by
  simp only [List.mem_cons, List.not_mem_nil, or_false] at hp
  subst hp
  exact .inl rfl)
 have HY := zid hY
 have HM3 := zid M3
 clear M2 M3 hY
 by_cases hz : E1 = 0
 · subst hz
   go_wp2_with fail
   rw [HY.out]
   obtain ⟨z0, z1, z2, z3, z4⟩ := cells5 (HM3.out.at_ mcs)
   refine bodyPost_ret (v := .tuple #[.agg #[.slice a m c, .int .i64 D1.c, .bool D1.a, .int .i64 D1.l, .bool D1.x], .int .i64 9]) (by simp [results, Tryz.results76, go_sem, z0, z1, z2, z3, z4]) rfl ?_
   rw [HW.out]
   exact ⟨_, _, _, rfl, HM3.out.dks mcs⟩
 · have hz' := ne_b hz
   have HZ := zid hz
   clear hz
   go_wp2_with fail
   rw [HY.out]
   obtain ⟨z0, z1, z2, z3, z4⟩ := cells5 (HM3.out.at_ mcs)
   refine bodyPost_ret (v := .tuple #[.agg #[.slice a m c, .int .i64 D1.c, .bool D1.a, .int .i64 D1.l, .bool D1.x], .int .i64 E1]) (by simp [results, Tryz.results76, go_sem, z0, z1, z2, z3, z4]) rfl ?_
   rw [HW.out, if_neg HZ.out]
   exact ⟨_, _, _, rfl, HM3.out.dks mcs⟩
theorem placed4 (fa : Option Addr) (fn fc : Nat) (D : Dp.Dk) (xv : Value) (ga : Option Addr) (gn gc : Nat) (X : St) (b k : Nat) (w : World) (hv : IsL FL w (.slice fa fn fc) D.f) (hg : IsL SL w (.slice ga gn gc) X.g)
 (hb : w.heap[b]? = some (.cells #[xv, .int .i64 X.d.c, .bool X.d.a, .int .i64 X.d.l, .bool X.d.x, .int .i64 X.v, .slice ga gn gc, .int .i64 X.x, .int .i64 X.s, .int .i64 X.z, .int .u32 X.c] 32 (0, 0))) (hS : Bd D k) (hk : k ≤ 100000) (hX : Stb X) :
 Calls Tryz.prog 73 #[dkVal (.slice fa fn fc) D, .pointer (some ⟨b, 0, none⟩)] w (DkAns w (.slice fa fn fc) (swap D (man X))) := by
 have MB : Mfs.MnB (man X) := ⟨⟨by have := hX.v; show _ ≤ X.v; omega, by have := hX.v; show X.v ≤ _; omega⟩, ⟨by have := hX.z; show _ ≤ X.z; omega, by have := hX.z; show X.z ≤ _; omega⟩, hX.c⟩
 obtain ⟨g0, g1, gb, gs⟩ := boxes2 w #[.slice fa fn fc, .int .i64 D.c, .bool D.a, .int .i64 D.l, .bool D.x] #[.slice none 0 0, .int .i64 0, .bool false, .int .i64 0, .bool false] 28 28
 have HG := zid g1
 have HB := zid gb
 have HS := zid (Array.getElem?_eq_some_iff.1 g1).1
 have SP := zid (show Sep (.slice fa fn fc) (w.heap.size + 1) from IsL.sep_new hv (by omega))
 have HN := zid (hkeep hb gb)
 have H0 := zid g0
 have HF := zid (hv.keep gb)
 have HGS := zid (hg.keep gb)
 have RM := fun (W : World) (h : IsL SL W (.slice ga gn gc) X.g) => man12_any xv (.slice ga gn gc) X W h hX
 have RW := fun (W : World) (am : Option Addr) (nm cm : Nat) (hv : IsL FL W (.slice fa fn fc) D.f) (hm : IsL Mfs.IL W (.slice am nm cm) (man X).l) => swap12_any fa fn fc D am nm cm (man X) W k hv hm hS hk MB
 obtain ⟨R, hR⟩ : ∃ R, swap D (man X) = R := ⟨_, rfl⟩
 rw [hR] at RW ⊢
 obtain ⟨mn, hmn⟩ : ∃ m, man X = m := ⟨_, rfl⟩
 rw [hmn] at RM RW
 unfold dkVal at RW ⊢
 unfold stVal at RM
 replace RM := zid RM
 replace RW := zid RW
 clear hv hg hb hS hX MB g0 g1 gb gs hR hmn
 go_enter Tryz.func73, Tryz.ntmps73
 go_upto_region 1 with (fail)
 generalize World.alloc (World.alloc w _) _ = w0 at HG HB HS HN H0 HF HGS ⊢
 have dr := (Below.refl w0.heap.size w0).drew
 obtain ⟨k0, k1, k2, k3, k4⟩ := cells5 (hkeep H0.out dr)
 obtain ⟨⟨x0, x1, x2, x3, x4⟩, x5, x6, x7, x8, x9, x10⟩ := cellsS (hkeep HN.out dr)
 have HFD := zid (HF.out.keep dr)
 have HGD := zid (HGS.out.keep dr)
 clear dr
 go_region_with (first | (go_at_call 75; refine (RM.out _ HGD.out).mono ?_; rintro e w5 ⟨am, nm, cm, rfl, hm, b5⟩; have HMM := zid hm; have HB5 := zid b5; obtain ⟨l0, l1, l2, l3, l4⟩ := cells5 (hkeep (hkeep H0.out (Below.refl w0.heap.size w0).drew) b5); clear hm b5) | (go_at_call 74; refine (RW.out _ _ _ _ (HFD.out.keep HB5.out) HMM.out).mono ?_; rintro e w6 ⟨a6, n6, c6, rfl, k6'⟩; have KK := zid (show DkS w0 (.slice fa fn fc) R.1 (.slice a6 n6 c6) w6 from ⟨k6'.f, fun j hj hs => k6'.s j (Nat.lt_of_lt_of_le hj HB5.out.size) hs, (show Below w0.heap.size w0 w0.drew from (Below.refl _ _).drew).trans (HB5.out.trans (k6'.w.mono HB5.out.size))⟩); obtain ⟨y0, y1, y2, y3, y4⟩ := cells5 (hkeep HG.out KK.out.w); obtain ⟨yf0, yf1, yf2, yf3, yf4⟩ := frozen5 (hkeep HG.out KK.out.w); clear k6'; unfold dkVal))
 all_goals
  have LY := zid (dks_lay HB.out KK.out (t := w.heap.size + 1) (by omega) HS.out SP.out (.slice a6 n6 c6) (.int .i64 R.1.c) (.bool R.1.a) (.int .i64 R.1.l) (.bool R.1.x))
  go_wp2_with fail
  refine bodyPost_ret (v := .tuple #[.agg #[.slice a6 n6 c6, .int .i64 R.1.c, .bool R.1.a, .int .i64 R.1.l, .bool R.1.x], .int .i64 R.2]) (by simp [results, Tryz.results73, go_sem, y0, y1, y2, y3, y4]) rfl ?_
  exact ⟨_, _, _, rfl, LY.out⟩
section
variable {fa : Option Addr} {fn fc : Nat} {D : Dp.Dk} {k : Nat} {W : World}
theorem stp_placed1 (h : Bd D k) (hk : k ≤ 200000) {n : ByteArray} (hn : n.size ≤ 3000) (hv : IsL FL W (.slice fa fn fc) D.f) {b : Nat} (hb : W.heap[b]? = some (.cells #[.string n] 9 (0, 0))) : Stp 67 #[.pointer (some ⟨b, 0, none⟩)] (.slice fa fn fc) D (Dp.create D n) W :=
 stp_of (enters Tryz.func67 (by kernel_rfl) (by rfl)) fun W' k' => placed1 fa fn fc D n b _ W' (hv.keep k') (hkeep hb k') fun W'' k'' => create_s h hk n hn ((hv.keep k').keep k'')
theorem stp_placed2 (h : Bd D k) (hk : k ≤ 200000) {n s : ByteArray} (hs : s.size ≤ 3000) (hv : IsL FL W (.slice fa fn fc) D.f) {b b2 : Nat} (hb : W.heap[b]? = some (.cells #[.string n] 9 (0, 0))) (hb2 : W.heap[b2]? = some (.cells #[.string s] 9 (0, 0))) : Stp 69 #[.pointer (some ⟨b, 0, none⟩), .pointer (some ⟨b2, 0, none⟩)] (.slice fa fn fc) D (Dp.append D n s) W :=
 stp_of (enters Tryz.func69 (by kernel_rfl) (by rfl)) fun W' k' => placed2 fa fn fc D n s b b2 _ W' (hv.keep k') (hkeep hb k') (hkeep hb2 k') fun W'' k'' => append_s h hk n s hs ((hv.keep k').keep k'')
theorem stp_placed3 (h : Bd D k) (hk : k ≤ 200000) {n : ByteArray} (hv : IsL FL W (.slice fa fn fc) D.f) {b : Nat} (hb : W.heap[b]? = some (.cells #[.string n] 9 (0, 0))) : Stp 71 #[.pointer (some ⟨b, 0, none⟩)] (.slice fa fn fc) D (Dp.sync D n) W :=
 stp_of (enters Tryz.func71 (by kernel_rfl) (by rfl)) fun W' k' => placed3 fa fn fc D n b _ W' (hv.keep k') (hkeep hb k') fun W'' k'' => sync_s h hk n ((hv.keep k').keep k'')
theorem stp_freed (h : Bd D k) (hk : k ≤ 200000) {n : ByteArray} (hv : IsL FL W (.slice fa fn fc) D.f) {b : Nat} (hb : W.heap[b]? = some (.cells #[.string n] 9 (0, 0))) : Stp 77 #[.pointer (some ⟨b, 0, none⟩)] (.slice fa fn fc) D (Dp.delete D n) W :=
 stp_of (enters Tryz.func77 (by kernel_rfl) (by rfl)) fun W' k' => freed1 fa fn fc D n b _ W' (hv.keep k') (hkeep hb k') fun W'' k'' => delete_s h hk n ((hv.keep k').keep k'')
theorem stp_placed4 (h : Bd D k) (hk : k ≤ 100000) {xv : Value} {ga : Option Addr} {gn gc : Nat} {X : St} (hX : Stb X) (hv : IsL FL W (.slice fa fn fc) D.f) (hg : IsL SL W (.slice ga gn gc) X.g) {b : Nat}
 (hb : W.heap[b]? = some (.cells #[xv, .int .i64 X.d.c, .bool X.d.a, .int .i64 X.d.l, .bool X.d.x, .int .i64 X.v, .slice ga gn gc, .int .i64 X.x, .int .i64 X.s, .int .i64 X.z, .int .u32 X.c] 32 (0, 0))) : Stp 73 #[.pointer (some ⟨b, 0, none⟩)] (.slice fa fn fc) D (swap D (man X)) W :=
 stp_of (enters Tryz.func73 (by kernel_rfl) (by rfl)) fun W' k' => placed4 fa fn fc D xv ga gn gc X b k W' (hv.keep k') (hg.keep k') (hkeep hb k') h hk hX
end
end Trm
end Go.Proofs.YtijbpdpkoamhbaaGreat
