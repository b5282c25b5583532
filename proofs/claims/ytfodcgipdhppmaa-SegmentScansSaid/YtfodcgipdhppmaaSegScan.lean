/-
  What the program's Scan answers (layer 9).
-/
import Derived.RangeFuncBox
import Derived.Maps.AppendAt
import Derived.Test.YtfodcgipdhppmaaSegIter
namespace Go.Proofs.Ytfodcgipdhppmaa
open Go.RowKit Go.Shelf Go.Proofs.Ytfodcgipdhppmaa.Mks Go.Proofs.Ytfodcgipdhppmaa.Gp

attribute [local go_sem] Oper.semAt_some

/-- A block of cells is kept where what turns is no cells. -/
theorem row_kept {X Y : World} {row : Option Nat} {k : Nat} {cs : Array Value} {T : TypeId} {fz : Nat × Nat} (h : X.heap[k]? = some (.cells cs T fz)) (hg : X.grownBy Y row) (hr : ∀ r, row = some r → ∃ o : Obj, X.heap[r]? = some o ∧ o.isCells = false) :
    Y.heap[k]? = some (.cells cs T fz) :=
  (hg.block k (Array.getElem?_eq_some_iff.1 h).1 (fun e => by obtain ⟨o, ho, hc⟩ := hr k e.symm; rw [h] at ho; cases ho; cases hc)).trans h

set_option maxRecDepth 100000 in
set_option maxHeartbeats 800000 in
theorem scan9_out (s : ByteArray) (base : Int) (w : World) (h : base < 0 ∨ 1099511627776 < base) :
    Calls Try.prog 8 #[.string s, .int .i64 base] w (ScanOut w (Gp.full s.data.toList base)) := by
  have M := Lib.hid fun W : World => maybe9_any base W
  have HF := Lib.hid (show ScanOut w (Gp.full s.data.toList base) (.returned (.tuple #[.slice none 0 0, .int .i64 0, .int .i64 1])) w from by
    rw [Gp.full_out (Rp.inB_no h)]
    exact ⟨_, rfl, IsRecs.nil w none 0, Below.refl _ w⟩)
  rw [Rp.inB_no h] at M
  go_enter Try.func8, Try.ntmps8
  go_wp2_with (go_at_call 18; refine (M.out _).mono ?_; rintro e w' ⟨rfl, rfl⟩)
  go_ret3
  exact HF.out

theorem scan_end {w wr : World} {l : List UInt8} {b : Int} {ps : List (Rp.Rec × Nat)} {k : Nat} {v : Value} {B : Nat} (hk : k ≤ 4398046511104) (hg : Gp.Good l b 0 ps k)
    (h1 : wr.ownsRow B 35 3 v ps.length (recVals (ps.map Prod.fst))) {F : List (Rp.Rec × Nat) × Nat × Int} {er : Int} (hF : F = (ps, k, er)) (hb : Below w.heap.size w wr) :
    ScanOut w F (.returned (.tuple #[v, .int .i64 (k : Int), .int .i64 er])) wr := by
  have hf := hg.few
  subst hF
  refine ⟨v, rfl, IsRecs.own h1 (by unfold maxLen; omega) fun r hr => ?_, hb⟩
  rw [List.mem_map] at hr
  obtain ⟨p, hp, rfl⟩ := hr
  exact hg.ok p hp

set_option maxRecDepth 100000 in
set_option maxHeartbeats 1600000 in
theorem scan9_in (s : ByteArray) (base : Int) (w : World) (hs : s.size ≤ 1000000000) (hb0 : 0 ≤ base) (hb1 : base ≤ 1099511627776) :
    Calls Try.prog 8 #[.string s, .int .i64 base] w (ScanOut w (Gp.full s.data.toList base)) := by
  have M := Lib.hid fun W : World => maybe9_any base W
  rw [Rp.inB_mk hb0 hb1] at M
  have R := fun W : World => records9_any s 0 base W
  rw [show ((0 : Nat) : Int) = 0 from rfl] at R
  replace R := Lib.hid R
  have HFU := Lib.hid (Gp.full_in (l := s.data.toList) (Rp.inB_mk hb0 hb1))
  have HL := Lib.hid (show s.data.toList.length = s.size from rfl)
  obtain ⟨i0, hi, hz0, hz1, hz2⟩ := info_parts info_rec
  refine (callsIn_wide (n := 6)).1 ?_
  refine callsIn_of_wp_marks Try.func8 rfl trivial ?_ rfl
  simp only [Try.ntmps8, List.size_toArray, List.length_cons, List.length_nil, Nat.reduceAdd, Nat.reduceSub, Array.replicate_succ, Array.replicate_zero, List.push_toArray, List.append_toArray, List.nil_append, List.cons_append]
  gi_wp2_with (first | (refine ⟨trivial, ?_⟩; gi_at_call 18; refine (callsIn_wide.2 (M.out _)).mono ?_; rintro e w' ⟨rfl, rfl⟩) | (refine ⟨trivial, ?_⟩; gi_at_call 19; refine (callsIn_wide.2 (R.out _)).mono ?_; rintro e w' ⟨rfl, rfl⟩))
  have bL := ((((Boxed.new w 23 (.slice none 0 0)).alloc (.cells #[.int .i64 0] 3)).alloc (.cells #[.string s] 9)).alloc (.cells #[.int .i64 0] 3)).alloc (.cells #[.int .i64 base] 3)
  have bE := (((Boxed.new (w.alloc (.cells #[.slice none 0 0] 23)) 3 (.int .i64 0)).alloc (.cells #[.string s] 9)).alloc (.cells #[.int .i64 0] 3)).alloc (.cells #[.int .i64 base] 3)
  have bC := ((Boxed.new ((w.alloc (.cells #[.slice none 0 0] 23)).alloc (.cells #[.int .i64 0] 3)) 9 (.string s)).alloc (.cells #[.int .i64 0] 3)).alloc (.cells #[.int .i64 base] 3)
  have bA := (Boxed.new (((w.alloc (.cells #[.slice none 0 0] 23)).alloc (.cells #[.int .i64 0] 3)).alloc (.cells #[.string s] 9)) 3 (.int .i64 0)).alloc (.cells #[.int .i64 base] 3)
  have bO := Boxed.new ((((w.alloc (.cells #[.slice none 0 0] 23)).alloc (.cells #[.int .i64 0] 3)).alloc (.cells #[.string s] 9)).alloc (.cells #[.int .i64 0] 3)) 3 (.int .i64 base)
  simp only [World.size_alloc] at bL bE bC bA bO
  have hB0 : Below w.heap.size w (((((w.alloc (.cells #[.slice none 0 0] 23)).alloc (.cells #[.int .i64 0] 3)).alloc (.cells #[.string s] 9)).alloc (.cells #[.int .i64 0] 3)).alloc (.cells #[.int .i64 base] 3)) :=
    (((((Below.refl _ w).alloc (Nat.le_refl _) _).alloc (by simp) _).alloc (by simp; omega) _).alloc (by simp; omega) _).alloc (by simp; omega) _
  have hsz : (((((w.alloc (.cells #[.slice none 0 0] 23)).alloc (.cells #[.int .i64 0] 3)).alloc (.cells #[.string s] 9)).alloc (.cells #[.int .i64 0] 3)).alloc (.cells #[.int .i64 base] 3)).heap.size = w.heap.size + 5 := by simp
  obtain ⟨W0, hW0⟩ : ∃ W0, ((((w.alloc (.cells #[.slice none 0 0] 23)).alloc (.cells #[.int .i64 0] 3)).alloc (.cells #[.string s] 9)).alloc (.cells #[.int .i64 0] 3)).alloc (.cells #[.int .i64 base] 3) = W0 := ⟨_, rfl⟩
  rw [hW0] at bL bE bC bA bO hB0 hsz ⊢
  clear hW0
  refine wpIn_rangeFunc_ownH (F := Fence.wide) rfl (by decide) (gf := 26) (lb := #[.pointer (some ⟨w.heap.size + 1 + 1 + 1, 0, none⟩), .pointer (some ⟨w.heap.size + 1 + 1 + 2, 0, none⟩), .pointer (some ⟨w.heap.size + 1 + 1, 0, none⟩)]) rfl trivial (enters_of Try.func26 (by kernel_rfl) rfl)
    (iter9_stops s base 0 (w.heap.size + 1 + 1 + 1) (w.heap.size + 1 + 1 + 2) (w.heap.size + 1 + 1) 5 9 (by decide) (by omega) hb0 hb1 (Nat.zero_le _) W0 (by omega) (by omega) (by omega) bA.cell bO.cell bC)
    (fun h k => kpC_t h k) (kpC_b (by omega)) (Below.refl _ _) (fun _ => rfl)
    (fun (pre : List (It base)) W => ((∃ v, Boxed W w.heap.size 23 v ∧ W.ownsRow w.heap.size 35 3 v pre.length (recVals (pre.map fun x => x.1.1)) ∧ True) ∧ (Boxed W (w.heap.size + 1) 3 (.int .i64 (lastAt 0 pre : Nat)) ∧ Boxed W (w.heap.size + 1 + 1) 9 (.string s))) ∧ Below w.heap.size w W)
    (fun _ _ _ => False)
    (OwnFrom.and (OwnFrom.and (Own.from (holdsRow_own w.heap.size w.heap.size 23 35 3 (fun (pre : List (It base)) => pre.length) (fun pre => recVals (pre.map fun x => x.1.1)) (fun _ _ => True)) _) (OwnFrom.and (Own.from (boxed_own _ _ (fun (pre : List (It base)) => .int .i64 (lastAt 0 pre : Nat))) _) (Own.from (boxed_own _ _ _) _))) (ownFrom_below (Nat.le_refl _) (by omega)))
    (fun _ _ _ _ _ hs _ _ => hs)
    ⟨⟨⟨_, bL, World.ownsRow_nil _ _ _ _, trivial⟩, bE, bC⟩, hB0⟩
    (fun x a' W => ∃ Bx, w.heap.size + 2 < Bx ∧ W.heap[Bx]? = some (.cells #[.int .i64 x.1.1.a, .int .i64 x.1.1.t, .string x.1.1.d] 35 (0, 0)) ∧ a' = { defers := [], tmps :=
        #[Value.string s, Value.int IntKind.i64 base, undef, undef, Value.slice none 0 0, Value.int IntKind.i64 0,
          Value.int IntKind.i64 0, Value.pointer (some { block := w.heap.size, off := 0 }),
          Value.pointer (some { block := w.heap.size + 1, off := 0 }), Value.pointer (some ⟨Bx, 0, none⟩), Value.int IntKind.i64 (x.1.2 : Int), undef, undef, undef,
          Value.int IntKind.i64 base, Value.bool true, Value.bool false, Value.string s, Value.int IntKind.i64 base,
          Value.func (Fn.func 26) #[]
            #[Value.pointer (some { block := w.heap.size + 1 + 1 + 1, off := 0 }),
              Value.pointer (some { block := w.heap.size + 1 + 1 + 2, off := 0 }),
              Value.pointer (some { block := w.heap.size + 1 + 1, off := 0 })],
          .agg #[.int .i64 x.1.1.a, .int .i64 x.1.1.t, .string x.1.1.d], .int .i64 (x.1.2 : Int), undef, undef, undef, undef, undef, undef, undef, undef, undef, undef, undef, undef, undef, undef, undef, undef, undef, undef, undef, undef, undef, undef, undef, undef, undef] })
    (fun x a' _ X Y row hs hg hr => by obtain ⟨Bx, h1, h2, h3⟩ := hs; exact ⟨Bx, h1, row_kept h2 hg (fun r e => (hr r e).2), h3⟩)
    ?assign ?body ?done ?stop
  case assign =>
    rintro l pre ⟨⟨⟨ra, rt, rd⟩, q⟩, hx⟩ W K ⟨⟨⟨v, bL1, hO, _⟩, bE1, bC1⟩, hB1⟩ hK
    have hK := Lib.hid (fun a' h => hK a' _ ((KeepsOthers.alloc W (.cells #[.int .i64 ra, .int .i64 rt, .string rd] 35)).from _) (kpC_below ((Below.refl _ W).alloc (Nat.le_refl _) _)) ⟨⟨⟨v, bL1.alloc _, hO.alloc _, trivial⟩, bE1.alloc _, bC1.alloc _⟩, hB1.alloc hB1.size _⟩ ⟨W.heap.size, by have := bC1.lt; omega, heap_alloc_new W _, h⟩)
    unfold itVals
    dsimp only
    gi_wp2
    exact hK.out _ rfl
  case body =>
    rintro l pre ⟨⟨⟨ra, rt, rd⟩, q⟩, hx⟩ a' W hl hr ⟨⟨⟨v, bL1, hO, _⟩, bE1, bC1⟩, hB1⟩ ⟨Bx, hBx, gX, rfl⟩ hlt
    obtain ⟨x, hxe⟩ : ∃ x : It base, x = ⟨⟨⟨ra, rt, rd⟩, q⟩, hx⟩ := ⟨_, rfl⟩
    have HLA := Lib.hid (lastAt_snoc 0 pre x)
    have HRV := Lib.hid (show recVals ((pre ++ [x]).map fun x => x.1.1) = recVals (pre.map fun x => x.1.1) ++ [.int .i64 ra, .int .i64 rt, .string rd] by rw [List.map_append, hxe]; exact recVals_snoc _ ⟨ra, rt, rd⟩)
    have HPL := Lib.hid (show (pre ++ [x]).length = pre.length + 1 by simp)
    obtain ⟨ln, hln⟩ : ∃ ln, pre.length = ln := ⟨_, rfl⟩
    rw [← hxe]
    rw [hln] at hO HPL hlt
    generalize recVals (pre.map fun x => x.1.1) = rv at *
    generalize lastAt 0 pre = la at *
    clear hxe hln
    dsimp only
    have cL := bL1.cell
    have cE := bE1.cell
    have fE := bE1.frozen
    obtain ⟨z0, z1, z2⟩ := cells3 gX
    have hs1 := hB1.size
    have GO := Lib.hid fun (v' : Value) (w1 : World) (hown' : w1.ownsRow w.heap.size 35 3 v' (ln + 1) (rv ++ [.int .i64 ra, .int .i64 rt, .string rd])) (hgrow : (W.alloc (.cells #[.int .i64 ra, .int .i64 rt, .string rd] 35)).grownBy w1 v.ownBlock) => bL1.appended (by decide) hO hs1 (Nat.le_refl _) hown' hgrow
    have GE := Lib.hid fun (w1 : World) (hgrow : (W.alloc (.cells #[.int .i64 ra, .int .i64 rt, .string rd] 35)).grownBy w1 v.ownBlock) => (bE1.alloc _).kept hgrow (bE1.not_row (by decide) hO)
    have GC := Lib.hid fun (w1 : World) (hgrow : (W.alloc (.cells #[.int .i64 ra, .int .i64 rt, .string rd] 35)).grownBy w1 v.ownBlock) => (bC1.alloc _).kept hgrow (bC1.not_row (by decide) hO)
    have HBC := Lib.hid bC1
    have HBB := Lib.hid hB1
    have HO := Lib.hid hO
    clear bL1 bE1 bC1 hO hB1 gX
    gi_wp2_with (gi_at_builtin; refine wpListIn_append_own _ rfl _ _ 23 rfl w.heap.size 35 i0 (.agg #[.int .i64 0, .int .i64 0, .string ByteArray.empty]) 3 32 Try.underlying23 hi hz0 hz1 hz2 rfl (by decide) _ _ _ rfl (HO.out.alloc _) ⟨W.heap.size, 0, none⟩ 1 1 [.int .i64 ra, .int .i64 rt, .string rd] (by simp [go_sem]) rfl (news_new W _ [.int .i64 ra, .int .i64 rt, .string rd] 35 rfl) (by simp [Value.oneCell']) (by unfold maxLen; omega) (by omega) (by simp; omega) ?_; intro v' w1 hown' hgrow _; obtain ⟨g', cap', rfl⟩ := ownsRow_succ hown'; obtain ⟨hv1, hv2, hr2, hk2, hb2⟩ := GO.out _ _ hown' hgrow; have hc1 := hv1.cell; have hf1 := hv1.frozen; have bE3 := GE.out _ hgrow; have bC3 := GC.out _ hgrow; have cE3 := bE3.cell; have fE3 := bE3.frozen; have HS := Lib.hid (And.intro hv2 (And.intro hr2 (And.intro hk2 hb2))); have HE := Lib.hid bE3; have HC := Lib.hid bC3; clear hv1 hv2 hr2 hk2 hb2 bE3 bC3 hown' hgrow)
    obtain ⟨hv2, hr2, hk2, hb2⟩ := HS.out
    have bE4 := HE.out.other (show w.heap.size + 1 ≠ w.heap.size by omega) (.slice (some ⟨g', 0, none⟩) (ln + 1) cap')
    have bC4 := (HC.out.other (show w.heap.size + 1 + 1 ≠ w.heap.size by omega) (.slice (some ⟨g', 0, none⟩) (ln + 1) cap')).other (show w.heap.size + 1 + 1 ≠ w.heap.size + 1 by omega) (.int .i64 (x.1.2 : Int))
    exact ⟨(hk2.trans (KeepsOthers.setCell _ _ _)).from _, (fun o ho => by rw [show W.heap[_]? = _ from HBC.out] at ho; cases ho; exact bC4),
      ⟨⟨⟨_, hv2.other (by omega) _, by rw [HPL.out, HRV.out]; exact hr2.kept (grownBy_setCell' _ _ _) (.inr (bE4.not_row (by decide) hr2).symm)⟩, by rw [HLA.out]; exact bE4.set _, bC4⟩, (HBB.out.trans hb2).setCell (p := ⟨w.heap.size + 1, 0, none⟩) (by simp) _⟩⟩
  case done =>
    rintro D ys W hD ⟨ps, k, e, hF, hG, hZ, hne, hlt, hge⟩ ⟨⟨⟨v, bL1, hO, _⟩, bE1, _⟩, hB1⟩ hK
    rw [hZ.last] at bE1
    rw [hZ.len, hZ.recs] at hO
    rw [HL.out] at hlt hge
    have hks : k ≤ s.size := by
      rcases hG.le with h | h
      · rw [HL.out] at h; exact h
      · omega
    have hFF := HFU.out.trans hF
    have hfew := hG.few
    have cL := bL1.cell
    have cE := bE1.cell
    have HR := Lib.hid fun (W' : World) (h : W'.ownsRow w.heap.size 35 3 v ps.length (recVals (ps.map Prod.fst))) (hb : Below w.heap.size w W') => scan_end (by omega) hG h hFF hb
    have HO := Lib.hid hO
    have HB := Lib.hid hB1
    have hs1 := hB1.size
    by_cases hk : k = s.size
    · obtain rfl := hge (by omega)
      have heq : ((k : Int) == (s.size : Int)) = true := by simp; omega
      have HK := Lib.hid hK
      clear hO hB1 hF hG hZ hne hlt hge hFF bL1 bE1 hK
      subst hk
      gi_wp2
      gi_region
      all_goals gi_wp2
      refine ⟨by simp, .inl ⟨_, _, rfl, run_takeDeferred (w := W.drew) HK.out, ?_⟩⟩
      refine ⟨.tuple #[v, .int .i64 (s.size : Int), .int .i64 0], by simp [results, Try.results8, go_sem], ?_⟩
      exact HR.out _ (ownsRow_putObj (own_below HO.out (Below.refl _ W).drew) _ HK.out rfl) (HB.out.drew.trans (belowK_b (w := w) (Nat.le_refl _) W.drew D _ _ (by omega) HK.out rfl rfl))
    · have heq : ((k : Int) == (s.size : Int)) = false := by simp; omega
      have her := hlt (by omega)
      have NX := fun W1 : World => next9_any s k (base + (ps.length : Int)) W1 (by omega)
      generalize Gp.fd s.data.toList (base + (ps.length : Int)) k = x at NX her
      obtain ⟨⟨xa, xt, xd⟩, xk, xe⟩ := x
      dsimp only at her
      subst her
      unfold fdVal at NX
      dsimp only at NX
      obtain ⟨va, vc, rfl⟩ := own_slice hO
      replace NX := Lib.hid NX
      have HK := Lib.hid hK
      have HBL := Lib.hid bL1
      have HBE := Lib.hid bE1
      clear hO hB1 hF hG hZ hne hlt hge hFF bL1 bE1 hK
      obtain ⟨ln, hln⟩ : ∃ ln, ps.length = ln := ⟨_, rfl⟩
      rw [hln] at NX HR HO HBL cL hfew
      gi_wp2_with (refine ⟨trivial, ?_⟩; gi_at_call 20; refine (callsIn_wide.2 (NX.out _)).mono ?_; rintro e1 w1 ⟨rfl, b1⟩; have B2 := Lib.hid (b1.alloc (Below.size b1) (Obj.cells #[.int .i64 xa, .int .i64 xt, .string xd] 35)); have cL1 := Boxed.cell (B2.out.block _ HBL.out.lt |>.trans HBL.out); have cE1 := Boxed.cell (B2.out.block _ HBE.out.lt |>.trans HBE.out); clear b1)
      gi_region
      all_goals gi_wp2
      have HK2 := Lib.hid ((B2.out.block D (Array.getElem?_eq_some_iff.1 HK.out).1).trans HK.out)
      have HB2 := Lib.hid ((HB.out.trans (B2.out.mono hs1)).drew)
      refine ⟨by simp, .inl ⟨_, _, rfl, run_takeDeferred (w := (w1.alloc (Obj.cells #[.int .i64 xa, .int .i64 xt, .string xd] 35)).drew) HK2.out, ?_⟩⟩
      refine ⟨.tuple #[.slice va ln vc, .int .i64 (k : Int), .int .i64 e], by simp [results, Try.results8, go_sem], ?_⟩
      exact HR.out _ (ownsRow_putObj (own_below HO.out B2.out.drew) _ HK2.out rfl) (HB2.out.trans (belowK_b (w := w) (Nat.le_refl _) _ D _ _ (by omega) HK2.out rfl rfl))
  case stop =>
    rintro D c pre W _ _ h _
    exact h.elim

theorem scan9_any (s : ByteArray) (base : Int) (w : World) (hs : s.size ≤ 1000000000) (_ : -9223372036854775808 ≤ base) (_ : base ≤ 9223372036854775807) :
    Calls Try.prog 8 #[.string s, .int .i64 base] w (ScanOut w (Gp.full s.data.toList base)) := by
  by_cases h : base < 0 ∨ 1099511627776 < base
  · exact scan9_out s base w h
  · exact scan9_in s base w hs (by omega) (by omega)

end Go.Proofs.Ytfodcgipdhppmaa
