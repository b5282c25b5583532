/-
  Parts of what the laws of this seat stand on: SegProg, StoFr, StoFr2.
-/
import Derived.Deep.RegionHeld
import Derived.Laws.OwnMore
import Derived.Lib.AppendZeros
import Derived.Maps.AppendAt
import Derived.OrdersIn
import Derived.OwnWalkIn
import Derived.RangeFuncBound
import Derived.RangeFuncBox
import Derived.RangeFuncCalls
import Derived.RangeFuncNested
import Derived.Test.YthhhocgpoenigaaGreatBu21
import Derived.Test.YthhhocgpoenigaaGreatBu30
namespace Go.Proofs.YthhhocgpoenigaaGreat
open Go.RowKit Go.Shelf Go.Proofs.YthhhocgpoenigaaGreat.Mks Go.Proofs.YthhhocgpoenigaaGreat.Gp

attribute [local go_sem] Oper.semAt_some

/-- A block of cells is kept where what turns is no cells. -/
theorem row_kept {X Y : World} {row : Option Nat} {k : Nat} {cs : Array Value} {T : TypeId} {fz : Nat × Nat} (h : X.heap[k]? = some (.cells cs T fz)) (hg : X.grownBy Y row) (hr : ∀ r, row = some r → ∃ o : Obj, X.heap[r]? = some o ∧ o.isCells = false) :
    Y.heap[k]? = some (.cells cs T fz) :=
  (hg.block k (Array.getElem?_eq_some_iff.1 h).1 (fun e => by obtain ⟨o, ho, hc⟩ := hr k e.symm; rw [h] at ho; cases ho; cases hc)).trans h

set_option maxRecDepth 100000 in
set_option maxHeartbeats 800000 in
theorem scan9_out (s : ByteArray) (base : Int) (w : World) (h : base < 0 ∨ 1099511627776 < base) :
    Calls Tryz.prog 62 #[.string s, .int .i64 base] w (ScanOut w (Gp.full s.data.toList base)) := by
  have M := Lib.hid fun W : World => maybe9_any base W
  have HF := Lib.hid (show ScanOut w (Gp.full s.data.toList base) (.returned (.tuple #[.slice none 0 0, .int .i64 0, .int .i64 1])) w from by
    rw [Gp.full_out (Rp.inB_no h)]
    exact ⟨_, rfl, IsRecs.nil w none 0, Below.refl _ w⟩)
  rw [Rp.inB_no h] at M
  go_enter Tryz.func62, Tryz.ntmps62
  go_wp2_with (go_at_call 107; refine (M.out _).mono ?_; rintro e w' ⟨rfl, rfl⟩)
  go_ret3
  exact HF.out

theorem scan_end {w wr : World} {l : List UInt8} {b : Int} {ps : List (Rp.Rec × Nat)} {k : Nat} {v : Value} {B : Nat} (hk : k ≤ 4398046511104) (hg : Gp.Good l b 0 ps k)
    (h1 : wr.ownsRow B 57 3 v ps.length (recVals (ps.map Prod.fst))) {F : List (Rp.Rec × Nat) × Nat × Int} {er : Int} (hF : F = (ps, k, er)) (hb : Below w.heap.size w wr) :
    ScanOut w F (.returned (.tuple #[v, .int .i64 (k : Int), .int .i64 er])) wr := by
  have hf := hg.few
  subst hF
  refine ⟨v, rfl, IsRecs.own h1 (by unfold maxLen; omega) fun r hr => ?_, hb⟩
  rw [List.mem_map] at hr
  obtain ⟨p, hp, rfl⟩ := hr
  exact hg.ok p hp

set_option maxRecDepth 100000 in
set_option maxHeartbeats 1600000 in
theorem scan9_in (s : ByteArray) (base : Int) (w : World) (hs : s.size ≤ 1000000000) (hb0 : 0 ≤ base) (hb1 : base ≤ 1099511627776) :
    Calls Tryz.prog 62 #[.string s, .int .i64 base] w (ScanOut w (Gp.full s.data.toList base)) := by
  have M := Lib.hid fun W : World => maybe9_any base W
  rw [Rp.inB_mk hb0 hb1] at M
  have R := fun W : World => records9_any s 0 base W
  rw [show ((0 : Nat) : Int) = 0 from rfl] at R
  replace R := Lib.hid R
  have HFU := Lib.hid (Gp.full_in (l := s.data.toList) (Rp.inB_mk hb0 hb1))
  have HL := Lib.hid (show s.data.toList.length = s.size from rfl)
  obtain ⟨i0, hi, hz0, hz1, hz2⟩ := info_parts info_rec
  refine (callsIn_wide (n := 6)).1 ?_
  refine callsIn_of_wp_marks Tryz.func62 rfl trivial ?_ rfl
  simp only [Tryz.ntmps62, List.size_toArray, List.length_cons, List.length_nil, Nat.reduceAdd, Nat.reduceSub, Array.replicate_succ, Array.replicate_zero, List.push_toArray, List.append_toArray, List.nil_append, List.cons_append]
  gi_wp2_with (first | (refine ⟨trivial, ?_⟩; gi_at_call 107; refine (callsIn_wide.2 (M.out _)).mono ?_; rintro e w' ⟨rfl, rfl⟩) | (refine ⟨trivial, ?_⟩; gi_at_call 108; refine (callsIn_wide.2 (R.out _)).mono ?_; rintro e w' ⟨rfl, rfl⟩))
  have bL := ((((Boxed.new w 60 (.slice none 0 0)).alloc (.cells #[.int .i64 0] 3)).alloc (.cells #[.string s] 9)).alloc (.cells #[.int .i64 0] 3)).alloc (.cells #[.int .i64 base] 3)
  have bE := (((Boxed.new (w.alloc (.cells #[.slice none 0 0] 60)) 3 (.int .i64 0)).alloc (.cells #[.string s] 9)).alloc (.cells #[.int .i64 0] 3)).alloc (.cells #[.int .i64 base] 3)
  have bC := ((Boxed.new ((w.alloc (.cells #[.slice none 0 0] 60)).alloc (.cells #[.int .i64 0] 3)) 9 (.string s)).alloc (.cells #[.int .i64 0] 3)).alloc (.cells #[.int .i64 base] 3)
  have bA := (Boxed.new (((w.alloc (.cells #[.slice none 0 0] 60)).alloc (.cells #[.int .i64 0] 3)).alloc (.cells #[.string s] 9)) 3 (.int .i64 0)).alloc (.cells #[.int .i64 base] 3)
  have bO := Boxed.new ((((w.alloc (.cells #[.slice none 0 0] 60)).alloc (.cells #[.int .i64 0] 3)).alloc (.cells #[.string s] 9)).alloc (.cells #[.int .i64 0] 3)) 3 (.int .i64 base)
  simp only [World.size_alloc] at bL bE bC bA bO
  have hB0 : Below w.heap.size w (((((w.alloc (.cells #[.slice none 0 0] 60)).alloc (.cells #[.int .i64 0] 3)).alloc (.cells #[.string s] 9)).alloc (.cells #[.int .i64 0] 3)).alloc (.cells #[.int .i64 base] 3)) :=
    (((((Below.refl _ w).alloc (Nat.le_refl _) _).alloc (by simp) _).alloc (by simp; omega) _).alloc (by simp; omega) _).alloc (by simp; omega) _
  have hsz : (((((w.alloc (.cells #[.slice none 0 0] 60)).alloc (.cells #[.int .i64 0] 3)).alloc (.cells #[.string s] 9)).alloc (.cells #[.int .i64 0] 3)).alloc (.cells #[.int .i64 base] 3)).heap.size = w.heap.size + 5 := by simp
  obtain ⟨W0, hW0⟩ : ∃ W0, ((((w.alloc (.cells #[.slice none 0 0] 60)).alloc (.cells #[.int .i64 0] 3)).alloc (.cells #[.string s] 9)).alloc (.cells #[.int .i64 0] 3)).alloc (.cells #[.int .i64 base] 3) = W0 := ⟨_, rfl⟩
  rw [hW0] at bL bE bC bA bO hB0 hsz ⊢
  clear hW0
  refine wpIn_rangeFunc_ownH (F := Fence.wide) rfl (by decide) (gf := 134) (lb := #[.pointer (some ⟨w.heap.size + 1 + 1 + 1, 0, none⟩), .pointer (some ⟨w.heap.size + 1 + 1 + 2, 0, none⟩), .pointer (some ⟨w.heap.size + 1 + 1, 0, none⟩)]) rfl trivial (enters_of Tryz.func134 (by kernel_rfl) rfl)
    (iter9_stops s base 0 (w.heap.size + 1 + 1 + 1) (w.heap.size + 1 + 1 + 2) (w.heap.size + 1 + 1) 5 9 (by decide) (by omega) hb0 hb1 (Nat.zero_le _) W0 (by omega) (by omega) (by omega) bA.cell bO.cell bC)
    (fun h k => kpC_t h k) (kpC_b (by omega)) (Below.refl _ _) (fun _ => rfl)
    (fun (pre : List (It base)) W => ((∃ v, Boxed W w.heap.size 60 v ∧ W.ownsRow w.heap.size 57 3 v pre.length (recVals (pre.map fun x => x.1.1)) ∧ True) ∧ (Boxed W (w.heap.size + 1) 3 (.int .i64 (lastAt 0 pre : Nat)) ∧ Boxed W (w.heap.size + 1 + 1) 9 (.string s))) ∧ Below w.heap.size w W)
    (fun _ _ _ => False)
    (OwnFrom.and (OwnFrom.and (Own.from (holdsRow_own w.heap.size w.heap.size 60 57 3 (fun (pre : List (It base)) => pre.length) (fun pre => recVals (pre.map fun x => x.1.1)) (fun _ _ => True)) _) (OwnFrom.and (Own.from (boxed_own _ _ (fun (pre : List (It base)) => .int .i64 (lastAt 0 pre : Nat))) _) (Own.from (boxed_own _ _ _) _))) (ownFrom_below (Nat.le_refl _) (by omega)))
    (fun _ _ _ _ _ hs _ _ => hs)
    ⟨⟨⟨_, bL, World.ownsRow_nil _ _ _ _, trivial⟩, bE, bC⟩, hB0⟩
    (fun x a' W => ∃ Bx, w.heap.size + 2 < Bx ∧ W.heap[Bx]? = some (.cells #[.int .i64 x.1.1.a, .int .i64 x.1.1.t, .string x.1.1.d] 57 (0, 0)) ∧ a' = { defers := [], tmps :=
        #[Value.string s, Value.int IntKind.i64 base, undef, undef, Value.slice none 0 0, Value.int IntKind.i64 0,
          Value.int IntKind.i64 0, Value.pointer (some { block := w.heap.size, off := 0 }),
          Value.pointer (some { block := w.heap.size + 1, off := 0 }), Value.pointer (some ⟨Bx, 0, none⟩), Value.int IntKind.i64 (x.1.2 : Int), undef, undef, undef,
          Value.int IntKind.i64 base, Value.bool true, Value.bool false, Value.string s, Value.int IntKind.i64 base,
          Value.func (Fn.func 134) #[]
            #[Value.pointer (some { block := w.heap.size + 1 + 1 + 1, off := 0 }),
              Value.pointer (some { block := w.heap.size + 1 + 1 + 2, off := 0 }),
              Value.pointer (some { block := w.heap.size + 1 + 1, off := 0 })],
          .agg #[.int .i64 x.1.1.a, .int .i64 x.1.1.t, .string x.1.1.d], .int .i64 (x.1.2 : Int), undef, undef, undef, undef, undef, undef, undef, undef, undef, undef, undef, undef, undef, undef, undef, undef, undef, undef, undef, undef, undef, undef, undef, undef, undef] })
    (fun x a' _ X Y row hs hg hr => by obtain ⟨Bx, h1, h2, h3⟩ := hs; exact ⟨Bx, h1, row_kept h2 hg (fun r e => (hr r e).2), h3⟩)
    ?assign ?body ?done ?stop
  case assign =>
    rintro l pre ⟨⟨⟨ra, rt, rd⟩, q⟩, hx⟩ W K ⟨⟨⟨v, bL1, hO, _⟩, bE1, bC1⟩, hB1⟩ hK
    have hK := Lib.hid (fun a' h => hK a' _ ((KeepsOthers.alloc W (.cells #[.int .i64 ra, .int .i64 rt, .string rd] 57)).from _) (kpC_below ((Below.refl _ W).alloc (Nat.le_refl _) _)) ⟨⟨⟨v, bL1.alloc _, hO.alloc _, trivial⟩, bE1.alloc _, bC1.alloc _⟩, hB1.alloc hB1.size _⟩ ⟨W.heap.size, by have := bC1.lt; omega, heap_alloc_new W _, h⟩)
    unfold itVals
    dsimp only
    gi_wp2
    exact hK.out _ rfl
  case body =>
    rintro l pre ⟨⟨⟨ra, rt, rd⟩, q⟩, hx⟩ a' W hl hr ⟨⟨⟨v, bL1, hO, _⟩, bE1, bC1⟩, hB1⟩ ⟨Bx, hBx, gX, rfl⟩ hlt
    obtain ⟨x, hxe⟩ : ∃ x : It base, x = ⟨⟨⟨ra, rt, rd⟩, q⟩, hx⟩ := ⟨_, rfl⟩
    have HLA := Lib.hid (lastAt_snoc 0 pre x)
    have HRV := Lib.hid (show recVals ((pre ++ [x]).map fun x => x.1.1) = recVals (pre.map fun x => x.1.1) ++ [.int .i64 ra, .int .i64 rt, .string rd] by rw [List.map_append, hxe]; exact recVals_snoc _ ⟨ra, rt, rd⟩)
    have HPL := Lib.hid (show (pre ++ [x]).length = pre.length + 1 by simp)
    obtain ⟨ln, hln⟩ : ∃ ln, pre.length = ln := ⟨_, rfl⟩
    rw [← hxe]
    rw [hln] at hO HPL hlt
    generalize recVals (pre.map fun x => x.1.1) = rv at *
    generalize lastAt 0 pre = la at *
    clear hxe hln
    dsimp only
    have cL := bL1.cell
    have cE := bE1.cell
    have fE := bE1.frozen
    obtain ⟨z0, z1, z2⟩ := cells3 gX
    have hs1 := hB1.size
    have GO := Lib.hid fun (v' : Value) (w1 : World) (hown' : w1.ownsRow w.heap.size 57 3 v' (ln + 1) (rv ++ [.int .i64 ra, .int .i64 rt, .string rd])) (hgrow : (W.alloc (.cells #[.int .i64 ra, .int .i64 rt, .string rd] 57)).grownBy w1 v.ownBlock) => bL1.appended (by decide) hO hs1 (Nat.le_refl _) hown' hgrow
    have GE := Lib.hid fun (w1 : World) (hgrow : (W.alloc (.cells #[.int .i64 ra, .int .i64 rt, .string rd] 57)).grownBy w1 v.ownBlock) => (bE1.alloc _).kept hgrow (bE1.not_row (by decide) hO)
    have GC := Lib.hid fun (w1 : World) (hgrow : (W.alloc (.cells #[.int .i64 ra, .int .i64 rt, .string rd] 57)).grownBy w1 v.ownBlock) => (bC1.alloc _).kept hgrow (bC1.not_row (by decide) hO)
    have HBC := Lib.hid bC1
    have HBB := Lib.hid hB1
    have HO := Lib.hid hO
    clear bL1 bE1 bC1 hO hB1 gX
    gi_wp2_with (gi_at_builtin; refine wpListIn_append_own _ rfl _ _ 60 rfl w.heap.size 57 i0 (.agg #[.int .i64 0, .int .i64 0, .string ByteArray.empty]) 3 32 Tryz.underlying60 hi hz0 hz1 hz2 rfl (by decide) _ _ _ rfl (HO.out.alloc _) ⟨W.heap.size, 0, none⟩ 1 1 [.int .i64 ra, .int .i64 rt, .string rd] (by simp [go_sem]) rfl (news_new W _ [.int .i64 ra, .int .i64 rt, .string rd] 57 rfl) (by simp [Value.oneCell']) (by unfold maxLen; omega) (by omega) (by simp; omega) ?_; intro v' w1 hown' hgrow _; obtain ⟨g', cap', rfl⟩ := ownsRow_succ hown'; obtain ⟨hv1, hv2, hr2, hk2, hb2⟩ := GO.out _ _ hown' hgrow; have hc1 := hv1.cell; have hf1 := hv1.frozen; have bE3 := GE.out _ hgrow; have bC3 := GC.out _ hgrow; have cE3 := bE3.cell; have fE3 := bE3.frozen; have HS := Lib.hid (And.intro hv2 (And.intro hr2 (And.intro hk2 hb2))); have HE := Lib.hid bE3; have HC := Lib.hid bC3; clear hv1 hv2 hr2 hk2 hb2 bE3 bC3 hown' hgrow)
    obtain ⟨hv2, hr2, hk2, hb2⟩ := HS.out
    have bE4 := HE.out.other (show w.heap.size + 1 ≠ w.heap.size by omega) (.slice (some ⟨g', 0, none⟩) (ln + 1) cap')
    have bC4 := (HC.out.other (show w.heap.size + 1 + 1 ≠ w.heap.size by omega) (.slice (some ⟨g', 0, none⟩) (ln + 1) cap')).other (show w.heap.size + 1 + 1 ≠ w.heap.size + 1 by omega) (.int .i64 (x.1.2 : Int))
    exact ⟨(hk2.trans (KeepsOthers.setCell _ _ _)).from _, (fun o ho => by rw [show W.heap[_]? = _ from HBC.out] at ho; cases ho; exact bC4),
      ⟨⟨⟨_, hv2.other (by omega) _, by rw [HPL.out, HRV.out]; exact hr2.kept (grownBy_setCell' _ _ _) (.inr (bE4.not_row (by decide) hr2).symm)⟩, by rw [HLA.out]; exact bE4.set _, bC4⟩, (HBB.out.trans hb2).setCell (p := ⟨w.heap.size + 1, 0, none⟩) (by simp) _⟩⟩
  case done =>
    rintro D ys W hD ⟨ps, k, e, hF, hG, hZ, hne, hlt, hge⟩ ⟨⟨⟨v, bL1, hO, _⟩, bE1, _⟩, hB1⟩ hK
    rw [hZ.last] at bE1
    rw [hZ.len, hZ.recs] at hO
    rw [HL.out] at hlt hge
    have hks : k ≤ s.size := by
      rcases hG.le with h | h
      · rw [HL.out] at h; exact h
      · omega
    have hFF := HFU.out.trans hF
    have hfew := hG.few
    have cL := bL1.cell
    have cE := bE1.cell
    have HR := Lib.hid fun (W' : World) (h : W'.ownsRow w.heap.size 57 3 v ps.length (recVals (ps.map Prod.fst))) (hb : Below w.heap.size w W') => scan_end (by omega) hG h hFF hb
    have HO := Lib.hid hO
    have HB := Lib.hid hB1
    have hs1 := hB1.size
    by_cases hk : k = s.size
    · obtain rfl := hge (by omega)
      have heq : ((k : Int) == (s.size : Int)) = true := by simp; omega
      have HK := Lib.hid hK
      clear hO hB1 hF hG hZ hne hlt hge hFF bL1 bE1 hK
      subst hk
      gi_wp2
      gi_region
      all_goals gi_wp2
      refine ⟨by simp, .inl ⟨_, _, rfl, run_takeDeferred (w := W.drew) HK.out, ?_⟩⟩
      refine ⟨.tuple #[v, .int .i64 (s.size : Int), .int .i64 0], by simp [results, Tryz.results62, go_sem], ?_⟩
      exact HR.out _ (ownsRow_putObj (own_below HO.out (Below.refl _ W).drew) _ HK.out rfl) (HB.out.drew.trans (belowK_b (w := w) (Nat.le_refl _) W.drew D _ _ (by omega) HK.out rfl rfl))
    · have heq : ((k : Int) == (s.size : Int)) = false := by simp; omega
      have her := hlt (by omega)
      have NX := fun W1 : World => next9_any s k (base + (ps.length : Int)) W1 (by omega)
      generalize Gp.fd s.data.toList (base + (ps.length : Int)) k = x at NX her
      obtain ⟨⟨xa, xt, xd⟩, xk, xe⟩ := x
      dsimp only at her
      subst her
      unfold fdVal at NX
      dsimp only at NX
      obtain ⟨va, vc, rfl⟩ := own_slice hO
      replace NX := Lib.hid NX
      have HK := Lib.hid hK
      have HBL := Lib.hid bL1
      have HBE := Lib.hid bE1
      clear hO hB1 hF hG hZ hne hlt hge hFF bL1 bE1 hK
      obtain ⟨ln, hln⟩ : ∃ ln, ps.length = ln := ⟨_, rfl⟩
      rw [hln] at NX HR HO HBL cL hfew
      gi_wp2_with (refine ⟨trivial, ?_⟩; gi_at_call 109; refine (callsIn_wide.2 (NX.out _)).mono ?_; rintro e1 w1 ⟨rfl, b1⟩; have B2 := Lib.hid (b1.alloc (Below.size b1) (Obj.cells #[.int .i64 xa, .int .i64 xt, .string xd] 57)); have cL1 := Boxed.cell (B2.out.block _ HBL.out.lt |>.trans HBL.out); have cE1 := Boxed.cell (B2.out.block _ HBE.out.lt |>.trans HBE.out); clear b1)
      gi_region
      all_goals gi_wp2
      have HK2 := Lib.hid ((B2.out.block D (Array.getElem?_eq_some_iff.1 HK.out).1).trans HK.out)
      have HB2 := Lib.hid ((HB.out.trans (B2.out.mono hs1)).drew)
      refine ⟨by simp, .inl ⟨_, _, rfl, run_takeDeferred (w := (w1.alloc (Obj.cells #[.int .i64 xa, .int .i64 xt, .string xd] 57)).drew) HK2.out, ?_⟩⟩
      refine ⟨.tuple #[.slice va ln vc, .int .i64 (k : Int), .int .i64 e], by simp [results, Tryz.results62, go_sem], ?_⟩
      exact HR.out _ (ownsRow_putObj (own_below HO.out B2.out.drew) _ HK2.out rfl) (HB2.out.trans (belowK_b (w := w) (Nat.le_refl _) _ D _ _ (by omega) HK2.out rfl rfl))
  case stop =>
    rintro D c pre W _ _ h _
    exact h.elim

theorem scan9_any (s : ByteArray) (base : Int) (w : World) (hs : s.size ≤ 1000000000) (_ : -9223372036854775808 ≤ base) (_ : base ≤ 9223372036854775807) :
    Calls Tryz.prog 62 #[.string s, .int .i64 base] w (ScanOut w (Gp.full s.data.toList base)) := by
  by_cases h : base < 0 ∨ 1099511627776 < base
  · exact scan9_out s base w h
  · exact scan9_in s base w hs (by omega) (by omega)

end Go.Proofs.YthhhocgpoenigaaGreat

namespace Go.Proofs.YthhhocgpoenigaaGreat
open Go.RowKit Go.Shelf Go.Proofs.YthhhocgpoenigaaGreat.Mks Go.Proofs.YthhhocgpoenigaaGreat.Gp

attribute [local go_sem] Oper.semAt_some

namespace Gp
theorem read_hit {L : List UInt8} {b off : Int} {i p k : Nat} {e : Int} {ps : List (Rp.Rec × Nat)} (hg : Good L b 0 ps k) (hp : pls (L.drop p) (b + i) p = (ps.drop i, k, e)) {xs : List (It (b + i))} {x : It (b + i)} (h : SomeCame L (b + i) p (xs ++ [x])) (ha : x.1.1.a = off) :
    rd ps b off = (x.1.1, 0) := by
  obtain ⟨ps2, k2, hr, _, hz⟩ := h
  unfold PRel at hr
  rw [hp] at hr
  have h1 := congrArg Prod.fst hr
  dsimp only at h1
  have h2 := hz.recs
  have hl := hz.len
  rw [List.length_append, List.length_singleton] at hl
  have h3 : (ps2.map Prod.fst)[xs.length]? = some x.1.1 := by rw [← h2]; simp
  have h4 : ((ps.drop i).map Prod.fst)[xs.length]? = some x.1.1 := by
    rw [h1, List.map_append, List.getElem?_append_left (by rw [List.length_map]; omega)]
    exact h3
  rw [List.getElem?_map, List.getElem?_drop] at h4
  obtain ⟨q, hq1, hq2⟩ := Option.map_eq_some_iff.1 h4
  obtain ⟨hlt, hq⟩ := List.getElem?_eq_some_iff.1 hq1
  have h5 := hg.at_ _ hlt
  rw [hq, hq2, ha] at h5
  rw [h5, rd_in ps b hlt, hq, hq2]
end Gp

end Go.Proofs.YthhhocgpoenigaaGreat

namespace Go.Proofs.YthhhocgpoenigaaGreat
open Go.RowKit Go.Shelf Go.Proofs.YthhhocgpoenigaaGreat.Mks Go.Proofs.YthhhocgpoenigaaGreat.Gp

attribute [local go_sem] Oper.semAt_some

namespace Gp
end Gp

/-- What lies in memory beside the marks. -/
def S9 (B Bx : Nat) (base every ra rt pa : Int) (rd s : ByteArray) (W : World) : Prop :=
  Boxed W B 3 (.int .i64 base) ∧ Boxed W (B + 1) 3 (.int .i64 every) ∧ W.heap[Bx]? = some (.cells #[.int .i64 ra, .int .i64 rt, .string rd] 57 (0, 0)) ∧ Boxed W (B + 1 + 1 + 1) 3 (.int .i64 pa) ∧ Boxed W (B + 1 + 1 + 1 + 1) 9 (.string s)
theorem row_not {W : World} {k : Nat} {cs : Array Value} {t e : TypeId} {fz : Nat × Nat} (h : W.heap[k]? = some (.cells cs t fz)) (hte : t ≠ e) {base size n : Nat} {v : Value} {xs : List Value} (hr : W.ownsRow base e size v n xs) : some k ≠ v.ownBlock := by
  rcases hr.2 with ⟨rfl, _⟩ | ⟨g, cap, cur, rfl, _, hgb, _⟩
  · simp [Value.ownBlock]
  · intro e'
    obtain rfl : k = g := by simpa [Value.ownBlock] using e'
    rw [h] at hgb
    injection hgb with hgb
    injection hgb with _ e1
    exact hte e1
theorem S9.below {B Bx : Nat} {base every ra rt pa : Int} {rd s : ByteArray} {W W' : World} (h : S9 B Bx base every ra rt pa rd s W) (b : Below W.heap.size W W') : S9 B Bx base every ra rt pa rd s W' := by
  obtain ⟨h1, h2, h3, h4, h5⟩ := h
  exact ⟨(b.block _ h1.lt).trans h1, (b.block _ h2.lt).trans h2, (b.block _ (Array.getElem?_eq_some_iff.1 h3).1).trans h3, (b.block _ h4.lt).trans h4, (b.block _ h5.lt).trans h5⟩
theorem S9.set {B Bx : Nat} {base every ra rt pa : Int} {rd s : ByteArray} {W : World} (h : S9 B Bx base every ra rt pa rd s W) (hx : Bx ≠ B + 1 + 1) (v : Value) : S9 B Bx base every ra rt pa rd s (W.setCell ⟨B + 1 + 1, 0, none⟩ v) := by
  obtain ⟨h1, h2, h3, h4, h5⟩ := h
  exact ⟨h1.other (by omega) v, h2.other (by omega) v, (Below.heap_setCell W ⟨B + 1 + 1, 0, none⟩ v Bx (fun e => hx e)).trans h3, h4.other (by omega) v, h5.other (by omega) v⟩

end Go.Proofs.YthhhocgpoenigaaGreat

namespace Go.Proofs.YthhhocgpoenigaaGreat.Sto
open Go.RowKit Go.Proofs.YthhhocgpoenigaaGreat.So Go.Proofs.YthhhocgpoenigaaGreat.Dsk Go.Proofs.YthhhocgpoenigaaGreat.Rts

theorem recVals_append (a b : List Rp.Rec) : recVals (a ++ b) = recVals a ++ recVals b := by unfold recVals; rw [List.flatMap_append]
theorem recs_news {W : World} {b off n c : Nat} {l : List Rp.Rec} (h : IsRecs W (.slice (some ⟨b, off, none⟩) n c) l) : ∀ j u, (recVals l)[j]? = some u → W.cell? ((⟨b, off, none⟩ : Addr).add j) = some u := by
  obtain ⟨a, cap, e, h1, h2, h3⟩ := h
  injection e with e1 e2 e3
  intro j u hj
  have hlt : j < (recVals l).length := (List.getElem?_eq_some_iff.1 hj).1
  rw [recVals_len] at hlt
  rcases h3 with rfl | ⟨b', off', ea, h4⟩
  · simp at hlt
  · rw [ea] at e1
    injection e1 with e1
    injection e1 with e1 e4 _
    subst e1 e4
    have hi : j / 3 < l.length := by omega
    obtain ⟨c0, c1, c2⟩ := h4 (j / 3) hi
    obtain ⟨v0, v1, v2⟩ := recVals_get l (j / 3) hi
    rw [addr_plain]
    have hc : j = j / 3 * 3 ∨ j = j / 3 * 3 + 1 ∨ j = j / 3 * 3 + 2 := by omega
    rcases hc with hc | hc | hc
    · rw [hc, v0] at hj; rw [hc]; exact c0.trans hj
    · rw [hc, v1] at hj; rw [hc, ← Nat.add_assoc]; exact c1.trans hj
    · rw [hc, v2] at hj; rw [hc, ← Nat.add_assoc]; exact c2.trans hj
theorem recVals_cells (l : List Rp.Rec) : ∀ u ∈ recVals l, u.oneCell' = true := by
  intro u hu
  unfold recVals at hu
  rw [List.mem_flatMap] at hu
  obtain ⟨r, _, hr⟩ := hu
  simp at hr
  rcases hr with rfl | rfl | rfl <;> rfl
theorem run_append_none0 {P : Program} {w : World} {base : Nat} {e : TypeId} {size : Nat} (t ty : TypeId) (i : TypeInfo) (ht : P.underlying t = some (.slice e)) (hi : P.info? e = some i)
    (v : Value) (n c : Nat) (xs : List Value) (hown : w.ownsRow base e size v n xs) :
    (Builtin.append_ #[t, t] ty #[v, .slice none 0 c]).run P w = .ok v w := by
  rcases hown.2 with ⟨rfl, rfl⟩ | ⟨g, cap, cur, rfl, _, _, hnc, _⟩
  · simp [Builtin.append_, run_underlying ht, sizeOf, typeInfo, hi, Builtin.lenOf, Builtin.firstCells]
  · simp [Builtin.append_, run_underlying ht, sizeOf, typeInfo, hi, Builtin.lenOf, Builtin.firstCells, hnc, storeCells]
/-- Records that are appended to a row of the call's own. -/
theorem app_recs {W : World} {base : Nat} {v u : Value} {l fs : List Rp.Rec} (ty : TypeId) (ho : W.ownsRow base 57 3 v l.length (recVals l)) (hu : IsRecs W u fs) (hb : base ≤ W.heap.size) (hn : l.length + fs.length ≤ 1000000) :
    ∃ v' w', (Builtin.append_ #[60, 60] ty #[v, u]).run Tryz.prog W = .ok v' w' ∧ w'.ownsRow base 57 3 v' (l ++ fs).length (recVals (l ++ fs)) ∧ W.grownBy w' v.ownBlock := by
  obtain ⟨i0, hi, hz0, hz1, hz2⟩ := info_parts info_rec12
  have hu' := hu
  obtain ⟨a, cap, rfl, h1, h2, h3⟩ := hu
  rw [List.length_append, recVals_append]
  cases a with
  | none =>
    rcases h3 with rfl | ⟨b, off, e, _⟩
    · refine ⟨v, W, run_append_none0 _ ty i0 Tryz.underlying60 hi v _ cap _ ho, ?_, ⟨rfl, rfl, rfl, Nat.le_refl _, fun _ _ _ => rfl⟩⟩
      simpa [recVals] using ho
    · cases e
  | some ad =>
    obtain ⟨b, off, rfl⟩ | hz : (∃ b off, ad = ⟨b, off, none⟩) ∨ fs = [] := by
      rcases h3 with h3 | ⟨b, off, e, _⟩
      · exact .inr h3
      · exact .inl ⟨b, off, by injection e⟩
    · obtain ⟨v', w', hr, hown, hg, _⟩ := run_append_own W base 60 ty 57 i0 (.agg #[.int .i64 0, .int .i64 0, .string ByteArray.empty]) 3 32 Tryz.underlying60 hi hz0 hz1 hz2 rfl (by decide) v l.length _ ho ⟨b, off, none⟩ fs.length cap (recVals fs) (recVals_len fs) (recs_news hu') (recVals_cells fs) (by unfold maxLen; omega) (by omega) hb
      exact ⟨v', w', hr, hown, hg⟩
    · subst hz
      obtain ⟨v', w', hr, hown, hg, _⟩ := run_append_own W base 60 ty 57 i0 (.agg #[.int .i64 0, .int .i64 0, .string ByteArray.empty]) 3 32 Tryz.underlying60 hi hz0 hz1 hz2 rfl (by decide) v l.length _ ho ad 0 cap [] rfl (fun j u hj => by simp at hj) (fun u hu => by cases hu) (by unfold maxLen; simp at hn; omega) (by simp at hn; omega) hb
      exact ⟨v', w', hr, hown, hg⟩

end Go.Proofs.YthhhocgpoenigaaGreat.Sto

namespace Go.Proofs.YthhhocgpoenigaaGreat.Sto
open Go.RowKit Go.Proofs.YthhhocgpoenigaaGreat.So Go.Proofs.YthhhocgpoenigaaGreat.Dsk Go.Proofs.YthhhocgpoenigaaGreat.Rts

theorem own_room {W : World} {base : Nat} {e : TypeId} {size n c : Nat} {a : Option Addr} {xs : List Value} (h : W.ownsRow base e size (.slice a n c) n xs) : n ≤ c := by
  rcases h.2 with ⟨h1, h2⟩ | ⟨g, cap, cur, h1, _, _, h2, _⟩
  · omega
  · injection h1 with _ _ h3
    omega
theorem ext_take (R : ByteArray) (n : Nat) : (R.extract 0 (min (n : Int) (R.size : Int)).toNat).data.toList = R.data.toList.take n := by
  rw [ext_list, List.drop_zero, Nat.sub_zero]
  have h : R.size = R.data.toList.length := by simp
  rcases Nat.le_total n R.size with h1 | h1
  · rw [show (min (n : Int) (R.size : Int)).toNat = n by omega]
  · rw [show (min (n : Int) (R.size : Int)).toNat = R.size by omega, List.take_of_length_le (by omega), List.take_of_length_le (by omega)]
theorem take_min (l : List Rp.Rec) (W : Nat) : l.take (min (W : Int) (l.length : Int)).toNat = l.take W := by
  rcases Nat.le_total W l.length with h1 | h1
  · rw [show (min (W : Int) (l.length : Int)).toNat = W by omega]
  · rw [show (min (W : Int) (l.length : Int)).toNat = l.length by omega, List.take_length, List.take_of_length_le h1]
/-- What From answers at its end. -/
theorem fr_end {w wr : World} {l T : List Rp.Rec} {base n c Wn : Nat} {va : Option Addr} (hown : wr.ownsRow base 57 3 (.slice va n c) l.length (recVals l)) (hn : l.length = n) (hm : l.length ≤ 1000000) (hok : ∀ r ∈ l, Rp.Ok r) (hT : T = l.take Wn) (hb : Below w.heap.size w wr) :
    FrOut w T (.returned (.slice va (min (Wn : Int) (n : Int)).toNat c)) wr := by
  subst hn
  refine FrOut.mk (rs := l.take (min (Wn : Int) (l.length : Int)).toNat) (by rw [take_min]; exact hT) ?_ hb
  exact (IsRecs.own hown (by unfold maxLen; omega) hok).take (by omega)
/-- Where From's loop stands: so many records are taken. -/
structure FrAt (S : St) (rs : List Rp.Rec) (i B gn : Nat) (p kk : Nat) : Prop where
  hp : i + p ≤ rs.length
  hb : (Rp.rowB ((rs.drop i).take p)).length ≤ B
  hk : kk ≤ gn
  lo : kk < gn → (S.g.getD kk Rt.zero).b ≤ ((i + p : Nat) : Int) ∧ ((i + p : Nat) : Int) ≤ (S.g.getD kk Rt.zero).b + (S.g.getD kk Rt.zero).n
  hi : kk = gn → i + p = rs.length

set_option maxRecDepth 100000 in
set_option maxHeartbeats 3200000 in
theorem from12_any (fa ga : Option Addr) (fn fc gn gc : Nat) (S : St) (q : Int) (rs : List Rp.Rec) (o by_ most : Int) (w : World) (hf : IsL FL w (.slice fa fn fc) S.d.f) (hg : IsL SL w (.slice ga gn gc) S.g) (hB : Stb S) (hI : Inv q S rs) (hl : rs.length ≤ 100000) (hb : 0 ≤ by_ ∧ by_ ≤ 1000000) (hm : most ≤ 1000000) :
    Calls Tryz.prog 27 #[stVal (.slice fa fn fc) (.slice ga gn gc) S, .int .i64 o, .int .i64 by_, .int .i64 most] w (FrOut w (fromT S o by_ most)) := by
  have hne : S.g ≠ [] := List.length_pos_iff.1 hI.base0.2.2
  have hgl := hg.len.1
  have q0 := heap_alloc_new w (.cells #[.slice fa fn fc, .int .i64 S.d.c, .bool S.d.a, .int .i64 S.d.l, .bool S.d.x, .int .i64 S.v, .slice ga gn gc, .int .i64 S.x, .int .i64 S.s, .int .i64 S.z, .int .u32 S.c] 31)
  have QB := Lib.hid ((Below.refl w.heap.size w).alloc (Nat.le_refl _) (.cells #[.slice fa fn fc, .int .i64 S.d.c, .bool S.d.a, .int .i64 S.d.l, .bool S.d.x, .int .i64 S.v, .slice ga gn gc, .int .i64 S.x, .int .i64 S.s, .int .i64 S.z, .int .u32 S.c] 31))
  have FLO := Lib.hid fun (W : World) (h : IsL SL W (.slice ga gn gc) S.g) => floor12_any (.slice fa fn fc) (.slice ga gn gc) S W h hne
  rw [hI.base0.1] at FLO
  have Q0 := Lib.hid q0
  have F0 := Lib.hid hf
  have G0 := Lib.hid hg
  unfold stVal at FLO ⊢
  by_cases hlo : o < floor S ∨ S.s ≤ o ∨ most < 1
  · have HF := Lib.hid (fromT_lo (S := S) (B := by_) hlo)
    rw [hI.base0.1] at hlo
    have key : o < 0 ∨ (¬ o < 0 ∧ S.s ≤ o) ∨ (¬ o < 0 ∧ ¬ S.s ≤ o ∧ most < 1) := by omega
    obtain ⟨⟨k0, k1, k2, k3, k4⟩, k5, k6, k7, k8, k9, k10⟩ := cellsS q0
    clear hlo hI hB hf hg hne hgl hl hb hm q0
    rcases key with h1 | ⟨h1, h2⟩ | ⟨h1, h2, h3⟩
    all_goals
      go_enter Tryz.func27, Tryz.ntmps27
      go_upto_region 1 with (fail)
      generalize World.alloc w _ = w0 at Q0 QB k0 k1 k2 k3 k4 k5 k6 k7 k8 k9 k10 ⊢
      go_wp2_with fail
      refine (FLO.out _ (G0.out.keep QB.out)).mono ?_
      rintro en w1 ⟨rfl, b1⟩
      have PB := Lib.hid (QB.out.trans (b1.mono QB.out.size))
      have Q1 := hkeep Q0.out b1
      clear b1 k0 k1 k2 k3 k4 k5 k6 k7 k8 k9 k10
      obtain ⟨⟨k0, k1, k2, k3, k4⟩, k5, k6, k7, k8, k9, k10⟩ := cellsS Q1
      clear Q1
      go_wp2_with fail
      go_ret
      exact FrOut.mk HF.out (IsRecs.nil _ none 0) PB.out
  have h1 : ¬ o < 0 := by have := hI.base0.1; omega
  have h2 : ¬ S.s ≤ o := by omega
  have h3 : ¬ most < 1 := by omega
  obtain ⟨i, rfl⟩ : ∃ i : Nat, o = (i : Int) := ⟨o.toNat, by omega⟩
  obtain ⟨B, rfl⟩ : ∃ B : Nat, by_ = (B : Int) := ⟨by_.toNat, by omega⟩
  have hxs := hI.s1
  have hxl := hI.x
  have HFT := fromT_fit hI (by omega) (B : Int) most (by omega) (show (i : Int) < S.s by omega)
  rw [Int.toNat_natCast] at HFT
  obtain ⟨Wn, hWn⟩ : ∃ Wn : Nat, min most (S.s - (i : Int)) = (Wn : Int) := ⟨(min most (S.s - (i : Int))).toNat, by omega⟩
  rw [hWn, Int.toNat_natCast] at HFT
  have hwsub : IntKind.i64.wrap (S.s - (i : Int)) = S.s - (i : Int) := IntWalk.i64_in _ ⟨by omega, by omega⟩
  have HO := Lib.hid fun (W : World) (h : IsL SL W (.slice ga gn gc) S.g) => holder12_any (.slice ga gn gc) S.g (i : Int) W h hne hB.n
  have HI := Lib.hid (And.intro hI (And.intro hB hl))
  have HN := Lib.hid (And.intro hgl.symm (show i < rs.length by omega))
  replace HFT := Lib.hid HFT
  have HWN := Lib.hid hWn
  have hB6 : (B : Int) ≤ 1000000 := hb.2
  obtain ⟨⟨k0, k1, k2, k3, k4⟩, k5, k6, k7, k8, k9, k10⟩ := cellsS q0
  clear hlo hI hB hf hg hne hgl hl hb hm q0 hxs hxl hWn
  go_enter Tryz.func27, Tryz.ntmps27
  go_upto_region 1 with (fail)
  generalize World.alloc w _ = w0 at Q0 QB k0 k1 k2 k3 k4 k5 k6 k7 k8 k9 k10 ⊢
  go_wp2_with fail
  refine (FLO.out _ (G0.out.keep QB.out)).mono ?_
  rintro en w1 ⟨rfl, b1⟩
  have PB := Lib.hid (QB.out.trans (b1.mono QB.out.size))
  have Q1 := hkeep Q0.out b1
  have HQ1 := Lib.hid Q1
  clear b1 k0 k1 k2 k3 k4 k5 k6 k7 k8 k9 k10 Q0 QB
  obtain ⟨⟨k0, k1, k2, k3, k4⟩, k5, k6, k7, k8, k9, k10⟩ := cellsS Q1
  clear Q1
  go_upto_region 5 with (fail)
  rw [HWN.out]
  go_wp2_with fail
  refine (HO.out _ (G0.out.keep PB.out)).mono ?_
  rintro en w2 ⟨k0n, rfl, hh, b2⟩
  have HA := Lib.hid (show FrAt S rs i B gn 0 k0n from by
    obtain ⟨hI, hB, hl⟩ := HI.out
    have hil := HN.out.2
    have a := hI.at_ hh.lt
    obtain ⟨j, m, hd, hj⟩ := hh.held hI (by omega) hil
    have h1 := hd.o
    refine ⟨by omega, by rw [List.take_zero, Rp.rowB_nil]; exact Nat.zero_le _, by rw [← HN.out.1]; exact Nat.le_of_lt hh.lt, fun _ => ⟨by rw [Nat.add_zero]; omega, ?_⟩, fun e => by have := hh.lt; have := HN.out.1; omega⟩
    rw [Nat.add_zero]
    rcases Nat.lt_or_ge (k0n + 1) S.g.length with e | e
    · have := hh.up (k0n + 1) (by omega) e
      rw [(a.nx e).1] at this
      omega
    · have := a.fin (by have := hh.lt; omega)
      omega)
  have PB2 := Lib.hid (PB.out.trans (b2.mono PB.out.size))
  have Q2 := Lib.hid (hkeep HQ1.out b2)
  clear hh b2 k0 k1 k2 k3 k4 k5 k6 k7 k8 k9 k10 PB HQ1 HO FLO hwsub
  go_wp2_with fail
  go_loopw [9, 11, 12] (fun v n k wr => ∃ p kk : Nat, n = .int .i64 ((B - (Rp.rowB ((rs.drop i).take p)).length : Nat) : Int) ∧ k = .int .i64 kk ∧ wr.ownsRow w.heap.size 57 3 v ((rs.drop i).take p).length (recVals ((rs.drop i).take p)) ∧ Hid (FrAt S rs i B gn p kk) ∧ wr.heap[w.heap.size]? = some (.cells #[.slice fa fn fc, .int .i64 S.d.c, .bool S.d.a, .int .i64 S.d.l, .bool S.d.x, .int .i64 S.v, .slice ga gn gc, .int .i64 S.x, .int .i64 S.s, .int .i64 S.z, .int .u32 S.c] 31 (0, 0)) ∧ Below w.heap.size w wr) (fun _ _ k _ => gn - (intOf k).toNat)
  case atStart => exact ⟨0, k0n, by rw [List.take_zero, Rp.rowB_nil]; rfl, rfl, by rw [List.take_zero]; exact World.ownsRow_nil _ _ _ _, HA, Q2.out, PB2.out⟩
  case round =>
    clear HA Q2 PB2
    obtain ⟨p, kk, rfl, rfl, hown, HA, q0, hbw⟩ := hrel
    obtain ⟨⟨k0, k1, k2, k3, k4⟩, k5, k6, k7, k8, k9, k10⟩ := cellsS q0
    obtain ⟨va, vc, rfl⟩ := own_slice1 hown
    have HQ := Lib.hid q0
    have HOW := Lib.hid hown
    have HBW := Lib.hid hbw
    have hkn := HA.out.hk
    have hpl : ((rs.drop i).take p).length = p := by rw [List.length_take, List.length_drop]; have := HA.out.hp; omega
    have HP := Lib.hid hpl
    rw [hpl]
    have hbl := HA.out.hb
    clear q0 hown hbw hpl
    by_cases hk : kk < gn
    · by_cases hp : p < Wn
      · have hki : (kk : Int) < (gn : Int) := by omega
        have hpi : (p : Int) < (Wn : Int) := by omega
        obtain ⟨x, hx⟩ : ∃ x : Nat, i + p = x := ⟨_, rfl⟩
        have hxl : x ≤ 1000000 := by have := HA.out.hp; have := HI.out.2.2; omega
        have hwn : IntKind.i64.wrap ((i : Int) + (p : Int)) = (x : Int) := by
          rw [show (i : Int) + (p : Int) = (x : Int) from by omega]
          exact IntWalk.i64_in _ ⟨by omega, by omega⟩
        obtain ⟨j, m, HD⟩ : ∃ j m, Hid (Held12 S rs x kk j m) := ⟨_, _, Lib.hid (At.held HI.out.1 (by have := HI.out.2.2; omega) (by rw [HN.out.1]; exact hk) (by rw [← hx]; exact (HA.out.lo hk).1) (by rw [← hx]; exact (HA.out.lo hk).2))⟩
        have TL := fun (W : World) (h : IsL FL W (.slice fa fn fc) S.d.f) => tail12_any fa fn fc S.d (S.g.getD kk Rt.zero).b (S.g.getD kk Rt.zero).n (S.g.getD kk Rt.zero).z m j W h HI.out.2.1.d HD.out.ok HD.out.b HD.out.d HD.out.le (by have := HD.out.n; have := HI.out.2.2; omega)
        rw [← HD.out.o] at TL
        unfold dkVal at TL
        obtain ⟨R, hR⟩ : ∃ R : ByteArray, (⟨(Rp.rowB (m.drop j)).toArray⟩ : ByteArray) = R := ⟨_, rfl⟩
        rw [hR] at TL
        have HRL := Lib.hid (show R.data.toList = Rp.rowB (m.drop j) from by rw [← hR])
        replace TL := Lib.hid TL
        obtain ⟨gb, goff, rfl, c0, c1, c2⟩ := sg_at (G0.out.keep HBW.out) hk
        have hgb := block_lt_of_cell c0
        have hbx : w.heap.size < wr.heap.size := (Array.getElem?_eq_some_iff.1 HQ.out).1
        obtain ⟨lf, hlf⟩ : ∃ lf, B - (Rp.rowB ((rs.drop i).take p)).length = lf := ⟨_, rfl⟩
        rw [hlf]
        have HLF := Lib.hid hlf
        have HX := Lib.hid hx
        have hlb : lf ≤ 1000000 := by omega
        clear hlf hx hbl hR
        go_upto_region 9 with (fail)
        go_cut [14] (fun v wc => v = .string R ∧ Below wr.heap.size wr wc)
        case first =>
          go_region_held3 (fun W => (∀ b o, b < wr.heap.size → W.cell? ⟨b, o, none⟩ = wr.cell? ⟨b, o, none⟩) ∧ Below wr.heap.size wr W) (first | with_reducible assumption | with_reducible exact KW.dr _ | with_reducible exact KW.keep (by assumption) (Below.refl _ _).drew | with_reducible exact KW.keep (by assumption) (by assumption)) (first | (go_at_call 58; refine (TL.out _ (F0.out.keep (HBW.out.trans ((KW.bel (by assumption)).mono HBW.out.size)))).mono ?_; rintro e w5 ⟨rfl, q5⟩; have s5 := KW.keep (by assumption) q5))
          all_goals
            rename_i hh
            have LB := Lib.hid (KW.bel hh)
            clear hh
            go_wp2_with fail
            go_meet
            case rel => exact ⟨rfl, LB.out⟩
        case rest =>
          obtain ⟨rfl, hbc⟩ := hcut
          have HB3 := Lib.hid (HBW.out.trans (hbc.mono HBW.out.size))
          have HQ3 := Lib.hid (hkeep HQ.out hbc)
          have HOW3 := Lib.hid (own_below HOW.out hbc)
          clear hbc c0 c1 c2 hgb hbx k0 k1 k2 k3 k4 k5 k6 k7 k8 k9 k10 TL hwn
          go_wp2_with fail
          obtain ⟨er, hfull⟩ := full_fit (m := m.drop j) (b := (x : Int)) (fun y hy => HD.out.ok y (List.mem_of_mem_drop hy)) (by
            rw [HD.out.dr]
            have h1 := rise_take _ _ (m.length - j) (rise_drop rs 0 x HI.out.1.up)
            rwa [Int.zero_add] at h1) (by omega) (by omega) lf
          have SC := scan9_any (R.extract 0 (min (lf : Int) (R.size : Int)).toNat) (x : Int) wc (by
            have h1 := ext_take R lf
            have h2 := congrArg List.length h1
            rw [List.length_take] at h2
            have h3 : (R.extract 0 (min (lf : Int) (R.size : Int)).toNat).size = (R.extract 0 (min (lf : Int) (R.size : Int)).toNat).data.toList.length := by simp
            omega) (by omega) (by omega)
          rw [ext_take, HRL.out, hfull] at SC
          have hle := fit_le (m.drop j) lf
          have hmd : (m.drop j).length = m.length - j := List.length_drop
          have hpre := fit_pre (m.drop j) lf
          have hall := fun h => fit_all (m.drop j) lf h
          have hRz : R.size = (Rp.rowB (m.drop j)).length := by rw [← HRL.out]; simp
          obtain ⟨fs, hfs⟩ : ∃ fs, fit lf (m.drop j) = fs := ⟨_, rfl⟩
          rw [hfs] at SC hle hpre hall
          have HFS := Lib.hid hfs
          obtain ⟨fz, hfz⟩ : ∃ fz, (Rp.rowB fs).length = fz := ⟨_, rfl⟩
          rw [hfz] at SC hle
          have HFZ := Lib.hid hfz
          have hfl : fs.length ≤ 200000 := by
            obtain ⟨c, hc1, hc2⟩ := hpre
            rw [hc2, List.length_take]
            have := HD.out.n
            have := HI.out.2.2
            omega
          have HFL := Lib.hid hfl
          have HLE := Lib.hid hle
          have HRZ := Lib.hid hRz
          have HALL := Lib.hid hall
          have HPRE := Lib.hid hpre
          have HMD := Lib.hid hmd
          replace SC := Lib.hid SC
          clear hfull hle hmd hpre hall hRz hfs hfz hfl
          refine SC.out.mono ?_
          rintro en w5 ⟨v2, rfl, hv2, b5⟩
          rw [Gp.withAt_fst] at hv2
          have HB5 := Lib.hid (HB3.out.trans (b5.mono HB3.out.size))
          have HQ5 := Lib.hid (hkeep HQ3.out b5)
          have HOW5 := own_below HOW3.out b5
          obtain ⟨v', w6, hrun, hown6, hgr⟩ := app_recs 60 HOW5 hv2 HB5.out.size (by rw [HP.out]; have := HA.out.hp; have := HI.out.2.2; have := HFL.out; omega)
          obtain ⟨va', vc', rfl⟩ := own_slice1 hown6
          obtain ⟨n6, hn6⟩ : ∃ n6, ((rs.drop i).take p ++ fs).length = n6 := ⟨_, rfl⟩
          rw [hn6, HP.out] at hrun
          have HN6 := Lib.hid hn6
          have hroom : (n6 : Int) ≤ (vc' : Int) := by have := own_room hown6; omega
          have hn6b : n6 ≤ 1000000 := by
            rw [← hn6, List.length_append, HP.out]; have := HA.out.hp; have := HI.out.2.2; have := HFL.out; omega
          have HB6 := Lib.hid (HB5.out.grown hgr HB5.out.size (fun r hr => (World.ownsRow.lt HOW5 r hr).1))
          have HQ6 := Lib.hid (row_grown HQ5.out (by decide) HOW5 hgr)
          have HOW6 := Lib.hid (show w6.ownsRow w.heap.size 57 3 (.slice va' n6 vc') ((rs.drop i).take p ++ fs).length (recVals ((rs.drop i).take p ++ fs)) from by have h := hown6; rw [hn6] at h ⊢; exact h)
          have hwl : IntKind.i64.wrap ((lf : Int) - (fz : Int)) = (lf : Int) - (fz : Int) := IntWalk.i64_in _ ⟨by have := HLE.out; omega, by omega⟩
          have HRUN := Lib.hid hrun
          clear hv2 b5 HOW5 hgr hown6 SC hrun hn6
          dsimp only
          by_cases hbr : (fz : Int) < (R.size : Int)
          · have HF := Lib.hid (show fromT S (i : Int) (B : Int) most = ((rs.drop i).take p ++ fs).take Wn from by
              have hs : lf < (Rp.rowB (m.drop j)).length := by
                rcases Nat.lt_or_ge lf (Rp.rowB (m.drop j)).length with h | h
                · exact h
                · have h1 := HALL.out h
                  have h2 := HFZ.out
                  rw [h1] at h2
                  have h3 := HRZ.out
                  omega
              have hL : (rs.drop i).drop p = m.drop j ++ (rs.drop x).drop (m.length - j) := by
                rw [HD.out.dr, List.take_append_drop, List.drop_drop, HX.out]
              have h1 := from_stop HA.out.hb hL (by rw [HLF.out]; exact hs)
              rw [HLF.out, HFS.out] at h1
              rw [HFT.out, h1])
            have HOKL := Lib.hid (show ∀ y ∈ (rs.drop i).take p ++ fs, Rp.Ok y from fun y hy => by
              rcases List.mem_append.1 hy with hy | hy
              · exact HI.out.1.ok y (List.mem_of_mem_drop (List.mem_of_mem_take hy))
              · obtain ⟨c, _, hc⟩ := HPRE.out
                rw [hc] at hy
                exact HD.out.ok y (List.mem_of_mem_drop (List.mem_of_mem_take hy)))
            go_wp2_with (at_builtin; refine Lib.wpList_append_run _ rfl _ _ _ _ rfl _ _ rfl rfl _ _ HRUN.out ?_)
            go_ret
            exact fr_end HOW6.out HN6.out (by rw [HN6.out]; exact hn6b) HOKL.out HF.out HB6.out
          · have HM := Lib.hid (show fs = m.drop j from by
              refine HALL.out ?_
              have h1 := HLE.out
              have h2 := HRZ.out
              omega)
            have hgn : gn ≤ 1000 := by rw [← HN.out.1]; exact HI.out.2.1.n
            have hkw : IntKind.i64.wrap ((kk : Int) + 1) = (kk : Int) + 1 := IntWalk.i64_in _ ⟨by omega, by omega⟩
            have HT := Lib.hid (show (rs.drop i).take (p + (m.length - j)) = (rs.drop i).take p ++ fs from by
              rw [List.take_add, HM.out, HD.out.dr, List.drop_drop, HX.out])
            have HBN := Lib.hid (show (Rp.rowB ((rs.drop i).take (p + (m.length - j)))).length = (Rp.rowB ((rs.drop i).take p)).length + fz from by
              rw [HT.out, rowB_append, List.length_append, HFZ.out])
            have HFA := Lib.hid (show FrAt S rs i B gn (p + (m.length - j)) (kk + 1) from by
              have h1 := HLE.out
              have h2 := HLF.out
              have h3 := HA.out.hb
              have h4 := HX.out
              have h5 := congrArg List.length HD.out.dr
              rw [HMD.out, List.length_take, List.length_drop] at h5
              have h6 := HA.out.hp
              refine ⟨by omega, by rw [HBN.out]; omega, hk, fun h => ?_, fun h => ?_⟩
              · have h7 := HD.out.nx (by rw [HN.out.1]; exact h)
                have h8 := (HI.out.1.at_ (show kk + 1 < S.g.length by rw [HN.out.1]; exact h)).n0
                rw [h7]
                exact ⟨by omega, by omega⟩
              · have h7 := HD.out.fin (by rw [HN.out.1]; exact h)
                omega)
            go_wp2_with (at_builtin; refine Lib.wpList_append_run _ rfl _ _ _ _ rfl _ _ rfl rfl _ _ HRUN.out ?_)
            go_roundw
            case rel =>
              refine ⟨p + (m.length - j), kk + 1, ?_, by go_num, by rw [HT.out]; exact HOW6.out, HFA, HQ6.out, HB6.out⟩
              have h1 := HBN.out
              have h2 := HLF.out
              have h3 := HLE.out
              have h4 := HA.out.hb
              congr 1
              omega
            case measure => simp [intOf]; omega
      · have hki : (kk : Int) < (gn : Int) := by omega
        have hpi : ¬ (p : Int) < (Wn : Int) := by omega
        have hroom : (p : Int) ≤ (vc : Int) := by have := own_room HOW.out; rw [HP.out] at this; omega
        have HF := Lib.hid (show fromT S (i : Int) (B : Int) most = ((rs.drop i).take p).take Wn from by rw [HFT.out]; exact from_enough HA.out.hb (by omega))
        have HOKL := Lib.hid (show ∀ y ∈ (rs.drop i).take p, Rp.Ok y from fun y hy => HI.out.1.ok y (List.mem_of_mem_drop (List.mem_of_mem_take hy)))
        have HOW2 := Lib.hid (show wr.ownsRow w.heap.size 57 3 (.slice va p vc) ((rs.drop i).take p).length (recVals ((rs.drop i).take p)) from by have h := HOW.out; rwa [HP.out] at h ⊢)
        clear hbl
        go_wp2_with fail
        go_ret
        exact fr_end HOW2.out HP.out (by rw [HP.out]; have := HA.out.hp; have := HI.out.2.2; omega) HOKL.out HF.out HBW.out
    · have hki : ¬ (kk : Int) < (gn : Int) := by omega
      have hroom : (p : Int) ≤ (vc : Int) := by have := own_room HOW.out; rw [HP.out] at this; omega
      have HF := Lib.hid (show fromT S (i : Int) (B : Int) most = ((rs.drop i).take p).take Wn from by
        have h1 := HA.out.hi (by omega)
        have h2 : (rs.drop i).take p = rs.drop i := List.take_of_length_le (by rw [List.length_drop]; omega)
        have h3 := HA.out.hb
        rw [h2] at h3
        rw [HFT.out, h2, fit_all _ _ h3])
      have HOKL := Lib.hid (show ∀ y ∈ (rs.drop i).take p, Rp.Ok y from fun y hy => HI.out.1.ok y (List.mem_of_mem_drop (List.mem_of_mem_take hy)))
      have HOW2 := Lib.hid (show wr.ownsRow w.heap.size 57 3 (.slice va p vc) ((rs.drop i).take p).length (recVals ((rs.drop i).take p)) from by have h := HOW.out; rwa [HP.out] at h ⊢)
      clear hbl
      go_wp2_with fail
      go_ret
      exact fr_end HOW2.out HP.out (by rw [HP.out]; have := HA.out.hp; have := HI.out.2.2; omega) HOKL.out HF.out HBW.out

end Go.Proofs.YthhhocgpoenigaaGreat.Sto
