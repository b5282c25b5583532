/-
  What the program's Scan answers (layer 9).
  What the program's Read answers (layer 9).
  What the program's Index answers (layer 9).
  What the program's functions of layer 9 answer: all of them.
-/
import Derived.RangeFuncBox
import Derived.Maps.AppendAt
import Derived.Test.YtfodcgipdhppmaaSegIter
import Derived.Test.YtfodcgipdhppmaaRound
namespace Go.Proofs.Ytfodcgipdhppmaa
open Go.RowKit Go.Shelf Go.Proofs.Ytfodcgipdhppmaa.Mks Go.Proofs.Ytfodcgipdhppmaa.Gp

attribute [local go_sem] Oper.semAt_some

/-- A block of cells is kept where what turns is no cells. -/
theorem row_kept {X Y : World} {row : Option Nat} {k : Nat} {cs : Array Value} {T : TypeId} {fz : Nat × Nat} (h : X.heap[k]? = some (.cells cs T fz)) (hg : X.grownBy Y row) (hr : ∀ r, row = some r → ∃ o : Obj, X.heap[r]? = some o ∧ o.isCells = false) :
    Y.heap[k]? = some (.cells cs T fz) :=
  (hg.block k (Array.getElem?_eq_some_iff.1 h).1 (fun e => by obtain ⟨o, ho, hc⟩ := hr k e.symm; rw [h] at ho; cases ho; cases hc)).trans h

set_option maxRecDepth 100000 in
set_option maxHeartbeats 800000 in
theorem scan9_out (s : ByteArray) (base : Int) (w : World) (h : base < 0 ∨ 1099511627776 < base) :
    Calls Try.prog 8 #[.string s, .int .i64 base] w (ScanOut w (Gp.full s.data.toList base)) := by
  have M := Lib.hid fun W : World => maybe9_any base W
  have HF := Lib.hid (show ScanOut w (Gp.full s.data.toList base) (.returned (.tuple #[.slice none 0 0, .int .i64 0, .int .i64 1])) w from by
    rw [Gp.full_out (Rp.inB_no h)]
    exact ⟨_, rfl, IsRecs.nil w none 0, Below.refl _ w⟩)
  rw [Rp.inB_no h] at M
  go_enter Try.func8, Try.ntmps8
  go_wp2_with (go_at_call 18; refine (M.out _).mono ?_; rintro e w' ⟨rfl, rfl⟩)
  go_ret3
  exact HF.out

theorem scan_end {w wr : World} {l : List UInt8} {b : Int} {ps : List (Rp.Rec × Nat)} {k : Nat} {v : Value} {B : Nat} (hk : k ≤ 4398046511104) (hg : Gp.Good l b 0 ps k)
    (h1 : wr.ownsRow B 35 3 v ps.length (recVals (ps.map Prod.fst))) {F : List (Rp.Rec × Nat) × Nat × Int} {er : Int} (hF : F = (ps, k, er)) (hb : Below w.heap.size w wr) :
    ScanOut w F (.returned (.tuple #[v, .int .i64 (k : Int), .int .i64 er])) wr := by
  have hf := hg.few
  subst hF
  refine ⟨v, rfl, IsRecs.own h1 (by unfold maxLen; omega) fun r hr => ?_, hb⟩
  rw [List.mem_map] at hr
  obtain ⟨p, hp, rfl⟩ := hr
  exact hg.ok p hp

set_option maxRecDepth 100000 in
set_option maxHeartbeats 1600000 in
theorem scan9_in (s : ByteArray) (base : Int) (w : World) (hs : s.size ≤ 1000000000) (hb0 : 0 ≤ base) (hb1 : base ≤ 1099511627776) :
    Calls Try.prog 8 #[.string s, .int .i64 base] w (ScanOut w (Gp.full s.data.toList base)) := by
  have M := Lib.hid fun W : World => maybe9_any base W
  rw [Rp.inB_mk hb0 hb1] at M
  have R := fun W : World => records9_any s 0 base W
  rw [show ((0 : Nat) : Int) = 0 from rfl] at R
  replace R := Lib.hid R
  have HFU := Lib.hid (Gp.full_in (l := s.data.toList) (Rp.inB_mk hb0 hb1))
  have HL := Lib.hid (show s.data.toList.length = s.size from rfl)
  obtain ⟨i0, hi, hz0, hz1, hz2⟩ := info_parts info_rec
  refine (callsIn_wide (n := 6)).1 ?_
  refine callsIn_of_wp_marks Try.func8 rfl trivial ?_ rfl
  simp only [Try.ntmps8, List.size_toArray, List.length_cons, List.length_nil, Nat.reduceAdd, Nat.reduceSub, Array.replicate_succ, Array.replicate_zero, List.push_toArray, List.append_toArray, List.nil_append, List.cons_append]
  gi_wp2_with (first | (refine ⟨trivial, ?_⟩; gi_at_call 18; refine (callsIn_wide.2 (M.out _)).mono ?_; rintro e w' ⟨rfl, rfl⟩) | (refine ⟨trivial, ?_⟩; gi_at_call 19; refine (callsIn_wide.2 (R.out _)).mono ?_; rintro e w' ⟨rfl, rfl⟩))
  have bL := ((((Boxed.new w 23 (.slice none 0 0)).alloc (.cells #[.int .i64 0] 3)).alloc (.cells #[.string s] 9)).alloc (.cells #[.int .i64 0] 3)).alloc (.cells #[.int .i64 base] 3)
  have bE := (((Boxed.new (w.alloc (.cells #[.slice none 0 0] 23)) 3 (.int .i64 0)).alloc (.cells #[.string s] 9)).alloc (.cells #[.int .i64 0] 3)).alloc (.cells #[.int .i64 base] 3)
  have bC := ((Boxed.new ((w.alloc (.cells #[.slice none 0 0] 23)).alloc (.cells #[.int .i64 0] 3)) 9 (.string s)).alloc (.cells #[.int .i64 0] 3)).alloc (.cells #[.int .i64 base] 3)
  have bA := (Boxed.new (((w.alloc (.cells #[.slice none 0 0] 23)).alloc (.cells #[.int .i64 0] 3)).alloc (.cells #[.string s] 9)) 3 (.int .i64 0)).alloc (.cells #[.int .i64 base] 3)
  have bO := Boxed.new ((((w.alloc (.cells #[.slice none 0 0] 23)).alloc (.cells #[.int .i64 0] 3)).alloc (.cells #[.string s] 9)).alloc (.cells #[.int .i64 0] 3)) 3 (.int .i64 base)
  simp only [World.size_alloc] at bL bE bC bA bO
  have hB0 : Below w.heap.size w (((((w.alloc (.cells #[.slice none 0 0] 23)).alloc (.cells #[.int .i64 0] 3)).alloc (.cells #[.string s] 9)).alloc (.cells #[.int .i64 0] 3)).alloc (.cells #[.int .i64 base] 3)) :=
    (((((Below.refl _ w).alloc (Nat.le_refl _) _).alloc (by simp) _).alloc (by simp; omega) _).alloc (by simp; omega) _).alloc (by simp; omega) _
  have hsz : (((((w.alloc (.cells #[.slice none 0 0] 23)).alloc (.cells #[.int .i64 0] 3)).alloc (.cells #[.string s] 9)).alloc (.cells #[.int .i64 0] 3)).alloc (.cells #[.int .i64 base] 3)).heap.size = w.heap.size + 5 := by simp
  obtain ⟨W0, hW0⟩ : ∃ W0, ((((w.alloc (.cells #[.slice none 0 0] 23)).alloc (.cells #[.int .i64 0] 3)).alloc (.cells #[.string s] 9)).alloc (.cells #[.int .i64 0] 3)).alloc (.cells #[.int .i64 base] 3) = W0 := ⟨_, rfl⟩
  rw [hW0] at bL bE bC bA bO hB0 hsz ⊢
  clear hW0
  refine wpIn_rangeFunc_ownH (F := Fence.wide) rfl (by decide) (gf := 26) (lb := #[.pointer (some ⟨w.heap.size + 1 + 1 + 1, 0, none⟩), .pointer (some ⟨w.heap.size + 1 + 1 + 2, 0, none⟩), .pointer (some ⟨w.heap.size + 1 + 1, 0, none⟩)]) rfl trivial (enters_of Try.func26 (by kernel_rfl) rfl)
    (iter9_stops s base 0 (w.heap.size + 1 + 1 + 1) (w.heap.size + 1 + 1 + 2) (w.heap.size + 1 + 1) 5 9 (by decide) (by omega) hb0 hb1 (Nat.zero_le _) W0 (by omega) (by omega) (by omega) bA.cell bO.cell bC)
    (fun h k => kpC_t h k) (kpC_b (by omega)) (Below.refl _ _) (fun _ => rfl)
    (fun (pre : List (It base)) W => ((∃ v, Boxed W w.heap.size 23 v ∧ W.ownsRow w.heap.size 35 3 v pre.length (recVals (pre.map fun x => x.1.1)) ∧ True) ∧ (Boxed W (w.heap.size + 1) 3 (.int .i64 (lastAt 0 pre : Nat)) ∧ Boxed W (w.heap.size + 1 + 1) 9 (.string s))) ∧ Below w.heap.size w W)
    (fun _ _ _ => False)
    (OwnFrom.and (OwnFrom.and (Own.from (holdsRow_own w.heap.size w.heap.size 23 35 3 (fun (pre : List (It base)) => pre.length) (fun pre => recVals (pre.map fun x => x.1.1)) (fun _ _ => True)) _) (OwnFrom.and (Own.from (boxed_own _ _ (fun (pre : List (It base)) => .int .i64 (lastAt 0 pre : Nat))) _) (Own.from (boxed_own _ _ _) _))) (ownFrom_below (Nat.le_refl _) (by omega)))
    (fun _ _ _ _ _ hs _ _ => hs)
    ⟨⟨⟨_, bL, World.ownsRow_nil _ _ _ _, trivial⟩, bE, bC⟩, hB0⟩
    (fun x a' W => ∃ Bx, w.heap.size + 2 < Bx ∧ W.heap[Bx]? = some (.cells #[.int .i64 x.1.1.a, .int .i64 x.1.1.t, .string x.1.1.d] 35 (0, 0)) ∧ a' = { defers := [], tmps :=
        #[Value.string s, Value.int IntKind.i64 base, undef, undef, Value.slice none 0 0, Value.int IntKind.i64 0,
          Value.int IntKind.i64 0, Value.pointer (some { block := w.heap.size, off := 0 }),
          Value.pointer (some { block := w.heap.size + 1, off := 0 }), Value.pointer (some ⟨Bx, 0, none⟩), Value.int IntKind.i64 (x.1.2 : Int), undef, undef, undef,
          Value.int IntKind.i64 base, Value.bool true, Value.bool false, Value.string s, Value.int IntKind.i64 base,
          Value.func (Fn.func 26) #[]
            #[Value.pointer (some { block := w.heap.size + 1 + 1 + 1, off := 0 }),
              Value.pointer (some { block := w.heap.size + 1 + 1 + 2, off := 0 }),
              Value.pointer (some { block := w.heap.size + 1 + 1, off := 0 })],
          .agg #[.int .i64 x.1.1.a, .int .i64 x.1.1.t, .string x.1.1.d], .int .i64 (x.1.2 : Int), undef, undef, undef, undef, undef, undef, undef, undef, undef, undef, undef, undef, undef, undef, undef, undef, undef, undef, undef, undef, undef, undef, undef, undef, undef] })
    (fun x a' _ X Y row hs hg hr => by obtain ⟨Bx, h1, h2, h3⟩ := hs; exact ⟨Bx, h1, row_kept h2 hg (fun r e => (hr r e).2), h3⟩)
    ?assign ?body ?done ?stop
  case assign =>
    rintro l pre ⟨⟨⟨ra, rt, rd⟩, q⟩, hx⟩ W K ⟨⟨⟨v, bL1, hO, _⟩, bE1, bC1⟩, hB1⟩ hK
    have hK := Lib.hid (fun a' h => hK a' _ ((KeepsOthers.alloc W (.cells #[.int .i64 ra, .int .i64 rt, .string rd] 35)).from _) (kpC_below ((Below.refl _ W).alloc (Nat.le_refl _) _)) ⟨⟨⟨v, bL1.alloc _, hO.alloc _, trivial⟩, bE1.alloc _, bC1.alloc _⟩, hB1.alloc hB1.size _⟩ ⟨W.heap.size, by have := bC1.lt; omega, heap_alloc_new W _, h⟩)
    unfold itVals
    dsimp only
    gi_wp2
    exact hK.out _ rfl
  case body =>
    rintro l pre ⟨⟨⟨ra, rt, rd⟩, q⟩, hx⟩ a' W hl hr ⟨⟨⟨v, bL1, hO, _⟩, bE1, bC1⟩, hB1⟩ ⟨Bx, hBx, gX, rfl⟩ hlt
    obtain ⟨x, hxe⟩ : ∃ x : It base, x = ⟨⟨⟨ra, rt, rd⟩, q⟩, hx⟩ := ⟨_, rfl⟩
    have HLA := Lib.hid (lastAt_snoc 0 pre x)
    have HRV := Lib.hid (show recVals ((pre ++ [x]).map fun x => x.1.1) = recVals (pre.map fun x => x.1.1) ++ [.int .i64 ra, .int .i64 rt, .string rd] by rw [List.map_append, hxe]; exact recVals_snoc _ ⟨ra, rt, rd⟩)
    have HPL := Lib.hid (show (pre ++ [x]).length = pre.length + 1 by simp)
    obtain ⟨ln, hln⟩ : ∃ ln, pre.length = ln := ⟨_, rfl⟩
    rw [← hxe]
    rw [hln] at hO HPL hlt
    generalize recVals (pre.map fun x => x.1.1) = rv at *
    generalize lastAt 0 pre = la at *
    clear hxe hln
    dsimp only
    have cL := bL1.cell
    have cE := bE1.cell
    have fE := bE1.frozen
    obtain ⟨z0, z1, z2⟩ := cells3 gX
    have hs1 := hB1.size
    have GO := Lib.hid fun (v' : Value) (w1 : World) (hown' : w1.ownsRow w.heap.size 35 3 v' (ln + 1) (rv ++ [.int .i64 ra, .int .i64 rt, .string rd])) (hgrow : (W.alloc (.cells #[.int .i64 ra, .int .i64 rt, .string rd] 35)).grownBy w1 v.ownBlock) => bL1.appended (by decide) hO hs1 (Nat.le_refl _) hown' hgrow
    have GE := Lib.hid fun (w1 : World) (hgrow : (W.alloc (.cells #[.int .i64 ra, .int .i64 rt, .string rd] 35)).grownBy w1 v.ownBlock) => (bE1.alloc _).kept hgrow (bE1.not_row (by decide) hO)
    have GC := Lib.hid fun (w1 : World) (hgrow : (W.alloc (.cells #[.int .i64 ra, .int .i64 rt, .string rd] 35)).grownBy w1 v.ownBlock) => (bC1.alloc _).kept hgrow (bC1.not_row (by decide) hO)
    have HBC := Lib.hid bC1
    have HBB := Lib.hid hB1
    have HO := Lib.hid hO
    clear bL1 bE1 bC1 hO hB1 gX
    gi_wp2_with (gi_at_builtin; refine wpListIn_append_own _ rfl _ _ 23 rfl w.heap.size 35 i0 (.agg #[.int .i64 0, .int .i64 0, .string ByteArray.empty]) 3 32 Try.underlying23 hi hz0 hz1 hz2 rfl (by decide) _ _ _ rfl (HO.out.alloc _) ⟨W.heap.size, 0, none⟩ 1 1 [.int .i64 ra, .int .i64 rt, .string rd] (by simp [go_sem]) rfl (news_new W _ [.int .i64 ra, .int .i64 rt, .string rd] 35 rfl) (by simp [Value.oneCell']) (by unfold maxLen; omega) (by omega) (by simp; omega) ?_; intro v' w1 hown' hgrow _; obtain ⟨g', cap', rfl⟩ := ownsRow_succ hown'; obtain ⟨hv1, hv2, hr2, hk2, hb2⟩ := GO.out _ _ hown' hgrow; have hc1 := hv1.cell; have hf1 := hv1.frozen; have bE3 := GE.out _ hgrow; have bC3 := GC.out _ hgrow; have cE3 := bE3.cell; have fE3 := bE3.frozen; have HS := Lib.hid (And.intro hv2 (And.intro hr2 (And.intro hk2 hb2))); have HE := Lib.hid bE3; have HC := Lib.hid bC3; clear hv1 hv2 hr2 hk2 hb2 bE3 bC3 hown' hgrow)
    obtain ⟨hv2, hr2, hk2, hb2⟩ := HS.out
    have bE4 := HE.out.other (show w.heap.size + 1 ≠ w.heap.size by omega) (.slice (some ⟨g', 0, none⟩) (ln + 1) cap')
    have bC4 := (HC.out.other (show w.heap.size + 1 + 1 ≠ w.heap.size by omega) (.slice (some ⟨g', 0, none⟩) (ln + 1) cap')).other (show w.heap.size + 1 + 1 ≠ w.heap.size + 1 by omega) (.int .i64 (x.1.2 : Int))
    exact ⟨(hk2.trans (KeepsOthers.setCell _ _ _)).from _, (fun o ho => by rw [show W.heap[_]? = _ from HBC.out] at ho; cases ho; exact bC4),
      ⟨⟨⟨_, hv2.other (by omega) _, by rw [HPL.out, HRV.out]; exact hr2.kept (grownBy_setCell' _ _ _) (.inr (bE4.not_row (by decide) hr2).symm)⟩, by rw [HLA.out]; exact bE4.set _, bC4⟩, (HBB.out.trans hb2).setCell (p := ⟨w.heap.size + 1, 0, none⟩) (by simp) _⟩⟩
  case done =>
    rintro D ys W hD ⟨ps, k, e, hF, hG, hZ, hne, hlt, hge⟩ ⟨⟨⟨v, bL1, hO, _⟩, bE1, _⟩, hB1⟩ hK
    rw [hZ.last] at bE1
    rw [hZ.len, hZ.recs] at hO
    rw [HL.out] at hlt hge
    have hks : k ≤ s.size := by
      rcases hG.le with h | h
      · rw [HL.out] at h; exact h
      · omega
    have hFF := HFU.out.trans hF
    have hfew := hG.few
    have cL := bL1.cell
    have cE := bE1.cell
    have HR := Lib.hid fun (W' : World) (h : W'.ownsRow w.heap.size 35 3 v ps.length (recVals (ps.map Prod.fst))) (hb : Below w.heap.size w W') => scan_end (by omega) hG h hFF hb
    have HO := Lib.hid hO
    have HB := Lib.hid hB1
    have hs1 := hB1.size
    by_cases hk : k = s.size
    · obtain rfl := hge (by omega)
      have heq : ((k : Int) == (s.size : Int)) = true := by simp; omega
      have HK := Lib.hid hK
      clear hO hB1 hF hG hZ hne hlt hge hFF bL1 bE1 hK
      subst hk
      gi_wp2
      gi_region
      all_goals gi_wp2
      refine ⟨by simp, .inl ⟨_, _, rfl, run_takeDeferred (w := W.drew) HK.out, ?_⟩⟩
      refine ⟨.tuple #[v, .int .i64 (s.size : Int), .int .i64 0], by simp [results, Try.results8, go_sem], ?_⟩
      exact HR.out _ (ownsRow_putObj (own_below HO.out (Below.refl _ W).drew) _ HK.out rfl) (HB.out.drew.trans (belowK_b (w := w) (Nat.le_refl _) W.drew D _ _ (by omega) HK.out rfl rfl))
    · have heq : ((k : Int) == (s.size : Int)) = false := by simp; omega
      have her := hlt (by omega)
      have NX := fun W1 : World => next9_any s k (base + (ps.length : Int)) W1 (by omega)
      generalize Gp.fd s.data.toList (base + (ps.length : Int)) k = x at NX her
      obtain ⟨⟨xa, xt, xd⟩, xk, xe⟩ := x
      dsimp only at her
      subst her
      unfold fdVal at NX
      dsimp only at NX
      obtain ⟨va, vc, rfl⟩ := own_slice hO
      replace NX := Lib.hid NX
      have HK := Lib.hid hK
      have HBL := Lib.hid bL1
      have HBE := Lib.hid bE1
      clear hO hB1 hF hG hZ hne hlt hge hFF bL1 bE1 hK
      obtain ⟨ln, hln⟩ : ∃ ln, ps.length = ln := ⟨_, rfl⟩
      rw [hln] at NX HR HO HBL cL hfew
      gi_wp2_with (refine ⟨trivial, ?_⟩; gi_at_call 20; refine (callsIn_wide.2 (NX.out _)).mono ?_; rintro e1 w1 ⟨rfl, b1⟩; have B2 := Lib.hid (b1.alloc (Below.size b1) (Obj.cells #[.int .i64 xa, .int .i64 xt, .string xd] 35)); have cL1 := Boxed.cell (B2.out.block _ HBL.out.lt |>.trans HBL.out); have cE1 := Boxed.cell (B2.out.block _ HBE.out.lt |>.trans HBE.out); clear b1)
      gi_region
      all_goals gi_wp2
      have HK2 := Lib.hid ((B2.out.block D (Array.getElem?_eq_some_iff.1 HK.out).1).trans HK.out)
      have HB2 := Lib.hid ((HB.out.trans (B2.out.mono hs1)).drew)
      refine ⟨by simp, .inl ⟨_, _, rfl, run_takeDeferred (w := (w1.alloc (Obj.cells #[.int .i64 xa, .int .i64 xt, .string xd] 35)).drew) HK2.out, ?_⟩⟩
      refine ⟨.tuple #[.slice va ln vc, .int .i64 (k : Int), .int .i64 e], by simp [results, Try.results8, go_sem], ?_⟩
      exact HR.out _ (ownsRow_putObj (own_below HO.out B2.out.drew) _ HK2.out rfl) (HB2.out.trans (belowK_b (w := w) (Nat.le_refl _) _ D _ _ (by omega) HK2.out rfl rfl))
  case stop =>
    rintro D c pre W _ _ h _
    exact h.elim

theorem scan9_any (s : ByteArray) (base : Int) (w : World) (hs : s.size ≤ 1000000000) (_ : -9223372036854775808 ≤ base) (_ : base ≤ 9223372036854775807) :
    Calls Try.prog 8 #[.string s, .int .i64 base] w (ScanOut w (Gp.full s.data.toList base)) := by
  by_cases h : base < 0 ∨ 1099511627776 < base
  · exact scan9_out s base w h
  · exact scan9_in s base w hs (by omega) (by omega)

end Go.Proofs.Ytfodcgipdhppmaa

namespace Go.Proofs.Ytfodcgipdhppmaa
open Go.RowKit Go.Shelf Go.Proofs.Ytfodcgipdhppmaa.Mks Go.Proofs.Ytfodcgipdhppmaa.Gp

attribute [local go_sem] Oper.semAt_some

namespace Gp
theorem read_hit {L : List UInt8} {b off : Int} {i p k : Nat} {e : Int} {ps : List (Rp.Rec × Nat)} (hg : Good L b 0 ps k) (hp : pls (L.drop p) (b + i) p = (ps.drop i, k, e)) {xs : List (It (b + i))} {x : It (b + i)} (h : SomeCame L (b + i) p (xs ++ [x])) (ha : x.1.1.a = off) :
    rd ps b off = (x.1.1, 0) := by
  obtain ⟨ps2, k2, hr, _, hz⟩ := h
  unfold PRel at hr
  rw [hp] at hr
  have h1 := congrArg Prod.fst hr
  dsimp only at h1
  have h2 := hz.recs
  have hl := hz.len
  rw [List.length_append, List.length_singleton] at hl
  have h3 : (ps2.map Prod.fst)[xs.length]? = some x.1.1 := by rw [← h2]; simp
  have h4 : ((ps.drop i).map Prod.fst)[xs.length]? = some x.1.1 := by
    rw [h1, List.map_append, List.getElem?_append_left (by rw [List.length_map]; omega)]
    exact h3
  rw [List.getElem?_map, List.getElem?_drop] at h4
  obtain ⟨q, hq1, hq2⟩ := Option.map_eq_some_iff.1 h4
  obtain ⟨hlt, hq⟩ := List.getElem?_eq_some_iff.1 hq1
  have h5 := hg.at_ _ hlt
  rw [hq, hq2, ha] at h5
  rw [h5, rd_in ps b hlt, hq, hq2]
theorem read_miss {L : List UInt8} {b off : Int} {i p k : Nat} {e : Int} {ps : List (Rp.Rec × Nat)} (hg : Good L b 0 ps k) (hp : pls (L.drop p) (b + i) p = (ps.drop i, k, e)) {ys : List (It (b + i))} (h : AllCame L (b + i) p ys) (hn : ∀ x ∈ ys, x.1.1.a ≠ off) (hi : b + i ≤ off) :
    rd ps b off = (Rp.zero, 6) := by
  obtain ⟨ps2, k2, e2, h1, _, hz, _⟩ := h
  rw [hp] at h1
  have h1 := congrArg Prod.fst h1
  dsimp only at h1
  refine rd_out (.inr ?_)
  refine Int.not_lt.1 fun hc => ?_
  obtain ⟨j, hj⟩ : ∃ j : Nat, off = b + ((i + j : Nat) : Int) := ⟨(off - b - i).toNat, by omega⟩
  have hlt : i + j < ps.length := by omega
  have h5 := hg.at_ _ hlt
  have hm : ps[i + j].1 ∈ ps2.map Prod.fst := by
    rw [← h1]
    refine List.mem_map.2 ⟨ps[i + j], ?_, rfl⟩
    refine List.mem_iff_getElem?.2 ⟨j, ?_⟩
    rw [List.getElem?_drop]
    exact List.getElem?_eq_some_iff.2 ⟨hlt, rfl⟩
  rw [← hz.recs] at hm
  obtain ⟨x, hx, hxe⟩ := List.mem_map.1 hm
  exact hn x hx (by rw [hxe, h5, hj])
end Gp

/-- None of them is of that offset; the last one is, and its record lies in a block. -/
def Miss9 {b : Int} (off : Int) (pre : List (It b)) : Prop := ∀ x ∈ pre, x.1.1.a ≠ off
def Hit9 {b : Int} (off : Int) (k1 k2 : Nat) (pre : List (It b)) (W : World) : Prop :=
  ∃ pre0 x, pre = pre0 ++ [x] ∧ x.1.1.a = off ∧ W.cell? ⟨k1, 0, none⟩ = some (.int .i64 x.1.1.a) ∧ W.cell? ⟨k1, 1, none⟩ = some (.int .i64 x.1.1.t) ∧ W.cell? ⟨k1, 2, none⟩ = some (.string x.1.1.d) ∧ W.cell? ⟨k2, 0, none⟩ = some (.int .i64 0)

/-- Four cells of two blocks, written. -/
theorem four9 {W : World} {k1 k2 B : Nat} {T T' : TypeId} {cs : Value × Value × Value} {c' : Value} (g1 : W.heap[k1]? = some (.cells #[cs.1, cs.2.1, cs.2.2] T (0, 0))) (g2 : W.heap[k2]? = some (.cells #[c'] T' (0, 0))) (hne : k1 ≠ k2) (a t d e : Value) {w : World} (hb : Below B w W) (h1 : B ≤ k1) (h2 : B ≤ k2) :
    ∃ W4, (((W.setCell ⟨k1, 0, none⟩ a).setCell ⟨k1, 1, none⟩ t).setCell ⟨k1, 2, none⟩ d).setCell ⟨k2, 0, none⟩ e = W4 ∧ W4.cell? ⟨k1, 0, none⟩ = some a ∧ W4.cell? ⟨k1, 1, none⟩ = some t ∧ W4.cell? ⟨k1, 2, none⟩ = some d ∧ W4.cell? ⟨k2, 0, none⟩ = some e ∧ KeepsOthers W W4 ∧ Below B w W4 := by
  obtain ⟨z0, z1, z2⟩ := cells3 g1
  have cE := Boxed.cell g2
  refine ⟨_, rfl, ?_, ?_, ?_, ?_, (((KeepsOthers.setCell _ _ _).trans (KeepsOthers.setCell _ _ _)).trans (KeepsOthers.setCell _ _ _)).trans (KeepsOthers.setCell _ _ _), (bel_st3 hb h1 _ _ _).setCell (p := ⟨k2, 0, none⟩) h2 _⟩
  · rw [World.cell?_setCell_other _ _ _ _ (by simp <;> omega), World.cell?_setCell_other _ _ _ _ (by simp), World.cell?_setCell_other _ _ _ _ (by simp), World.cell?_setCell_same' _ _ _ (by rw [z0]; rfl)]
  · rw [World.cell?_setCell_other _ _ _ _ (by simp <;> omega), World.cell?_setCell_other _ _ _ _ (by simp), World.cell?_setCell_same' _ _ _ (by rw [World.cell?_setCell_other _ _ _ _ (by simp), z1]; rfl)]
  · rw [World.cell?_setCell_other _ _ _ _ (by simp <;> omega), World.cell?_setCell_same' _ _ _ (by rw [World.cell?_setCell_other _ _ _ _ (by simp), World.cell?_setCell_other _ _ _ _ (by simp), z2]; rfl)]
  · rw [World.cell?_setCell_same' _ _ _ (by rw [World.cell?_setCell_other _ _ _ _ (by simp <;> omega), World.cell?_setCell_other _ _ _ _ (by simp <;> omega), World.cell?_setCell_other _ _ _ _ (by simp <;> omega), cE]; rfl)]

set_option maxRecDepth 100000 in
set_option maxHeartbeats 800000 in
theorem read9_none (s : ByteArray) (base off : Int) (v : Value) (l : List Mp.Mk) (w : World) (hv : IsL ML w v l) (hn : Mp.Split l off 0) :
    Calls Try.prog 14 #[.string s, .int .i64 base, v, .int .i64 off] w fun e w' => e = .returned (.tuple #[.agg #[.int .i64 0, .int .i64 0, .string ⟨#[]⟩], .int .i64 6]) ∧ Below w.heap.size w w' := by
  have FD := fun (W : World) (h : Below w.heap.size w W) => find08_any v l off 0 W (hv.keep h) hn
  unfold fndVal at FD
  dsimp only at FD
  replace FD := Lib.hid FD
  have HA := Lib.hid ((((Below.refl w.heap.size w).alloc (Nat.le_refl _) (.cells #[.int .i64 off] 3)).alloc (by simp) (.cells #[.int .i64 0, .int .i64 0, .string ⟨#[]⟩] 35)).alloc (by simp; omega) (.cells #[.int .i64 0] 24))
  have G0 := Lib.hid (heap_old (.cells #[.int .i64 0] 24) (heap_alloc_new (w.alloc (.cells #[.int .i64 off] 3)) (.cells #[.int .i64 0, .int .i64 0, .string ⟨#[]⟩] 35)))
  have G1 := Lib.hid (heap_alloc_new ((w.alloc (.cells #[.int .i64 off] 3)).alloc (.cells #[.int .i64 0, .int .i64 0, .string ⟨#[]⟩] 35)) (.cells #[.int .i64 0] 24))
  go_enter Try.func14, Try.ntmps14
  go_wp2_with fail
  simp only [World.size_alloc] at G0 G1
  obtain ⟨w0, hw0⟩ : ∃ w0, ((w.alloc (.cells #[.int .i64 off] 3)).alloc (.cells #[.int .i64 0, .int .i64 0, .string ⟨#[]⟩] 35)).alloc (.cells #[.int .i64 0] 24) = w0 := ⟨_, rfl⟩
  rw [hw0] at HA G0 G1 ⊢
  clear hw0
  refine (FD.out _ HA.out).mono ?_
  rintro e w1 ⟨rfl, b1⟩
  have HB := Lib.hid ((HA.out.trans (b1.mono HA.out.size)).alloc (by have := HA.out.size; have := b1.size; omega) (.cells #[.int .i64 0, .int .i64 0] 58))
  have H0 := Lib.hid (heap_old (.cells #[.int .i64 0, .int .i64 0] 58) ((b1.block _ (Array.getElem?_eq_some_iff.1 G0.out).1).trans G0.out))
  have H1 := Lib.hid (heap_old (.cells #[.int .i64 0, .int .i64 0] 58) ((b1.block _ (Array.getElem?_eq_some_iff.1 G1.out).1).trans G1.out))
  have hwl := (Array.getElem?_eq_some_iff.1 H1.out).1
  obtain ⟨f0, f1, f2⟩ := frozenK H0.out
  obtain ⟨z0, z1, z2⟩ := cells3 H0.out
  have cE := Boxed.cell H1.out
  have fE := Boxed.frozen H1.out
  clear b1 G0 G1 HA
  go_wp2_with fail
  refine bodyPost_ret (v := .tuple #[.agg #[.int .i64 0, .int .i64 0, .string ⟨#[]⟩], .int .i64 6]) (by simp [results, Try.results14, go_sem, z0, z1, z2, cE]) rfl ?_
  exact ⟨rfl, (bel_st3 HB.out (show w.heap.size ≤ w.heap.size + 1 by omega) _ _ _).setCell (p := ⟨w.heap.size + 1 + 1, 0, none⟩) (by simp; omega) _⟩

set_option maxRecDepth 100000 in
set_option maxHeartbeats 1600000 in
theorem read9_some (s : ByteArray) (base off : Int) (v : Value) (l : List Mp.Mk) (i p k : Nat) (w : World) (hs : s.size ≤ 1000000000) (hp : p ≤ s.size) (hb0 : 0 ≤ base) (hb1 : base ≤ 1099511627776) (hv : IsL ML w v l) (n : Nat) (hn : Mp.Split l off (n + 1)) (hm : l.getD n Mp.zero = ⟨base + i, (p : Nat)⟩)
    (hb2 : base + i ≤ 1099511627776) (e : Int) (ps : List (Rp.Rec × Nat)) (hg : Gp.Good s.data.toList base 0 ps k) (hpl : pls (s.data.toList.drop p) (base + i) p = (ps.drop i, k, e)) :
    Calls Try.prog 14 #[.string s, .int .i64 base, v, .int .i64 off] w fun e w' => e = .returned (rdVal9 ps base off) ∧ Below w.heap.size w w' := by
  have FD := fun (W : World) (h : Below w.heap.size w W) => find08_any v l off (n + 1) W (hv.keep h) hn
  unfold fndVal at FD
  dsimp only at FD
  rw [hm] at FD
  dsimp only at FD
  replace FD := Lib.hid FD
  have HLE := Lib.hid (show base + i ≤ off by have := hn.2.1 n (by omega); rw [hm] at this; exact this)
  have R := Lib.hid fun W : World => records9_any s p (base + i) W
  have HG := Lib.hid hg
  have HPL := Lib.hid hpl
  have HB0 := Lib.hid ((((Below.refl w.heap.size w).alloc (Nat.le_refl _) (.cells #[.int .i64 off] 3)).alloc (by simp) (.cells #[.int .i64 0, .int .i64 0, .string ⟨#[]⟩] 35)).alloc (by simp; omega) (.cells #[.int .i64 0] 24))
  clear hm hg hpl
  refine (callsIn_wide (n := 6)).1 ?_
  refine callsIn_of_wp_marks Try.func14 rfl trivial ?_ rfl
  simp only [Try.ntmps14, List.size_toArray, List.length_cons, List.length_nil, Nat.reduceAdd, Nat.reduceSub, Array.replicate_succ, Array.replicate_zero, List.push_toArray, List.append_toArray, List.nil_append, List.cons_append]
  have GO := Lib.hid (heap_old (.cells #[.int .i64 0] 24) (heap_old (.cells #[.int .i64 0, .int .i64 0, .string ⟨#[]⟩] 35) (heap_alloc_new w (.cells #[.int .i64 off] 3))))
  have GR := heap_old (.cells #[.int .i64 0] 24) (heap_alloc_new (w.alloc (.cells #[.int .i64 off] 3)) (.cells #[.int .i64 0, .int .i64 0, .string ⟨#[]⟩] 35))
  have GE := heap_alloc_new ((w.alloc (.cells #[.int .i64 off] 3)).alloc (.cells #[.int .i64 0, .int .i64 0, .string ⟨#[]⟩] 35)) (.cells #[.int .i64 0] 24)
  simp only [World.size_alloc] at GR GE
  replace GR := Lib.hid GR
  replace GE := Lib.hid GE
  gi_wp2_with (first | (refine ⟨trivial, ?_⟩; gi_at_call 24; refine (callsIn_wide.2 (FD.out _ HB0.out)).mono ?_; rintro e1 w1 ⟨rfl, b1⟩; have GO1 := Lib.hid ((b1.block _ (Array.getElem?_eq_some_iff.1 GO.out).1).trans GO.out); have GR1 := Lib.hid ((b1.block _ (Array.getElem?_eq_some_iff.1 GR.out).1).trans GR.out); have GE1 := Lib.hid ((b1.block _ (Array.getElem?_eq_some_iff.1 GE.out).1).trans GE.out); have HB1 := Lib.hid (HB0.out.trans (b1.mono HB0.out.size)); obtain ⟨m0, m1⟩ := cells2 (heap_alloc_new w1 (.cells #[.int .i64 (base + (i : Int)), .int .i64 (p : Int)] 58)); clear b1) | (refine ⟨trivial, ?_⟩; gi_at_call 19; refine (callsIn_wide.2 (R.out _)).mono ?_; rintro e w' ⟨rfl, rfl⟩))
  obtain ⟨W1, hW1⟩ : ∃ W1, w1.alloc (.cells #[.int .i64 (base + (i : Int)), .int .i64 (p : Int)] 58) = W1 := ⟨_, rfl⟩
  have hs1 : W1.heap.size = w1.heap.size + 1 := by rw [← hW1]; simp
  have hwl1 : w.heap.size + 2 < w1.heap.size := (Array.getElem?_eq_some_iff.1 GE1.out).1
  have bC := ((Boxed.new W1 9 (.string s)).alloc (.cells #[.int .i64 (p : Int)] 3)).alloc (.cells #[.int .i64 (base + (i : Int))] 3)
  have bA := (Boxed.new (W1.alloc (.cells #[.string s] 9)) 3 (.int .i64 (p : Int))).alloc (.cells #[.int .i64 (base + (i : Int))] 3)
  have bO := Boxed.new ((W1.alloc (.cells #[.string s] 9)).alloc (.cells #[.int .i64 (p : Int)] 3)) 3 (.int .i64 (base + (i : Int)))
  simp only [World.size_alloc, hs1] at bC bA bO
  rw [hW1]
  have hB2 : Below w.heap.size w W1 := by rw [← hW1]; exact HB1.out.alloc HB1.out.size _
  have GO2 : W1.heap[w.heap.size]? = some (.cells #[.int .i64 off] 3 (0, 0)) := by rw [← hW1]; exact heap_old _ GO1.out
  have GR2 : W1.heap[w.heap.size + 1]? = some (.cells #[.int .i64 0, .int .i64 0, .string ⟨#[]⟩] 35 (0, 0)) := by rw [← hW1]; exact heap_old _ GR1.out
  have GE2 : W1.heap[w.heap.size + 1 + 1]? = some (.cells #[.int .i64 0] 24 (0, 0)) := by rw [← hW1]; exact heap_old _ GE1.out
  have hsB := hB2.size
  have hB3 : Below w.heap.size w (((W1.alloc (.cells #[.string s] 9)).alloc (.cells #[.int .i64 (p : Int)] 3)).alloc (.cells #[.int .i64 (base + (i : Int))] 3)) := ((hB2.alloc hsB _).alloc (by simp; omega) _).alloc (by simp; omega) _
  have GO3 := heap_old (.cells #[.int .i64 (base + (i : Int))] 3) (heap_old (.cells #[.int .i64 (p : Int)] 3) (heap_old (.cells #[.string s] 9) GO2))
  have GR3 := heap_old (.cells #[.int .i64 (base + (i : Int))] 3) (heap_old (.cells #[.int .i64 (p : Int)] 3) (heap_old (.cells #[.string s] 9) GR2))
  have GE3 := heap_old (.cells #[.int .i64 (base + (i : Int))] 3) (heap_old (.cells #[.int .i64 (p : Int)] 3) (heap_old (.cells #[.string s] 9) GE2))
  have hsz : (((W1.alloc (.cells #[.string s] 9)).alloc (.cells #[.int .i64 (p : Int)] 3)).alloc (.cells #[.int .i64 (base + (i : Int))] 3)).heap.size = w1.heap.size + 4 := by simp [hs1]
  obtain ⟨W0, hW0⟩ : ∃ W0, ((W1.alloc (.cells #[.string s] 9)).alloc (.cells #[.int .i64 (p : Int)] 3)).alloc (.cells #[.int .i64 (base + (i : Int))] 3) = W0 := ⟨_, rfl⟩
  rw [hW0] at bC bA bO hB3 GO3 GR3 GE3 hsz ⊢
  clear hW0 hB2 GO2 GR2 GE2 hW1 GO1 GR1 GE1 HB1 HB0 GO GR GE
  refine wpIn_rangeFunc_ownH (F := Fence.wide) rfl (by decide) (gf := 26) (lb := #[.pointer (some ⟨w1.heap.size + 1 + 1, 0, none⟩), .pointer (some ⟨w1.heap.size + 1 + 2, 0, none⟩), .pointer (some ⟨w1.heap.size + 1, 0, none⟩)]) rfl trivial (enters_of Try.func26 (by kernel_rfl) rfl)
    (iter9_stops s (base + i) p (w1.heap.size + 1 + 1) (w1.heap.size + 1 + 2) (w1.heap.size + 1) 5 9 (by decide) (by omega) (by omega) hb2 hp W0 (by omega) (by omega) (by omega) bA.cell bO.cell bC)
    (fun h k => kpC_t h k) (kpC_b (by omega)) (Below.refl _ _) (fun _ => rfl)
    (fun (pre : List (It (base + i))) W => (Miss9 off pre ∧ W.heap[w.heap.size + 1]? = some (.cells #[.int .i64 0, .int .i64 0, .string ⟨#[]⟩] 35 (0, 0)) ∧ W.heap[w.heap.size + 1 + 1]? = some (.cells #[.int .i64 0] 24 (0, 0)) ∧ W.heap[w.heap.size]? = some (.cells #[.int .i64 off] 3 (0, 0))) ∧ Below w.heap.size w W)
    (fun c (pre : List (It (base + i))) W => (c = .ret ∧ Hit9 off (w.heap.size + 1) (w.heap.size + 1 + 1) pre W) ∧ Below w.heap.size w W)
    (OwnFrom.and (fun s X Y row hs hg hr => ⟨hs.1, row_kept hs.2.1 hg (fun r e => (hr r e).2), row_kept hs.2.2.1 hg (fun r e => (hr r e).2), row_kept hs.2.2.2 hg (fun r e => (hr r e).2)⟩) (ownFrom_below (Nat.le_refl _) (by omega)))
    (fun c => OwnFrom.and (fun s X Y row hs hg hr => by
      obtain ⟨hc, pre0, x, h1, h2, h3, h4, h5, h6⟩ := hs
      exact ⟨hc, pre0, x, h1, h2, cell_kept h3 hg (fun r e => (hr r e).2), cell_kept h4 hg (fun r e => (hr r e).2), cell_kept h5 hg (fun r e => (hr r e).2), cell_kept h6 hg (fun r e => (hr r e).2)⟩) (ownFrom_below (Nat.le_refl _) (by omega)))
    ⟨⟨fun x hx => absurd hx List.not_mem_nil, GR3, GE3, GO3⟩, hB3⟩
    (fun x a' W => ∃ Bx, w.heap.size + 2 < Bx ∧ W.heap[Bx]? = some (.cells #[.int .i64 x.1.1.a, .int .i64 x.1.1.t, .string x.1.1.d] 35 (0, 0)) ∧ a' = { defers := [], tmps :=
        #[Value.string s, Value.int IntKind.i64 base, v, Value.int IntKind.i64 off, undef, undef, undef,
          Value.pointer (some { block := w.heap.size, off := 0 }),
          Value.pointer (some { block := w.heap.size + 1, off := 0 }),
          Value.pointer (some { block := w.heap.size + 1 + 1, off := 0 }),
          Value.pointer (some { block := w1.heap.size, off := 0 }), Value.bool true, Value.pointer (some ⟨Bx, 0, none⟩),
          Value.tuple #[Value.agg #[Value.int IntKind.i64 (base + ↑i), Value.int IntKind.i64 ↑p], Value.bool true], v,
          Value.int IntKind.i64 off,
          Value.tuple #[Value.agg #[Value.int IntKind.i64 (base + ↑i), Value.int IntKind.i64 ↑p], Value.bool true],
          Value.agg #[Value.int IntKind.i64 (base + ↑i), Value.int IntKind.i64 ↑p], Value.bool true, Value.bool true,
          Value.bool false, undef, Value.string s, Value.pointer (some { block := w1.heap.size, off := 1 }),
          Value.int IntKind.i64 ↑p, Value.pointer (some { block := w1.heap.size, off := 0 }),
          Value.int IntKind.i64 (base + ↑i),
          Value.func (Fn.func 26) #[]
            #[Value.pointer (some { block := w1.heap.size + 1 + 1, off := 0 }),
              Value.pointer (some { block := w1.heap.size + 1 + 2, off := 0 }),
              Value.pointer (some { block := w1.heap.size + 1, off := 0 })],
          .agg #[.int .i64 x.1.1.a, .int .i64 x.1.1.t, .string x.1.1.d], .int .i64 (x.1.2 : Int), undef, undef, undef, undef, undef, undef] })
    (fun x a' _ X Y row hs hg hr => by obtain ⟨Bx, h1, h2, h3⟩ := hs; exact ⟨Bx, h1, row_kept h2 hg (fun r e => (hr r e).2), h3⟩)
    ?assign ?body ?done ?stop
  case assign =>
    rintro l pre ⟨⟨⟨ra, rt, rd⟩, q⟩, hx⟩ W K ⟨⟨hne, g1, g2, g3⟩, hB1⟩ hK
    have hlt2 := (Array.getElem?_eq_some_iff.1 g2).1
    have hK := Lib.hid (fun a' h => hK a' _ ((KeepsOthers.alloc W (.cells #[.int .i64 ra, .int .i64 rt, .string rd] 35)).from _) (kpC_below ((Below.refl _ W).alloc (Nat.le_refl _) _)) ⟨⟨hne, heap_old _ g1, heap_old _ g2, heap_old _ g3⟩, hB1.alloc hB1.size _⟩ ⟨W.heap.size, by omega, heap_alloc_new W _, h⟩)
    unfold itVals
    dsimp only
    gi_wp2
    exact hK.out _ rfl
  case body =>
    rintro l pre ⟨⟨⟨ra, rt, rd⟩, q⟩, hx⟩ a' W hl hr ⟨⟨hne, g1, g2, g3⟩, hB1⟩ ⟨Bx, hBx, gX, rfl⟩ hlt
    obtain ⟨x, hxe⟩ : ∃ x : It (base + i), x = ⟨⟨⟨ra, rt, rd⟩, q⟩, hx⟩ := ⟨_, rfl⟩
    have hxa : x.1.1.a = ra := by rw [hxe]
    have hxt : x.1.1.t = rt := by rw [hxe]
    have hxd : x.1.1.d = rd := by rw [hxe]
    rw [← hxe]
    obtain ⟨x0, x1, x2⟩ := cells3 gX
    obtain ⟨z0, z1, z2⟩ := cells3 g1
    obtain ⟨f0, f1, f2⟩ := frozenK g1
    have cO := Boxed.cell g3
    have cE := Boxed.cell g2
    have fE := Boxed.frozen g2
    have hlt2 := (Array.getElem?_eq_some_iff.1 g2).1
    by_cases ho : ra = off
    · have hoe : (ra == off) = true := by simpa using ho
      obtain ⟨W4, hW4, d0, d1, d2, d3, hko, hb4⟩ := four9 (cs := (_, _, _)) g1 g2 (by omega) (.int .i64 off) (.int .i64 rt) (.string rd) (.int .i64 0) hB1 (Nat.le_succ _) (by omega)
      have HW := Lib.hid hW4
      have HH := Lib.hid (show Hit9 off (w.heap.size + 1) (w.heap.size + 1 + 1) (pre ++ [x]) W4 from ⟨pre, x, rfl, hxa.trans ho, by rw [hxa, ho]; exact d0, by rw [hxt]; exact d1, by rw [hxd]; exact d2, d3⟩)
      have HR := Lib.hid (And.intro (hko.from (w1.heap.size + 4)) hb4)
      clear hxe hB1 hne g1 g2 g3 gX hW4 d0 d1 d2 d3 hko hb4
      dsimp only
      gi_wp2
      rw [HW.out]
      exact ⟨HR.out.1, ⟨rfl, HH.out⟩, HR.out.2⟩
    · have hoe : (ra == off) = false := by simpa using ho
      have HI := Lib.hid (show Miss9 off (pre ++ [x]) from fun y hy => by
        rw [List.mem_append, List.mem_singleton] at hy
        rcases hy with hy | rfl
        · exact hne y hy
        · rw [hxa]; exact ho)
      have HB := Lib.hid hB1
      have G1 := Lib.hid g1
      have G2 := Lib.hid g2
      have G3 := Lib.hid g3
      clear hxe hB1 hne g1 g2 g3 gX
      dsimp only
      gi_wp2
      exact ⟨KeepsFrom.refl _ _, fun o ho => ho, ⟨⟨HI.out, G1.out, G2.out, G3.out⟩, HB.out⟩⟩
  case done =>
    rintro D ys W hD hS ⟨⟨hne, g1, g2, g3⟩, hB1⟩ hK
    have HRD := Lib.hid (read_miss HG.out HPL.out hS hne HLE.out)
    obtain ⟨z0, z1, z2⟩ := cells3 g1
    obtain ⟨f0, f1, f2⟩ := frozenK g1
    have cE := Boxed.cell g2
    have fE := Boxed.frozen g2
    obtain ⟨W4, hW4, d0, d1, d2, d3, hko, hb4⟩ := four9 (cs := (_, _, _)) g1 g2 (by omega) (.int .i64 0) (.int .i64 0) (.string ⟨#[]⟩) (.int .i64 6) hB1 (Nat.le_succ _) (by omega)
    have HW := Lib.hid hW4
    have hlt2 := (Array.getElem?_eq_some_iff.1 g2).1
    have hK4 := hko.same D _ hK rfl
    have hs1 := hb4.size
    have HK := Lib.hid hK4
    have HB := Lib.hid (hb4.trans (belowK_b (w := w) (Nat.le_refl _) W4 D _ (.deferred none) (by omega) hK4 rfl rfl))
    have e0 := cell_kept d0 (grownBy_putObj' _ D (.deferred none)) (fun r e => by cases e; exact ⟨_, hK4, rfl⟩)
    have e1 := cell_kept d1 (grownBy_putObj' _ D (.deferred none)) (fun r e => by cases e; exact ⟨_, hK4, rfl⟩)
    have e2 := cell_kept d2 (grownBy_putObj' _ D (.deferred none)) (fun r e => by cases e; exact ⟨_, hK4, rfl⟩)
    have e3 := cell_kept d3 (grownBy_putObj' _ D (.deferred none)) (fun r e => by cases e; exact ⟨_, hK4, rfl⟩)
    have HE := Lib.hid (And.intro e0 (And.intro e1 (And.intro e2 e3)))
    clear hne g1 g2 g3 hB1 hS hK hW4 d0 d1 d2 d3 hko hb4 hK4 e0 e1 e2 e3
    gi_wp2
    rw [HW.out]
    refine ⟨by simp, .inl ⟨_, _, rfl, run_takeDeferred HK.out, ?_⟩⟩
    obtain ⟨e0, e1, e2, e3⟩ := HE.out
    refine ⟨.tuple #[.agg #[.int .i64 0, .int .i64 0, .string ⟨#[]⟩], .int .i64 6], by simp [results, Try.results14, go_sem, e0, e1, e2, e3], ?_, HB.out⟩
    unfold rdVal9
    rw [HRD.out]
    rfl
  case stop =>
    rintro D c pre W hD hS ⟨⟨rfl, pre0, x, rfl, hxa, c0, c1, c2, cE⟩, hB1⟩ hK
    have HRD := Lib.hid (read_hit HG.out HPL.out hS hxa)
    have hs1 := hB1.size
    have e0 := cell_kept c0 (grownBy_putObj' _ D (.deferred none)) (fun r e => by cases e; exact ⟨_, hK, rfl⟩)
    have e1 := cell_kept c1 (grownBy_putObj' _ D (.deferred none)) (fun r e => by cases e; exact ⟨_, hK, rfl⟩)
    have e2 := cell_kept c2 (grownBy_putObj' _ D (.deferred none)) (fun r e => by cases e; exact ⟨_, hK, rfl⟩)
    have e3 := cell_kept cE (grownBy_putObj' _ D (.deferred none)) (fun r e => by cases e; exact ⟨_, hK, rfl⟩)
    have HB := Lib.hid (hB1.trans (belowK_b (w := w) (Nat.le_refl _) W D _ (.deferred none) (by omega) hK rfl rfl))
    have HK := Lib.hid hK
    have HE := Lib.hid (And.intro e0 (And.intro e1 (And.intro e2 e3)))
    clear hB1 hS hK e0 e1 e2 e3 c0 c1 c2 cE
    gi_wp2
    refine ⟨by simp, .inl ⟨_, _, rfl, run_takeDeferred HK.out, ?_⟩⟩
    obtain ⟨e0, e1, e2, e3⟩ := HE.out
    refine ⟨.tuple #[.agg #[.int .i64 x.1.1.a, .int .i64 x.1.1.t, .string x.1.1.d], .int .i64 0], by simp [results, Try.results14, go_sem, e0, e1, e2, e3], ?_, HB.out⟩
    unfold rdVal9
    rw [HRD.out]
    rfl

theorem read9_any (s : ByteArray) (base every off : Int) (v : Value) (w : World) (hs : s.size ≤ 1000000000) (_ : -9223372036854775808 ≤ base) (_ : base ≤ 9223372036854775807) (_ : 1 ≤ every) (_ : every ≤ 9223372036854775807) (_ : -9223372036854775808 ≤ off) (_ : off ≤ 9223372036854775807)
    (hv : IsL ML w v (Gp.ix (Gp.full s.data.toList base).1 base every (Gp.full s.data.toList base).1.length)) :
    Calls Try.prog 14 #[.string s, .int .i64 base, v, .int .i64 off] w fun e w' => e = .returned (rdVal9 (Gp.full s.data.toList base).1 base off) ∧ Below w.heap.size w w' := by
  obtain ⟨ps, k, er, hF, hg, hin, _, _⟩ := Gp.full_good s.data.toList base
  rw [hF] at hv ⊢
  dsimp only at hv ⊢
  have HM : rd ps base off = (Rp.zero, 6) → rdVal9 ps base off = .tuple #[.agg #[.int .i64 0, .int .i64 0, .string ⟨#[]⟩], .int .i64 6] := fun h => by
    unfold rdVal9
    rw [h]
    rfl
  by_cases h0 : ps = []
  · subst h0
    rw [HM (rd_out (by rcases Int.lt_or_le off base with h | h; exact .inl h; exact .inr (by simpa using h)))]
    exact read9_none s base off v _ w hv ⟨Nat.zero_le _, fun j hj => absurd hj (Nat.not_lt_zero j), fun j _ hj => by simp [ix] at hj⟩
  · obtain ⟨hb0, hb1⟩ := Rp.inB_yes (hin h0)
    have hpos : 0 < ps.length := List.length_pos_iff.2 h0
    have hr := ix_right (every := every) hg hb0 ps.length (Nat.le_refl _)
    obtain ⟨n, hn⟩ := Mp.split_some hr off
    have hpl : pls (s.data.toList.drop 0) base 0 = (ps, k, er) := (Gp.full_in (Rp.inB_mk hb0 hb1)).symm.trans hF
    cases n with
    | zero =>
      obtain ⟨m, t, e1, e2⟩ := ix_head ps base every ps.length hpos
      have h1 := hn.2.2 0 (Nat.le_refl _) (by rw [e1]; simp)
      rw [e1] at h1
      have h2 : off < base := by rw [← e2]; exact h1
      rw [HM (rd_out (.inl h2))]
      exact read9_none s base off v _ w hv hn
    | succ n =>
      have hnl : n < (ix ps base every ps.length).length := hn.1
      have hmem : (ix ps base every ps.length).getD n Mp.zero ∈ ix ps base every ps.length := by rw [Mp.getD_mk hnl]; exact List.getElem_mem _
      obtain ⟨i, hi, hm⟩ := ix_mem hmem
      rw [getD_ps hi] at hm
      have h4 := (hg.lo i hi).2
      have hks : k ≤ s.size := by
        rcases hg.le with h | h
        · exact h
        · omega
      have h5 := hg.at_ i hi
      obtain ⟨_, h6, _⟩ := hg.ok _ (List.getElem_mem hi)
      exact read9_some s base off v _ i ps[i].2 k w hs (by omega) hb0 hb1 hv n hn hm (by rw [← h5]; exact h6) er ps hg (pls_from s.data.toList i base 0 ps k er hpl hi)

end Go.Proofs.Ytfodcgipdhppmaa

namespace Go.Proofs.Ytfodcgipdhppmaa
open Go.RowKit Go.Shelf Go.Proofs.Ytfodcgipdhppmaa.Mks Go.Proofs.Ytfodcgipdhppmaa.Gp

attribute [local go_sem] Oper.semAt_some

namespace Gp
/-- The marks of what has come, and the place behind it. -/
def mkSt (b every : Int) (xs : List (It b)) : List Mp.Mk × Nat := xs.foldl (fun st x => (Mp.add st.1 b every ⟨x.1.1.a, st.2⟩, x.1.2)) ([], 0)
theorem mkSt_snoc (b every : Int) (xs : List (It b)) (x : It b) : mkSt b every (xs ++ [x]) = (Mp.add (mkSt b every xs).1 b every ⟨x.1.1.a, (mkSt b every xs).2⟩, x.1.2) := by simp [mkSt]
theorem add_split (l : List Mp.Mk) (b every : Int) (m : Mp.Mk) : Mp.add l b every m = l ++ Mp.add [] b every m := by
  unfold Mp.add
  split <;> simp
theorem add_one (b every : Int) (m : Mp.Mk) : (Mp.add [] b every m).length ≤ 1 := by
  unfold Mp.add
  split <;> simp
theorem mkSt_len (b every : Int) (xs : List (It b)) : (mkSt b every xs).1.length ≤ xs.length := by
  have key : ∀ (xs : List (It b)) (st : List Mp.Mk × Nat), (xs.foldl (fun (st : List Mp.Mk × Nat) x => (Mp.add st.1 b every ⟨x.1.1.a, (st.2 : Int)⟩, x.1.2)) st).1.length ≤ st.1.length + xs.length := by
    intro xs
    induction xs with
    | nil => exact fun st => Nat.le_refl _
    | cons x xs ih =>
      intro st
      rw [List.foldl_cons]
      have h1 := ih (Mp.add st.1 b every ⟨x.1.1.a, st.2⟩, x.1.2)
      have h2 := add_one b every ⟨x.1.1.a, st.2⟩
      have h3 : (Mp.add st.1 b every ⟨x.1.1.a, st.2⟩).length = st.1.length + (Mp.add [] b every ⟨x.1.1.a, st.2⟩).length := by rw [add_split, List.length_append]
      dsimp only at h1
      rw [List.length_cons]
      omega
  have h := key xs ([], 0)
  simpa [mkSt] using h
theorem ix_append (ps q : List (Rp.Rec × Nat)) (b every : Int) : ∀ n, n ≤ ps.length → ix (ps ++ q) b every n = ix ps b every n
  | 0, _ => rfl
  | n + 1, hn => by
    unfold ix
    rw [ix_append ps q b every n (by omega)]
    have : (ps ++ q).getD n (Rp.zero, 0) = ps.getD n (Rp.zero, 0) := by
      rw [List.getD_eq_getElem?_getD, List.getD_eq_getElem?_getD, List.getElem?_append_left (by omega)]
    rw [this]
theorem Zp.marks {b every : Int} {k : Nat} {xs : List (It b)} {ps : List (Rp.Rec × Nat)} (h : Zp b 0 xs ps k) : mkSt b every xs = (ix ps b every ps.length, k) := by
  induction h with
  | nil => rfl
  | snoc x h ha ih =>
    rw [mkSt_snoc, ih, List.length_append, List.length_singleton]
    dsimp only
    show _ = (Mp.add (ix (_ ++ _) b every _) b every _, _)
    rw [ix_append _ _ _ _ _ (Nat.le_refl _), ha]
    congr 2
    simp [List.getD_eq_getElem?_getD]
end Gp

/-- What lies in memory beside the marks. -/
def S9 (B Bx : Nat) (base every ra rt pa : Int) (rd s : ByteArray) (W : World) : Prop :=
  Boxed W B 3 (.int .i64 base) ∧ Boxed W (B + 1) 3 (.int .i64 every) ∧ W.heap[Bx]? = some (.cells #[.int .i64 ra, .int .i64 rt, .string rd] 35 (0, 0)) ∧ Boxed W (B + 1 + 1 + 1) 3 (.int .i64 pa) ∧ Boxed W (B + 1 + 1 + 1 + 1) 9 (.string s)
theorem row_not {W : World} {k : Nat} {cs : Array Value} {t e : TypeId} {fz : Nat × Nat} (h : W.heap[k]? = some (.cells cs t fz)) (hte : t ≠ e) {base size n : Nat} {v : Value} {xs : List Value} (hr : W.ownsRow base e size v n xs) : some k ≠ v.ownBlock := by
  rcases hr.2 with ⟨rfl, _⟩ | ⟨g, cap, cur, rfl, _, hgb, _⟩
  · simp [Value.ownBlock]
  · intro e'
    obtain rfl : k = g := by simpa [Value.ownBlock] using e'
    rw [h] at hgb
    injection hgb with hgb
    injection hgb with _ e1
    exact hte e1
theorem S9.below {B Bx : Nat} {base every ra rt pa : Int} {rd s : ByteArray} {W W' : World} (h : S9 B Bx base every ra rt pa rd s W) (b : Below W.heap.size W W') : S9 B Bx base every ra rt pa rd s W' := by
  obtain ⟨h1, h2, h3, h4, h5⟩ := h
  exact ⟨(b.block _ h1.lt).trans h1, (b.block _ h2.lt).trans h2, (b.block _ (Array.getElem?_eq_some_iff.1 h3).1).trans h3, (b.block _ h4.lt).trans h4, (b.block _ h5.lt).trans h5⟩
theorem S9.grown {B Bx : Nat} {base every ra rt pa : Int} {rd s : ByteArray} {W W' : World} (h : S9 B Bx base every ra rt pa rd s W) {n₀ n : Nat} {v : Value} {xs : List Value} (hr : W.ownsRow n₀ 58 2 v n xs) (hg : W.grownBy W' v.ownBlock) : S9 B Bx base every ra rt pa rd s W' := by
  obtain ⟨h1, h2, h3, h4, h5⟩ := h
  exact ⟨h1.kept hg (h1.not_row (by decide) hr), h2.kept hg (h2.not_row (by decide) hr), (hg.block _ (Array.getElem?_eq_some_iff.1 h3).1 (row_not h3 (by decide) hr)).trans h3, h4.kept hg (h4.not_row (by decide) hr), h5.kept hg (h5.not_row (by decide) hr)⟩
theorem S9.set {B Bx : Nat} {base every ra rt pa : Int} {rd s : ByteArray} {W : World} (h : S9 B Bx base every ra rt pa rd s W) (hx : Bx ≠ B + 1 + 1) (v : Value) : S9 B Bx base every ra rt pa rd s (W.setCell ⟨B + 1 + 1, 0, none⟩ v) := by
  obtain ⟨h1, h2, h3, h4, h5⟩ := h
  exact ⟨h1.other (by omega) v, h2.other (by omega) v, (Below.heap_setCell W ⟨B + 1 + 1, 0, none⟩ v Bx (fun e => hx e)).trans h3, h4.other (by omega) v, h5.other (by omega) v⟩
theorem ko_below {W W' : World} (h : Below W.heap.size W W') : KeepsOthers W W' := ⟨h.size, fun k _ hk _ => (h.block k (Array.getElem?_eq_some_iff.1 hk).1).trans hk⟩

/-- 'append' of a row of one's own, or of none. -/
theorem app9 {W : World} {B B2 : Nat} {v v2 : Value} {l l2 : List Mp.Mk} (ty : TypeId) (hO : OwnL ML W B v l) (h2 : (v2 = .slice none 0 0 ∧ l2 = []) ∨ OwnL ML W B2 v2 l2) (hB : B ≤ W.heap.size) (hl : l.length ≤ 1000000001) (hl2 : l2.length ≤ 1) :
    ∃ v' W', (Builtin.append_ #[29, 29] ty #[v, v2]).run Try.prog W = .ok v' W' ∧ (OwnL ML W' B v' (l ++ l2) ∧ W.grownBy W' v.ownBlock) := by
  obtain ⟨i0, hi0, hz0, hz1, hz2⟩ := info_parts info_mk
  have hnone : v2 = .slice none 0 0 → l2 = [] → ∃ v' W', (Builtin.append_ #[29, 29] ty #[v, v2]).run Try.prog W = .ok v' W' ∧ (OwnL ML W' B v' (l ++ l2) ∧ W.grownBy W' v.ownBlock) := by
    rintro rfl rfl
    refine ⟨v, W, run_append_owned_none W B _ _ _ i0 2 Try.underlying29 hi0 v _ _ hO, ?_, ⟨rfl, rfl, rfl, Nat.le_refl _, fun _ _ _ => rfl⟩⟩
    rw [List.append_nil]
    exact hO
  rcases h2 with ⟨h2, h3⟩ | h2
  · exact hnone h2 h3
  · have h2' := h2
    rcases h2.2 with ⟨hv2, hn⟩ | ⟨g, cap, cur, rfl, _⟩
    · exact hnone hv2 (List.length_eq_zero_iff.1 hn)
    · obtain ⟨v', W', hrun, ho, hg, _⟩ := run_append_own (P := Try.prog) W B 29 ty 58 i0 (.agg #[.int .i64 0, .int .i64 0]) 2 16 Try.underlying29 hi0 hz0 hz1 hz2 rfl (by decide) v l.length (ML.vals l) hO ⟨g, 0, none⟩ l2.length cap (ML.vals l2) h2.1 (fun j u hj => by
          have hlt := (List.getElem?_eq_some_iff.1 hj).1
          have hc := World.ownsRow.cellAt h2' j (by rw [← h2.1]; exact hlt)
          rw [show (⟨g, 0, none⟩ : Addr).add j = ⟨g, j, none⟩ from by rw [addr_plain]; simp, hc]
          exact hj) (ML.vals_cells l2) (by unfold maxLen; omega) (by omega) hB
      refine ⟨v', W', hrun, ?_, hg⟩
      unfold OwnL
      rw [ML.vals_append, List.length_append]
      exact ho

set_option maxRecDepth 100000 in
set_option maxHeartbeats 1600000 in
theorem index9_in (s : ByteArray) (base every : Int) (w : World) (hs : s.size ≤ 1000000000) (hb0 : 0 ≤ base) (hb1 : base ≤ 1099511627776) (h3 : 1 ≤ every) (h4 : every ≤ 9223372036854775807) :
    Calls Try.prog 12 #[.string s, .int .i64 base, .int .i64 every] w (OutL ML w w.heap.size (Gp.ix (Gp.full s.data.toList base).1 base every (Gp.full s.data.toList base).1.length)) := by
  have M := Lib.hid fun W : World => maybe9_any base W
  rw [Rp.inB_mk hb0 hb1] at M
  have R := fun W : World => records9_any s 0 base W
  rw [show ((0 : Nat) : Int) = 0 from rfl] at R
  replace R := Lib.hid R
  have HFU := Lib.hid (Gp.full_in (l := s.data.toList) (Rp.inB_mk hb0 hb1))
  have HL := Lib.hid (show s.data.toList.length = s.size from rfl)
  refine (callsIn_wide (n := 6)).1 ?_
  refine callsIn_of_wp_marks Try.func12 rfl trivial ?_ rfl
  simp only [Try.ntmps12, List.size_toArray, List.length_cons, List.length_nil, Nat.reduceAdd, Nat.reduceSub, Array.replicate_succ, Array.replicate_zero, List.push_toArray, List.append_toArray, List.nil_append, List.cons_append]
  gi_wp2_with (first | (refine ⟨trivial, ?_⟩; gi_at_call 18; refine (callsIn_wide.2 (M.out _)).mono ?_; rintro e w' ⟨rfl, rfl⟩) | (refine ⟨trivial, ?_⟩; gi_at_call 19; refine (callsIn_wide.2 (R.out _)).mono ?_; rintro e w' ⟨rfl, rfl⟩))
  have bB := (((((((Boxed.new w 3 (.int .i64 base)).alloc (.cells #[.int .i64 every] 3)).alloc (.cells #[.slice none 0 0] 29)).alloc (.cells #[.int .i64 0] 3)).alloc (.cells #[.string s] 9)).alloc (.cells #[.int .i64 0] 3)).alloc (.cells #[.int .i64 base] 3))
  have bV := ((((((Boxed.new (w.alloc (.cells #[.int .i64 base] 3)) 3 (.int .i64 every)).alloc (.cells #[.slice none 0 0] 29)).alloc (.cells #[.int .i64 0] 3)).alloc (.cells #[.string s] 9)).alloc (.cells #[.int .i64 0] 3)).alloc (.cells #[.int .i64 base] 3))
  have bL := (((((Boxed.new ((w.alloc (.cells #[.int .i64 base] 3)).alloc (.cells #[.int .i64 every] 3)) 29 (.slice none 0 0)).alloc (.cells #[.int .i64 0] 3)).alloc (.cells #[.string s] 9)).alloc (.cells #[.int .i64 0] 3)).alloc (.cells #[.int .i64 base] 3))
  have bP := ((((Boxed.new (((w.alloc (.cells #[.int .i64 base] 3)).alloc (.cells #[.int .i64 every] 3)).alloc (.cells #[.slice none 0 0] 29)) 3 (.int .i64 0)).alloc (.cells #[.string s] 9)).alloc (.cells #[.int .i64 0] 3)).alloc (.cells #[.int .i64 base] 3))
  have bC := (((Boxed.new ((((w.alloc (.cells #[.int .i64 base] 3)).alloc (.cells #[.int .i64 every] 3)).alloc (.cells #[.slice none 0 0] 29)).alloc (.cells #[.int .i64 0] 3)) 9 (.string s)).alloc (.cells #[.int .i64 0] 3)).alloc (.cells #[.int .i64 base] 3))
  have bA := ((Boxed.new (((((w.alloc (.cells #[.int .i64 base] 3)).alloc (.cells #[.int .i64 every] 3)).alloc (.cells #[.slice none 0 0] 29)).alloc (.cells #[.int .i64 0] 3)).alloc (.cells #[.string s] 9)) 3 (.int .i64 0)).alloc (.cells #[.int .i64 base] 3))
  have bO := (Boxed.new ((((((w.alloc (.cells #[.int .i64 base] 3)).alloc (.cells #[.int .i64 every] 3)).alloc (.cells #[.slice none 0 0] 29)).alloc (.cells #[.int .i64 0] 3)).alloc (.cells #[.string s] 9)).alloc (.cells #[.int .i64 0] 3)) 3 (.int .i64 base))
  simp only [World.size_alloc] at bB bV bL bP bC bA bO
  have hB0 : Below w.heap.size w (((((((w.alloc (.cells #[.int .i64 base] 3)).alloc (.cells #[.int .i64 every] 3)).alloc (.cells #[.slice none 0 0] 29)).alloc (.cells #[.int .i64 0] 3)).alloc (.cells #[.string s] 9)).alloc (.cells #[.int .i64 0] 3)).alloc (.cells #[.int .i64 base] 3)) := ((((((((Below.refl _ w).alloc (by simp <;> omega) (.cells #[.int .i64 base] 3)).alloc (by simp <;> omega) (.cells #[.int .i64 every] 3)).alloc (by simp <;> omega) (.cells #[.slice none 0 0] 29)).alloc (by simp <;> omega) (.cells #[.int .i64 0] 3)).alloc (by simp <;> omega) (.cells #[.string s] 9)).alloc (by simp <;> omega) (.cells #[.int .i64 0] 3)).alloc (by simp <;> omega) (.cells #[.int .i64 base] 3))
  have hsz : (((((((w.alloc (.cells #[.int .i64 base] 3)).alloc (.cells #[.int .i64 every] 3)).alloc (.cells #[.slice none 0 0] 29)).alloc (.cells #[.int .i64 0] 3)).alloc (.cells #[.string s] 9)).alloc (.cells #[.int .i64 0] 3)).alloc (.cells #[.int .i64 base] 3)).heap.size = w.heap.size + 7 := by simp
  obtain ⟨W0, hW0⟩ : ∃ W0, (((((((w.alloc (.cells #[.int .i64 base] 3)).alloc (.cells #[.int .i64 every] 3)).alloc (.cells #[.slice none 0 0] 29)).alloc (.cells #[.int .i64 0] 3)).alloc (.cells #[.string s] 9)).alloc (.cells #[.int .i64 0] 3)).alloc (.cells #[.int .i64 base] 3)) = W0 := ⟨_, rfl⟩
  rw [hW0] at bB bV bL bP bC bA bO hB0 hsz ⊢
  clear hW0
  refine wpIn_rangeFunc_ownH (F := Fence.wide) rfl (by decide) (gf := 26) (lb := #[.pointer (some ⟨w.heap.size + 1 + 1 + 1 + 1 + 1, 0, none⟩), .pointer (some ⟨w.heap.size + 1 + 1 + 1 + 1 + 2, 0, none⟩), .pointer (some ⟨w.heap.size + 1 + 1 + 1 + 1, 0, none⟩)]) rfl trivial (enters_of Try.func26 (by kernel_rfl) rfl)
    (iter9_stops s base 0 (w.heap.size + 1 + 1 + 1 + 1 + 1) (w.heap.size + 1 + 1 + 1 + 1 + 2) (w.heap.size + 1 + 1 + 1 + 1) 5 9 (by decide) (by omega) hb0 hb1 (Nat.zero_le _) W0 (by omega) (by omega) (by omega) bA.cell bO.cell bC)
    (fun h k => kpC_t h k) (kpC_b (by omega)) (Below.refl _ _) (fun _ => rfl)
    (fun (pre : List (It base)) W => ((∃ v, Boxed W (w.heap.size + 1 + 1) 29 v ∧ W.ownsRow w.heap.size 58 2 v (mkSt base every pre).1.length (ML.vals (mkSt base every pre).1) ∧ True) ∧ ((Boxed W (w.heap.size + 1 + 1 + 1) 3 (.int .i64 ((mkSt base every pre).2 : Nat)) ∧ Boxed W w.heap.size 3 (.int .i64 base)) ∧ (Boxed W (w.heap.size + 1) 3 (.int .i64 every) ∧ Boxed W (w.heap.size + 1 + 1 + 1 + 1) 9 (.string s)))) ∧ Below w.heap.size w W)
    (fun _ _ _ => False)
    (OwnFrom.and (OwnFrom.and (Own.from (holdsRow_own w.heap.size (w.heap.size + 1 + 1) 29 58 2 (fun (pre : List (It base)) => (mkSt base every pre).1.length) (fun pre => ML.vals (mkSt base every pre).1) (fun _ _ => True)) _) (OwnFrom.and (OwnFrom.and (Own.from (boxed_own _ _ (fun (pre : List (It base)) => .int .i64 ((mkSt base every pre).2 : Nat))) _) (Own.from (boxed_own _ _ _) _)) (OwnFrom.and (Own.from (boxed_own _ _ _) _) (Own.from (boxed_own _ _ _) _)))) (ownFrom_below (Nat.le_refl _) (by omega)))
    (fun _ _ _ _ _ hs _ _ => hs)
    ⟨⟨⟨_, bL, World.ownsRow_nil _ _ _ _, trivial⟩, ⟨bP, bB⟩, bV, bC⟩, hB0⟩
    (fun x a' W => ∃ Bx, w.heap.size + 4 < Bx ∧ W.heap[Bx]? = some (.cells #[.int .i64 x.1.1.a, .int .i64 x.1.1.t, .string x.1.1.d] 35 (0, 0)) ∧ a' = { defers := [], tmps := #[Value.string s, Value.int IntKind.i64 base, Value.int IntKind.i64 every, undef, Value.pointer (some { block := w.heap.size, off := 0 }), Value.pointer (some { block := w.heap.size + 1, off := 0 }), Value.slice none 0 0, Value.pointer (some { block := w.heap.size + 1 + 1, off := 0 }), Value.pointer (some { block := w.heap.size + 1 + 1 + 1, off := 0 }), Value.pointer (some ⟨Bx, 0, none⟩), Value.int IntKind.i64 (x.1.2 : Int), Value.int IntKind.i64 base, Value.bool true, Value.bool false, Value.string s, Value.int IntKind.i64 base, Value.func (Fn.func 26) #[] #[Value.pointer (some { block := w.heap.size + 1 + 1 + 1 + 1 + 1, off := 0 }), Value.pointer (some { block := w.heap.size + 1 + 1 + 1 + 1 + 2, off := 0 }), Value.pointer (some { block := w.heap.size + 1 + 1 + 1 + 1, off := 0 })], .agg #[.int .i64 x.1.1.a, .int .i64 x.1.1.t, .string x.1.1.d], Value.int IntKind.i64 (x.1.2 : Int), undef, undef, undef, undef, undef, undef, undef, undef, undef, undef, undef] })
    (fun x a' _ X Y row hs hg hr => by obtain ⟨Bx, h1, h2, h3⟩ := hs; exact ⟨Bx, h1, row_kept h2 hg (fun r e => (hr r e).2), h3⟩)
    ?assign ?body ?done ?stop
  case assign =>
    rintro l pre ⟨⟨⟨ra, rt, rd⟩, q⟩, hx⟩ W K ⟨⟨⟨v, bL1, hO, _⟩, ⟨bP1, bB1⟩, bV1, bC1⟩, hB1⟩ hK
    have hK := Lib.hid (fun a' h => hK a' _ ((KeepsOthers.alloc W (.cells #[.int .i64 ra, .int .i64 rt, .string rd] 35)).from _) (kpC_below ((Below.refl _ W).alloc (Nat.le_refl _) _)) ⟨⟨⟨v, bL1.alloc _, hO.alloc _, trivial⟩, ⟨bP1.alloc _, bB1.alloc _⟩, bV1.alloc _, bC1.alloc _⟩, hB1.alloc hB1.size _⟩ ⟨W.heap.size, by have := bC1.lt; omega, heap_alloc_new W _, h⟩)
    unfold itVals
    dsimp only
    gi_wp2
    exact hK.out _ rfl
  case body =>
    rintro l pre ⟨⟨⟨ra, rt, rd⟩, q⟩, hx⟩ a' W hl hr ⟨⟨⟨v, bL1, hO, _⟩, ⟨bP1, bB1⟩, bV1, bC1⟩, hB1⟩ ⟨Bx, hBx, gX, rfl⟩ hlt
    have hra : base ≤ ra := hx.2.2
    have hra2 : ra ≤ 1099511627776 := hx.1.2.1
    obtain ⟨x, hxe⟩ : ∃ x : It base, x = ⟨⟨⟨ra, rt, rd⟩, q⟩, hx⟩ := ⟨_, rfl⟩
    have hml := mkSt_len base every pre
    have HM := Lib.hid (show mkSt base every (pre ++ [x]) = ((mkSt base every pre).1 ++ Mp.add [] base every ⟨ra, (mkSt base every pre).2⟩, q) by rw [mkSt_snoc, add_split, hxe])
    have hm1 := add_one base every ⟨ra, (mkSt base every pre).2⟩
    have AD := fun W1 : World => add08_any (.slice none 0 0) [] base every ⟨ra, (mkSt base every pre).2⟩ W1 (IsL.nil W1 none 0) (fun _ _ h => by cases h; rfl) (fun _ _ _ h => by cases h; exact Nat.le_refl 0) (by simp) hb0 hra h3 (by show ra ≤ _; omega) h4
    generalize (mkSt base every pre).1 = ms at *
    generalize (mkSt base every pre).2 = pa at *
    generalize Mp.add [] base every ⟨ra, pa⟩ = nw at *
    unfold mkVal at AD
    dsimp only at AD
    replace AD := Lib.hid AD
    have HS := Lib.hid (show S9 w.heap.size Bx base every ra rt pa rd s W from ⟨bB1, bV1, gX, bP1, bC1⟩)
    have HOL := Lib.hid (show OwnL ML W w.heap.size v ms from hO)
    have HBL := Lib.hid bL1
    have HB := Lib.hid hB1
    have hs1 := hB1.size
    have hb2 : w.heap.size + 1 + 1 < W.heap.size := bL1.lt
    have hmsl : ms.length ≤ 1000000001 := by omega
    -- what the region comes to, once the call has come back
    have APP := Lib.hid fun (W2 : World) (v2 : Value) (b2 : Below W.heap.size W W2) (h : AddOut W.drew (.slice none 0 0) [] nw (.returned v2) W2) => app9 (W := W2) (v := v) (v2 := v2) (B := w.heap.size) (B2 := W.heap.size) (l := ms) (l2 := nw) 29 (HOL.out.keep b2) (by
      obtain ⟨v3, e3, _, h3⟩ := h
      cases e3
      exact h3) (Nat.le_trans hs1 b2.size) hmsl hm1
    have FIN := Lib.hid fun (W2 W3 : World) (v' : Value) (b2 : Below W.heap.size W W2) (ho : OwnL ML W3 w.heap.size v' (ms ++ nw)) (hg : W2.grownBy W3 v.ownBlock) => (show S9 w.heap.size Bx base every ra rt pa rd s W3 ∧ Boxed W3 (w.heap.size + 1 + 1) 29 v ∧ (S9 w.heap.size Bx base every ra rt pa rd s (W3.setCell ⟨w.heap.size + 1 + 1, 0, none⟩ v') ∧ Boxed (W3.setCell ⟨w.heap.size + 1 + 1, 0, none⟩ v') (w.heap.size + 1 + 1) 29 v' ∧ OwnL ML (W3.setCell ⟨w.heap.size + 1 + 1, 0, none⟩ v') w.heap.size v' (ms ++ nw) ∧ KeepsOthers W (W3.setCell ⟨w.heap.size + 1 + 1, 0, none⟩ v') ∧ Below w.heap.size w (W3.setCell ⟨w.heap.size + 1 + 1, 0, none⟩ v')) from by
      have hO2 := HOL.out.keep b2
      have bL2 : Boxed W2 (w.heap.size + 1 + 1) 29 v := (b2.block _ hb2).trans HBL.out
      have hS3 := (HS.out.below b2).grown hO2 hg
      have bL3 := bL2.kept hg (bL2.not_row (by decide) hO2)
      refine ⟨hS3, bL3, hS3.set (by omega) _, bL3.set _, World.ownsRow.kept ho (grownBy_setCell' W3 _ v') (.inr (bL3.not_row (by decide) ho).symm), ?_, ?_⟩
      · refine ((ko_below b2).trans (KeepsOthers.of_grownBy hg fun j o ej hj => ?_)).trans (KeepsOthers.setCell _ _ _)
        rcases hO2.2 with ⟨rfl, _⟩ | ⟨g, cap, cur, rfl, _, hgb, _⟩
        · simp [Value.ownBlock] at ej
        · obtain rfl : g = j := by simpa [Value.ownBlock] using ej
          rw [hgb] at hj; cases hj; rfl
      · exact ((HB.out.trans (b2.mono hs1)).grown hg (Nat.le_trans hs1 b2.size) (fun k hk => (hO2.lt k hk).1)).setCell (p := ⟨w.heap.size + 1 + 1, 0, none⟩) (by simp; omega) _)
    clear hO bL1 bP1 bB1 bV1 bC1 hB1 gX
    obtain ⟨va, vc, rfl⟩ := own_slice HOL.out
    obtain ⟨R, hR⟩ : ∃ R : Act → World → Prop, R = (fun a'' W' => ∃ x19 x20 x21 x22 x23 x24 x25 x26 x27 v', a'' = { defers := [], tmps := #[Value.string s, Value.int IntKind.i64 base, Value.int IntKind.i64 every, undef, Value.pointer (some { block := w.heap.size, off := 0 }), Value.pointer (some { block := w.heap.size + 1, off := 0 }), Value.slice none 0 0, Value.pointer (some { block := w.heap.size + 1 + 1, off := 0 }), Value.pointer (some { block := w.heap.size + 1 + 1 + 1, off := 0 }), Value.pointer (some ⟨Bx, 0, none⟩), Value.int IntKind.i64 (q : Int), Value.int IntKind.i64 base, Value.bool true, Value.bool false, Value.string s, Value.int IntKind.i64 base, Value.func (Fn.func 26) #[] #[Value.pointer (some { block := w.heap.size + 1 + 1 + 1 + 1 + 1, off := 0 }), Value.pointer (some { block := w.heap.size + 1 + 1 + 1 + 1 + 2, off := 0 }), Value.pointer (some { block := w.heap.size + 1 + 1 + 1 + 1, off := 0 })], .agg #[.int .i64 ra, .int .i64 rt, .string rd], Value.int IntKind.i64 (q : Int), x19, x20, x21, x22, x23, x24, x25, x26, x27, undef, undef] } ∧ S9 w.heap.size Bx base every ra rt pa rd s W' ∧ Boxed W' (w.heap.size + 1 + 1) 29 v' ∧ OwnL ML W' w.heap.size v' (ms ++ nw) ∧ KeepsOthers W W' ∧ Below w.heap.size w W') := ⟨_, rfl⟩
    have HR := Lib.hid (show ∀ x19 x20 x21 x22 x23 x24 x25 x26 x27 v' W', S9 w.heap.size Bx base every ra rt pa rd s W' ∧ Boxed W' (w.heap.size + 1 + 1) 29 v' ∧ OwnL ML W' w.heap.size v' (ms ++ nw) ∧ KeepsOthers W W' ∧ Below w.heap.size w W' → R { defers := [], tmps := #[Value.string s, Value.int IntKind.i64 base, Value.int IntKind.i64 every, undef, Value.pointer (some { block := w.heap.size, off := 0 }), Value.pointer (some { block := w.heap.size + 1, off := 0 }), Value.slice none 0 0, Value.pointer (some { block := w.heap.size + 1 + 1, off := 0 }), Value.pointer (some { block := w.heap.size + 1 + 1 + 1, off := 0 }), Value.pointer (some ⟨Bx, 0, none⟩), Value.int IntKind.i64 (q : Int), Value.int IntKind.i64 base, Value.bool true, Value.bool false, Value.string s, Value.int IntKind.i64 base, Value.func (Fn.func 26) #[] #[Value.pointer (some { block := w.heap.size + 1 + 1 + 1 + 1 + 1, off := 0 }), Value.pointer (some { block := w.heap.size + 1 + 1 + 1 + 1 + 2, off := 0 }), Value.pointer (some { block := w.heap.size + 1 + 1 + 1 + 1, off := 0 })], .agg #[.int .i64 ra, .int .i64 rt, .string rd], Value.int IntKind.i64 (q : Int), x19, x20, x21, x22, x23, x24, x25, x26, x27, undef, undef] } W' from fun x19 x20 x21 x22 x23 x24 x25 x26 x27 v' W' h => by rw [hR]; exact ⟨x19, x20, x21, x22, x23, x24, x25, x26, x27, v', rfl, h⟩)
    refine block_two R ?_ ?_
    · clear hR
      have h0 : S9 w.heap.size Bx base every ra rt pa rd s W.drew := HS.out
      refine region_round (by kernel_rfl) (by kernel_rfl) not_out (S9 w.heap.size Bx base every ra rt pa rd s) 10 rfl #[false, false, false, false, false, false, false, false, false, false] rfl ?_
      refine wpAnyH_take (i := 1) (v := .int .i64 base) rfl (by kernel_rfl) (by kernel_rfl) (by kernel_rfl) (fun _ _ _ h => by cases h.1) (Or.inl ⟨by rfl, fun W' hS => ?_⟩) h0 ?_
      · have c := Boxed.cell hS.1
        go_simp
      simp only [Act.put, List.setIfInBounds_toArray, List.set_cons_zero, List.set_cons_succ]
      refine wpAnyH_take (i := 2) (v := .int .i64 every) rfl (by kernel_rfl) (by kernel_rfl) (by kernel_rfl) (fun _ _ _ h => by cases h.1) (Or.inl ⟨by rfl, fun W' hS => ?_⟩) h0 ?_
      · have c := Boxed.cell hS.2.1
        go_simp
      simp only [Act.put, List.setIfInBounds_toArray, List.set_cons_zero, List.set_cons_succ]
      refine wpAnyH_take (i := 3) (v := .pointer (some ⟨Bx, 0, none⟩)) rfl (by kernel_rfl) (by kernel_rfl) (by kernel_rfl) (fun _ _ _ h => by cases h.1) (Or.inl ⟨by rfl, fun W' hS => ?_⟩) h0 ?_
      · obtain ⟨c, _, _⟩ := cells3 hS.2.2.1
        go_simp
      simp only [Act.put, List.setIfInBounds_toArray, List.set_cons_zero, List.set_cons_succ]
      refine wpAnyH_take (i := 4) (v := .int .i64 ra) rfl (by kernel_rfl) (by kernel_rfl) (by kernel_rfl) (fun _ _ _ h => by cases h.1) (Or.inl ⟨by rfl, fun W' hS => ?_⟩) h0 ?_
      · obtain ⟨c, _, _⟩ := cells3 hS.2.2.1
        go_simp
      simp only [Act.put, List.setIfInBounds_toArray, List.set_cons_zero, List.set_cons_succ]
      refine wpAnyH_take (i := 5) (v := .int .i64 (pa : Int)) rfl (by kernel_rfl) (by kernel_rfl) (by kernel_rfl) (fun _ _ _ h => by cases h.1) (Or.inl ⟨by rfl, fun W' hS => ?_⟩) h0 ?_
      · have c := Boxed.cell hS.2.2.2.1
        go_simp
      simp only [Act.put, List.setIfInBounds_toArray, List.set_cons_zero, List.set_cons_succ]
      refine wpAnyH_take (i := 6) (v := .agg #[.int .i64 ra, .int .i64 (pa : Int)]) rfl (by kernel_rfl) (by kernel_rfl) (by kernel_rfl) (fun _ _ _ h => by cases h.1) (Or.inl ⟨by rfl, fun W' hS => ?_⟩) h0 ?_
      · go_simp
      simp only [Act.put, List.setIfInBounds_toArray, List.set_cons_zero, List.set_cons_succ]
      refine wpAnyH_ready (rs := [0, 7]) (by kernel_rfl) (by simp) (AllReadyH.cons rfl (fun K hK => ?_) (AllReadyH.cons rfl (fun K hK => ?_) AllReadyH.nil))
      · have c := HBL.out.cell
        go_simp
        refine hK.out _ _ h0 (fun _ => ?_)
        clear hK K
        refine wpAnyH_ready (rs := [7]) (by kernel_rfl) (by simp) (AllReadyH.cons rfl (fun K hK => ?_) AllReadyH.nil)
        go_simp
        refine (AD.out _).mono ?_
        rintro e W2 ⟨v2, rfl, b2, hcase⟩
        have b2' : Below W.heap.size W W2 := (Below.refl _ W).drew.trans b2
        dsimp only
        refine hK.out _ _ (HS.out.below b2') (fun _ => ?_)
        clear hK K
        refine wpAnyH_ready (rs := [8]) (by kernel_rfl) (by simp) (AllReadyH.cons rfl (fun K hK => ?_) AllReadyH.nil)
        refine step_append_run rfl (.tmp 19) (.tmp 26) 29 rfl (.slice va ms.length vc) v2 (by simp [Act.eval]) (by simp [Act.eval]) _ (APP.out W2 v2 b2' ⟨v2, rfl, b2, hcase⟩) ?_
        rintro v' W3 ⟨ho, hg⟩
        obtain ⟨hS3, bL3, hF⟩ := FIN.out W2 W3 v' b2' ho hg
        refine hK.out _ _ hS3 (fun _ => ?_)
        clear hK K
        obtain ⟨va', vc', hv'⟩ := own_slice ho
        obtain ⟨ln, hln⟩ : ∃ ln, (ms ++ nw).length = ln := ⟨_, rfl⟩
        rw [hln] at hv'
        clear hln
        subst hv'
        simp only [Act.put, List.setIfInBounds_toArray, List.set_cons_zero, List.set_cons_succ]
        refine wpAnyH_ready (rs := [9]) (by kernel_rfl) (by simp) (AllReadyH.cons rfl (fun K hK => ?_) AllReadyH.nil)
        have c3 := bL3.cell
        have f3 := bL3.frozen
        go_simp
        refine hK.out _ _ hF.1 (fun _ => ?_)
        refine wpAnyH_done (by kernel_rfl) ⟨rfl, ?_⟩ _
        exact HR.out _ _ _ _ _ _ _ _ _ _ _ hF
      · go_simp
        refine (AD.out _).mono ?_
        rintro e W2 ⟨v2, rfl, b2, hcase⟩
        have b2' : Below W.heap.size W W2 := (Below.refl _ W).drew.trans b2
        dsimp only
        refine hK.out _ _ (HS.out.below b2') (fun _ => ?_)
        clear hK K
        refine wpAnyH_ready (rs := [0]) (by kernel_rfl) (by simp) (AllReadyH.cons rfl (fun K hK => ?_) AllReadyH.nil)
        have c := Boxed.cell ((b2'.block _ hb2).trans HBL.out)
        go_simp
        refine hK.out _ _ (HS.out.below b2') (fun _ => ?_)
        clear hK K
        refine wpAnyH_ready (rs := [8]) (by kernel_rfl) (by simp) (AllReadyH.cons rfl (fun K hK => ?_) AllReadyH.nil)
        refine step_append_run rfl (.tmp 19) (.tmp 26) 29 rfl (.slice va ms.length vc) v2 (by simp [Act.eval]) (by simp [Act.eval]) _ (APP.out W2 v2 b2' ⟨v2, rfl, b2, hcase⟩) ?_
        rintro v' W3 ⟨ho, hg⟩
        obtain ⟨hS3, bL3, hF⟩ := FIN.out W2 W3 v' b2' ho hg
        refine hK.out _ _ hS3 (fun _ => ?_)
        clear hK K
        obtain ⟨va', vc', hv'⟩ := own_slice ho
        obtain ⟨ln, hln⟩ : ∃ ln, (ms ++ nw).length = ln := ⟨_, rfl⟩
        rw [hln] at hv'
        clear hln
        subst hv'
        simp only [Act.put, List.setIfInBounds_toArray, List.set_cons_zero, List.set_cons_succ]
        refine wpAnyH_ready (rs := [9]) (by kernel_rfl) (by simp) (AllReadyH.cons rfl (fun K hK => ?_) AllReadyH.nil)
        have c3 := bL3.cell
        have f3 := bL3.frozen
        go_simp
        refine hK.out _ _ hF.1 (fun _ => ?_)
        refine wpAnyH_done (by kernel_rfl) ⟨rfl, ?_⟩ _
        exact HR.out _ _ _ _ _ _ _ _ _ _ _ hF
    · rintro a1 W1 hR1
      rw [hR] at hR1
      obtain ⟨x19, x20, x21, x22, x23, x24, x25, x26, x27, v', rfl, hS, bL4, ho, hko, hb⟩ := hR1
      clear hR HR
      have cP := hS.2.2.2.1.cell
      have fP := hS.2.2.2.1.frozen
      have HS1 := Lib.hid hS
      have HBL1 := Lib.hid bL4
      have HO1 := Lib.hid ho
      have HKO := Lib.hid hko
      have HB1 := Lib.hid hb
      clear hS bL4 ho hko hb
      subst hxe
      gi_wp2
      obtain ⟨h1, h2, h3, h4, h5⟩ := HS1.out
      have h5' := h5.other (show w.heap.size + 1 + 1 + 1 + 1 ≠ w.heap.size + 1 + 1 + 1 by omega) (.int .i64 (q : Int))
      refine ⟨(HKO.out.trans (KeepsOthers.setCell _ _ _)).from _, (fun o ho => by rw [show W.heap[_]? = _ from HS.out.2.2.2.2] at ho; cases ho; exact h5'), ?_⟩
      dsimp only
      rw [HM.out]
      exact ⟨⟨⟨v', HBL1.out.other (by omega) _, World.ownsRow.kept HO1.out (grownBy_setCell' W1 _ _) (.inr (h4.not_row (by decide) HO1.out).symm)⟩, ⟨h4.set _, h1.other (by omega) _⟩, h2.other (by omega) _, h5'⟩, HB1.out.setCell (p := ⟨w.heap.size + 1 + 1 + 1, 0, none⟩) (by simp; omega) _⟩
  case done =>
    rintro D ys W hD ⟨ps, k, e, hF, hG, hZ, _⟩ ⟨⟨⟨v, bL1, hO, _⟩, _⟩, hB1⟩ hK
    rw [hZ.marks] at hO
    dsimp only at hO
    have HF := Lib.hid (HFU.out.trans hF)
    have cL := bL1.cell
    have HO := Lib.hid hO
    have HB := Lib.hid hB1
    have hs1 := hB1.size
    have HK := Lib.hid hK
    clear hF hG hZ hO hB1 hK bL1
    gi_wp2
    refine ⟨by simp, .inl ⟨_, _, rfl, run_takeDeferred HK.out, ?_⟩⟩
    refine ⟨_, results_tmp rfl _ _ _, ?_⟩
    rw [HF.out]
    exact ⟨v, rfl, ownsRow_putObj HO.out _ HK.out rfl, HB.out.trans (belowK_b (w := w) (Nat.le_refl _) W D _ _ (by omega) HK.out rfl rfl)⟩
  case stop =>
    rintro D c pre W _ _ h _
    exact h.elim

set_option maxRecDepth 100000 in
theorem index9_bad (s : ByteArray) (base every : Int) (w : World) (h : base < 0 ∨ 1099511627776 < base) :
    Calls Try.prog 12 #[.string s, .int .i64 base, .int .i64 every] w (OutL ML w w.heap.size []) := by
  have M := Lib.hid fun W : World => maybe9_any base W
  rw [Rp.inB_no h] at M
  have HB := Lib.hid (((Below.refl w.heap.size w).alloc (Nat.le_refl _) (.cells #[.int .i64 base] 3)).alloc (by simp) (.cells #[.int .i64 every] 3))
  go_enter Try.func12, Try.ntmps12
  go_wp2_with fail
  refine (M.out _).mono ?_
  rintro e w1 ⟨rfl, rfl⟩
  go_wp2_with fail
  go_ret
  exact ⟨.slice none 0 0, rfl, OwnL.nil _ _, HB.out⟩

theorem index9_out (s : ByteArray) (base every : Int) (w : World) (hs : s.size ≤ 1000000000) (h3 : 1 ≤ every) (h4 : every ≤ 9223372036854775807) :
    Calls Try.prog 12 #[.string s, .int .i64 base, .int .i64 every] w (OutL ML w w.heap.size (Gp.ix (Gp.full s.data.toList base).1 base every (Gp.full s.data.toList base).1.length)) := by
  by_cases h : base < 0 ∨ 1099511627776 < base
  · rw [Gp.full_out (Rp.inB_no h)]
    exact index9_bad s base every w h
  · exact index9_in s base every w hs (by omega) (by omega) h3 h4

theorem index9_any (s : ByteArray) (base every : Int) (w : World) (hs0 : s.size ≤ 1000000000) (_ : -9223372036854775808 ≤ base) (_ : base ≤ 9223372036854775807) (h3 : 1 ≤ every) (h4 : every ≤ 9223372036854775807) :
    Calls Try.prog 12 #[.string s, .int .i64 base, .int .i64 every] w (IdxOut w (Gp.ix (Gp.full s.data.toList base).1 base every (Gp.full s.data.toList base).1.length)) := by
  refine (index9_out s base every w hs0 h3 h4).mono ?_
  rintro e w' ⟨v, rfl, ho, hb⟩
  refine ⟨v, rfl, ho.is ?_ ?_, hb⟩
  · obtain ⟨ps, k, er, hF, hg, _, _, _⟩ := Gp.full_good s.data.toList base
    rw [hF]
    have := Gp.ix_len ps base every ps.length
    have := hg.few
    have := hg.le
    have : s.data.toList.length = s.size := rfl
    unfold maxLen
    show (Gp.ix ps base every ps.length).length ≤ _
    omega
  · obtain ⟨ps, k, er, hF, hg, hin, _, _⟩ := Gp.full_good s.data.toList base
    rw [hF]
    show ∀ m ∈ Gp.ix ps base every ps.length, MkB m
    by_cases h0 : ps = []
    · subst h0
      intro m hm
      obtain ⟨i, hi, _⟩ := Gp.ix_mem hm
      simp at hi
    · have hi := Rp.inB_yes (hin h0)
      have := hg.le
      have : s.data.toList.length = s.size := rfl
      exact ix_ok hg hi.1 hi.2 (by omega) (Nat.le_refl _)

end Go.Proofs.Ytfodcgipdhppmaa
