/-
  What the program's sums of layer 11 answer: with one segment more, above what may be kept; the sums' box.
-/
import Derived.Test.YtmbkgcmmajnidaaRetVal
import Derived.Deep.DeepCutAuto
import Derived.Deep.Heap
namespace Go.Proofs.Ytmbkgcmmajnidaa.Rts
open Go.RowKit Go.Proofs.Ytmbkgcmmajnidaa.Rt

def sgV (m : Sg) : Value := .agg #[.int .i64 m.b, .int .i64 m.n, .int .i64 m.z]

set_option maxRecDepth 100000 in
set_option maxHeartbeats 800000 in
theorem with_any (z n : Int) (m : Sg) (w : World) (h1 : -9223372036854775808 ≤ z + m.z) (h2 : z + m.z ≤ 9223372036854775807) (h3 : -9223372036854775808 ≤ n + m.n) (h4 : n + m.n ≤ 9223372036854775807) :
    Calls Try.prog 12 #[.agg #[.int .i64 z, .int .i64 n], sgV m] w fun e w' => e = .returned (.agg #[.int .i64 (z + m.z), .int .i64 (n + m.n)]) ∧ Below w.heap.size w w' := by
  unfold sgV
  go_enter Try.func12, Try.ntmps12
  go_wp2_with fail
  refine bodyPost_ret (v := .agg #[.int .i64 (z + m.z), .int .i64 (n + m.n)]) (by simp [results, Try.results12, go_sem]) rfl ?_
  exact ⟨rfl, (((Below.refl _ _).alloc (Nat.le_refl _) _).alloc (by simp) _).alloc (by simp; omega) _⟩

set_option maxRecDepth 100000 in
set_option maxHeartbeats 800000 in
theorem above_any (z n keep count : Int) (b : Bool) (w : World) (hb : b = true ↔ (keep < z ∨ count < n)) :
    Calls Try.prog 13 #[.agg #[.int .i64 z, .int .i64 n], .int .i64 keep, .int .i64 count] w fun e w' => e = .returned (.bool b) ∧ Below w.heap.size w w' := by
  by_cases h2 : keep < z
  · obtain rfl : b = true := hb.2 (.inl h2)
    have e2 : decide (keep < z) = true := by simpa using h2
    clear hb
    go_enter Try.func13, Try.ntmps13
    go_wp2_with fail
    go_ret
    exact ⟨rfl, (Below.refl _ _).alloc (Nat.le_refl _) _⟩
  · have e2 : decide (keep < z) = false := by simpa using h2
    have e3 : decide (count < n) = b := by
      rw [Bool.eq_iff_iff, decide_eq_true_iff, hb]
      exact ⟨.inr, fun h => h.resolve_left h2⟩
    clear hb
    go_enter Try.func13, Try.ntmps13
    go_wp2_with fail
    go_ret
    exact ⟨rfl, (Below.refl _ _).alloc (Nat.le_refl _) _⟩

/-- The sums in a box. -/
def SB (b : Nat) (z n : Int) (W : World) : Prop := W.heap[b]? = some (.cells #[.int .i64 z, .int .i64 n] 36 (0, 0))
theorem SB.cells {b : Nat} {z n : Int} {W : World} (h : SB b z n W) : W.cell? ⟨b, 0, none⟩ = some (.int .i64 z) ∧ W.cell? ⟨b, 1, none⟩ = some (.int .i64 n) ∧ W.frozen? ⟨b, 0, none⟩ = false ∧ W.frozen? ⟨b, 1, none⟩ = false :=
  ⟨by rw [cell_of_row _ _ 0 _ _ _ h]; rfl, by rw [cell_of_row _ _ 1 _ _ _ h]; rfl, by unfold World.frozen?; rw [h]; rfl, by unfold World.frozen?; rw [h]; rfl⟩
theorem SB.lt {b : Nat} {z n : Int} {W : World} (h : SB b z n W) : b < W.heap.size := (Array.getElem?_eq_some_iff.1 h).1
theorem SB.keep {b : Nat} {z n : Int} {W W' : World} (h : SB b z n W) (k : Below W.heap.size W W') : SB b z n W' := (k.block b h.lt).trans h
theorem SB.new (w : World) (z n : Int) : SB w.heap.size z n (w.alloc (.cells #[.int .i64 z, .int .i64 n] 36)) := heap_alloc_new w _
theorem SB.set {b : Nat} {z n : Int} {W : World} (h : SB b z n W) (z' n' : Int) : SB b z' n' ((W.setCell ⟨b, 0, none⟩ (.int .i64 z')).setCell ⟨b, 1, none⟩ (.int .i64 n')) :=
  heap_setCell_same _ b 1 _ _ _ (heap_setCell_same W b 0 _ _ _ h)
/-- The sums in the call's own box, all else as it was. -/
structure Sb (w : World) (z n : Int) (W : World) : Prop where
  b : SB w.heap.size z n W
  w : Below w.heap.size w W
theorem Sb.new (w : World) (z n : Int) : Sb w z n (w.alloc (.cells #[.int .i64 z, .int .i64 n] 36)) := ⟨SB.new w z n, (Below.refl _ _).alloc (Nat.le_refl _) _⟩
theorem Sb.set {w : World} {z n : Int} {W W' : World} (h : Sb w z n W) (k : Below W.heap.size W W') (z' n' : Int) : Sb w z' n' ((W'.setCell ⟨w.heap.size, 0, none⟩ (.int .i64 z')).setCell ⟨w.heap.size, 1, none⟩ (.int .i64 n')) :=
  ⟨(h.b.keep k).set z' n', ((h.w.trans (k.mono h.w.size)).setCell (p := ⟨w.heap.size, 0, none⟩) (Nat.le_refl _) _).setCell (p := ⟨w.heap.size, 1, none⟩) (Nat.le_refl _) _⟩
theorem Sb.drew {w : World} {z n : Int} {W : World} (h : Sb w z n W) : Sb w z n W.drew := ⟨h.b, h.w.drew⟩
theorem Sb.keep {w : World} {z n : Int} {W W' : World} (h : Sb w z n W) (k : Below W.heap.size W W') : Sb w z n W' := ⟨h.b.keep k, h.w.trans (k.mono h.w.size)⟩

/-- Sums from the last one back, one more. -/
theorem sums_step {l : List Sg} (hm : May l) {j : Nat} (hj : j < l.length) :
    sumZ l - sumZ (l.take j) = sumZ l - sumZ (l.take (j + 1)) + (l.getD j zero).z ∧ sumN l - sumN (l.take j) = sumN l - sumN (l.take (j + 1)) + (l.getD j zero).n ∧
    -9223372036854775808 ≤ sumZ l - sumZ (l.take (j + 1)) + (l.getD j zero).z ∧ sumZ l - sumZ (l.take (j + 1)) + (l.getD j zero).z ≤ 9223372036854775807 ∧
    -9223372036854775808 ≤ sumN l - sumN (l.take (j + 1)) + (l.getD j zero).n ∧ sumN l - sumN (l.take (j + 1)) + (l.getD j zero).n ≤ 9223372036854775807 ∧
    -9223372036854775808 ≤ (l.getD j zero).z ∧ (l.getD j zero).z ≤ 9223372036854775807 ∧ -9223372036854775808 ≤ (l.getD j zero).n ∧ (l.getD j zero).n ≤ 9223372036854775807 := by
  have e1 := sumZ_take hj
  have e2 := sumN_take hj
  obtain ⟨a1, a2, a3, a4⟩ := hm.sums
  obtain ⟨b1, b2, b3, b4⟩ := (hm.take (j + 1)).sums
  obtain ⟨c1, c2, c3, c4⟩ := hm.at_ j
  refine ⟨by omega, by omega, by omega, by omega, by omega, by omega, by omega, by omega, by omega, by omega⟩

set_option maxRecDepth 100000 in
set_option maxHeartbeats 1600000 in
theorem bytes11_any (fa : Option Addr) (fn fc : Nat) (l : List Sg) (w : World) (hv : IsL SL w (.slice fa fn fc) l) (_ : fn ≤ fc) (hm : May l) :
    Calls Try.prog 10 #[.slice fa fn fc] w fun e w' => e = .returned (.int .i64 (sumZ l)) ∧ Below w.heap.size w w' := by
  have HV := Lib.hid hv
  have HM := Lib.hid hm
  have HL := Lib.hid hv.len.1
  have hl4 : fn ≤ 4096 := by rw [hv.len.1]; exact hm.1
  have WI := Lib.hid with_any
  unfold sgV at WI
  clear hv hm
  have N0 := Lib.hid (Sb.new w 0 0)
  go_enter Try.func10, Try.ntmps10
  go_upto_region 2 with (fail)
  generalize w.alloc _ = w1 at N0 ⊢
  go_wp2_with fail
  go_loopw [4] (fun i W => ∃ k : Nat, k ≤ fn ∧ i = .int .i64 ((k : Int) - 1) ∧ Sb w (sumZ l - sumZ (l.take k)) (sumN l - sumN (l.take k)) W) (fun i _ => (intOf i + 1).toNat)
  case atStart =>
    refine ⟨fn, Nat.le_refl _, rfl, ?_⟩
    have e1 : l.take fn = l := by rw [HL.out, List.take_length]
    rw [e1, Int.sub_self, Int.sub_self]
    exact N0.out
  case round =>
    obtain ⟨k, hk, rfl, hS⟩ := hrel
    rcases k with _ | j
    · have HE := Lib.hid (show sumZ l - sumZ (l.take 0) = sumZ l by show sumZ l - 0 = _; omega)
      rw [HE.out] at hS
      obtain ⟨b0, b1, f0, f1⟩ := hS.b.cells
      have hw := Lib.hid hS.w
      clear hS
      go_wp2_with fail
      go_ret
      exact ⟨rfl, hw.out⟩
    · obtain ⟨g, off, rfl, c0, c1, c2⟩ := sg_at (HV.out.keep hS.w) (show j < fn by omega)
      obtain ⟨e1, e2, p1, p2, p3, p4, p5, p6, p7, p8⟩ := sums_step HM.out (show j < l.length by rw [← HL.out]; omega)
      rw [show (((j + 1 : Nat) : Int) - 1) = (j : Int) by omega]
      have hj0 : (0 : Int) ≤ (j : Int) := by omega
      have hj1 : j < fn := by omega
      obtain ⟨b0, b1, f0, f1⟩ := hS.b.cells
      have HS := Lib.hid hS
      have HZ := Lib.hid e1
      have HN := Lib.hid e2
      clear hS e1 e2
      generalize sumZ l - sumZ (l.take (j + 1)) = z at *
      generalize sumN l - sumN (l.take (j + 1)) = n at *
      generalize l.getD j zero = f at *
      go_wp2_with fail
      go_region_with (go_at_call 12; refine (WI.out _ _ _ _ p1 p2 p3 p4).mono ?_; rintro e w4 ⟨rfl, b4⟩; have K4 := Lib.hid (HS.out.drew.set b4 (z + f.z) (n + f.n)); obtain ⟨d0, d1, g0, g1⟩ := (HS.out.drew.keep b4).b.cells)
      all_goals
        go_wp2_with fail
        go_round
        case rel => exact ⟨j, by omega, rfl, by rw [HZ.out, HN.out]; exact K4.out⟩
        case measure => (simp [intOf]; done)

end Go.Proofs.Ytmbkgcmmajnidaa.Rts
