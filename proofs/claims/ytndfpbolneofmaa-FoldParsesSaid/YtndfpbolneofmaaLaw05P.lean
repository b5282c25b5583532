/-
  What FoldParses answers: true, whatever it is given; nothing that was there is changed.
-/
import Derived.Test.YtndfpbolneofmaaLaw05A
import Derived.Test.YtndfpbolneofmaaFoldRparse
namespace Go.Proofs.Ytndfpbolneofmaa
open Go.RowKit

set_option maxRecDepth 100000 in
set_option maxHeartbeats 800000 in
theorem parses5_long (s : ByteArray) (w : World) (hs : 2000 < (s.size : Int)) :
    Calls Try.prog 4 #[.string s] w fun e w' => e = .returned (.bool true) ∧ Below w.heap.size w w' := by
  go_enter Try.func4, Try.ntmps4
  go_wp2_with fail
  refine (awake05 _).mono ?_
  rintro e w3 ⟨rfl, hbel⟩
  go_wp2_with fail
  go_ret
  exact ⟨rfl, hbel⟩

set_option maxRecDepth 100000 in
set_option maxHeartbeats 1600000 in
theorem parses5_short (s : ByteArray) (w : World) (hs : (s.size : Int) ≤ 2000) :
    Calls Try.prog 4 #[.string s] w fun e w' => e = .returned (.bool true) ∧ Below w.heap.size w w' := by
  have C1 := fun W : World => fparse_any s W (by omega)
  have C2 := fun W : World => rfparse_any s W (by omega)
  unfold ParseOut at C1 C2
  generalize (Fp.parse s.data.toList).getD [] = l at C1 C2
  generalize (Fp.parse s.data.toList).isSome = b at C1 C2
  have C1 := Lib.hid C1
  have C2 := Lib.hid C2
  go_enter Try.func4, Try.ntmps4
  go_wp2_with fail
  refine (C1.out _).mono ?_
  rintro e w1 ⟨v1, rfl, i1, b1⟩
  have I1 := Lib.hid i1
  clear i1
  go_wp2_with fail
  refine (C2.out _).mono ?_
  rintro e w2 ⟨v2, rfl, i2, b2⟩
  have I2 := Lib.hid i2
  clear i2
  go_wp2_with fail
  refine (awake05 _).mono ?_
  rintro e w3 ⟨rfl, b3⟩
  go_wp2_with fail
  refine (fsame_yes v1 v2 _ _ ((I1.out.below b2 (Nat.le_refl _)).below b3 (Nat.le_refl _)) (I2.out.below b3 (Nat.le_refl _))).mono ?_
  rintro e w4 ⟨rfl, b4⟩
  go_wp2_with fail
  go_ret
  exact ⟨by simp, bel_trans2 (bel_trans2 (bel_trans2 b1 b2) b3) b4⟩

theorem parses5 (s : ByteArray) (w : World) : Calls Try.prog 4 #[.string s] w fun e w' => e = .returned (.bool true) ∧ Below w.heap.size w w' := by
  by_cases hs : 2000 < (s.size : Int)
  · exact parses5_long s w hs
  · exact parses5_short s w (by omega)

end Go.Proofs.Ytndfpbolneofmaa
