/-
  What FrameAll answers: true, whatever it is given; nothing that was there is changed.
-/
import Derived.Test.YtnkgbmfpfdadjaaLaw03T
import Derived.Test.YtnkgbmfpfdadjaaFrameAlls
import Derived.Test.YtnkgbmfpfdadjaaSame
namespace Go.Proofs.Ytnkgbmfpfdadjaa
open Go.RowKit

set_option maxRecDepth 100000 in
set_option maxHeartbeats 800000 in
theorem all3_long (s : ByteArray) (w : World) (h : 2000 < (s.size : Int)) :
    Calls Try.prog 4 #[.string s] w fun e w' => e = .returned (.bool true) ∧ Below w.heap.size w w' := by
  go_enter Try.func4, Try.ntmps4
  go_wp2_with fail
  refine (awake03 _).mono ?_
  rintro e w3 ⟨rfl, hbel⟩
  go_wp2_with fail
  go_ret
  exact ⟨rfl, hbel⟩

/-- Of the same texts Same tells so. -/
theorem same_yes (v1 v2 : Value) (ss : List ByteArray) (w : World) (h1 : IsStrs w v1 ss) (h2 : IsStrs w v2 ss) :
    Calls Try.prog 17 #[v1, v2] w fun e w' => e = .returned (.bool true) ∧ ∃ n, w' = w.drewN n := by
  have := same_any v1 v2 ss ss w h1 h2
  rw [decide_eq_true rfl] at this
  exact this

set_option maxRecDepth 100000 in
set_option maxHeartbeats 800000 in
theorem all3_short (s : ByteArray) (w : World) (h : (s.size : Int) ≤ 2000) :
    Calls Try.prog 4 #[.string s] w fun e w' => e = .returned (.bool true) ∧ Below w.heap.size w w' := by
  have C1 := Lib.hid fun W : World => all_any s W (by omega) (by omega)
  have C2 := Lib.hid fun W : World => rall_any s W (by omega) (by omega)
  unfold AllOut at C1 C2
  generalize Fr.all s.data.toList = r at C1 C2
  obtain ⟨bs, n, er⟩ := r
  go_enter Try.func4, Try.ntmps4
  go_wp2_with fail
  refine (C1.out _).mono ?_
  rintro e w1 ⟨v1, rfl, i1, b1⟩
  have I1 := Lib.hid i1
  clear i1
  go_wp2_with fail
  refine (C2.out _).mono ?_
  rintro e w2 ⟨v2, rfl, i2, b2⟩
  have I2 := Lib.hid i2
  clear i2
  go_wp2_with fail
  refine (awake03 _).mono ?_
  rintro e w3 ⟨rfl, b3⟩
  go_wp2_with fail
  refine (same_yes v1 v2 _ _ ((I1.out.below b2 (Nat.le_refl _)).below b3 (Nat.le_refl _)) (I2.out.below b3 (Nat.le_refl _))).mono ?_
  rintro e w4 ⟨rfl, n4, rfl⟩
  go_wp2_with fail
  go_ret
  exact ⟨rfl, bel_trans2 (bel_trans2 (bel_trans2 b1 b2) b3) (below_drewN n4)⟩

end Go.Proofs.Ytnkgbmfpfdadjaa
