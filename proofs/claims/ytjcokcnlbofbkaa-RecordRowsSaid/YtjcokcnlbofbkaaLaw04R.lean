/-
  What RecordRows answers: true, whatever it is given; nothing that was there is changed.
-/
import Derived.Test.YtjcokcnlbofbkaaLaw04O
import Derived.Test.YtjcokcnlbofbkaaRecRrow
import Derived.Test.YtjcokcnlbofbkaaRecRrows
import Derived.Test.YtjcokcnlbofbkaaRecSame
namespace Go.Proofs.Ytjcokcnlbofbkaa
open Go.RowKit

set_option maxRecDepth 100000 in
set_option maxHeartbeats 800000 in
theorem rows4_many (v : Value) (rs : List Rp.Rec) (s : ByteArray) (w : World) (hi : IsRecs w v rs) (h : fewB rs 30 = false) :
    Calls Try.prog 4 #[v, .string s] w fun e w' => e = .returned (.bool true) ∧ Below w.heap.size w w' := by
  have C := few_any v rs 30 w (by omega) hi
  rw [h] at C
  have C := Lib.hid C
  obtain ⟨a, cap, rfl, _, _, _⟩ := hi
  generalize rs.length = len at *
  clear h
  go_enter Try.func4, Try.ntmps4
  go_wp2_with fail
  refine C.out.mono ?_
  rintro e w1 ⟨rfl, rfl⟩
  go_wp2_with fail
  refine (awake04 _).mono ?_
  rintro e w3 ⟨rfl, hbel⟩
  go_wp2_with fail
  go_ret
  exact ⟨rfl, hbel⟩

set_option maxRecDepth 100000 in
set_option maxHeartbeats 800000 in
theorem rows4_long (v : Value) (rs : List Rp.Rec) (s : ByteArray) (w : World) (hi : IsRecs w v rs) (h : fewB rs 30 = true) (hs : 2000 < (s.size : Int)) :
    Calls Try.prog 4 #[v, .string s] w fun e w' => e = .returned (.bool true) ∧ Below w.heap.size w w' := by
  have C := few_any v rs 30 w (by omega) hi
  rw [h] at C
  have C := Lib.hid C
  obtain ⟨a, cap, rfl, _, _, _⟩ := hi
  generalize rs.length = len at *
  clear h
  go_enter Try.func4, Try.ntmps4
  go_wp2_with fail
  refine C.out.mono ?_
  rintro e w1 ⟨rfl, rfl⟩
  go_wp2_with fail
  refine (awake04 _).mono ?_
  rintro e w3 ⟨rfl, hbel⟩
  go_wp2_with fail
  go_ret
  exact ⟨rfl, hbel⟩

set_option maxRecDepth 100000 in
set_option maxHeartbeats 1600000 in
theorem rows4_short (v : Value) (rs : List Rp.Rec) (s : ByteArray) (w : World) (hi : IsRecs w v rs) (h : fewB rs 30 = true) (hs : (s.size : Int) ≤ 2000) :
    Calls Try.prog 4 #[v, .string s] w fun e w' => e = .returned (.bool true) ∧ Below w.heap.size w w' := by
  have C := few_any v rs 30 w (by omega) hi
  rw [h] at C
  have C := Lib.hid C
  have hl := fewB_le h
  have R1 := recrow_any v rs w hi (by omega)
  have R2 := fun (W : World) (hW : IsRecs W v rs) => rrecrow_any v rs W hW (by omega)
  have C1 := Lib.hid fun W : World => recrows_any s W (by omega) (by omega)
  have C2 := Lib.hid fun W : World => rrecrows_any s W (by omega) (by omega)
  unfold RowsOut at C1 C2
  generalize Rp.rows s.data.toList = q at C1 C2
  obtain ⟨ms, n, er⟩ := q
  unfold rowVal at R1 R2
  generalize (Rp.row rs).1 = B at *
  generalize (Rp.row rs).2 = f at *
  have R1 := Lib.hid R1
  have R2 := Lib.hid R2
  have HI := Lib.hid hi
  obtain ⟨a, cap, rfl, _, _, _⟩ := hi
  generalize rs.length = len at *
  clear h hl
  have h4 : decide (2000 < (s.size : Int)) = false := by simp; omega
  clear hs
  go_enter Try.func4, Try.ntmps4
  go_wp2_with fail
  refine C.out.mono ?_
  rintro e w1 ⟨rfl, rfl⟩
  go_wp2_with fail
  refine R1.out.mono ?_
  rintro e w1 ⟨rfl, b1⟩
  go_wp2_with fail
  refine (R2.out _ (HI.out.below b1 (Nat.le_refl _))).mono ?_
  rintro e w2 ⟨rfl, b2⟩
  go_wp2_with fail
  refine (C1.out _).mono ?_
  rintro e w3 ⟨v3, rfl, i3, b3⟩
  have I3 := Lib.hid i3
  clear i3
  go_wp2_with fail
  refine (C2.out _).mono ?_
  rintro e w4 ⟨v4, rfl, i4, b4⟩
  have I4 := Lib.hid i4
  clear i4
  go_wp2_with fail
  refine (awake04 _).mono ?_
  rintro e w5 ⟨rfl, b5⟩
  go_wp2_with fail
  refine (recsame_yes v3 v4 _ _ ((I3.out.below b4 (Nat.le_refl _)).below b5 (Nat.le_refl _)) (I4.out.below b5 (Nat.le_refl _))).mono ?_
  rintro e w6 ⟨rfl, n6, rfl⟩
  go_wp2_with fail
  go_ret
  exact ⟨rfl, bel_trans2 (bel_trans2 (bel_trans2 (bel_trans2 (bel_trans2 b1 b2) b3) b4) b5) (below_drewN n6)⟩

theorem rows4 (v : Value) (rs : List Rp.Rec) (s : ByteArray) (w : World) (hi : IsRecs w v rs) :
    Calls Try.prog 4 #[v, .string s] w fun e w' => e = .returned (.bool true) ∧ Below w.heap.size w w' := by
  rcases h : fewB rs 30 with _ | _
  · exact rows4_many v rs s w hi h
  · by_cases hs : 2000 < (s.size : Int)
    · exact rows4_long v rs s w hi h hs
    · exact rows4_short v rs s w hi h (by omega)

end Go.Proofs.Ytjcokcnlbofbkaa
