/-
  What FoldTells answers: true, whatever it is given; nothing that was there is changed.
-/
import Derived.Test.YtndfpbolneofmaaLaw05A
import Derived.Test.YtndfpbolneofmaaFoldRstep
namespace Go.Proofs.Ytndfpbolneofmaa
open Go.RowKit

theorem OwnOut.is {w w' : World} {base : Nat} {l : List Fp.Pr} {e : Ending} (h : OwnOut w base l e w') (hu : Fp.Up l) (hb : ∀ p ∈ l, p.v.size ≤ 9223372036854775807) : ∃ v, e = .returned v ∧ IsPrs w' v l ∧ Below base w w' := by
  obtain ⟨v, he, ho, hbel⟩ := h
  exact ⟨v, he, own_is ho hu hb, hbel⟩

set_option maxRecDepth 100000 in
set_option maxHeartbeats 800000 in
theorem tells5_many (v : Value) (l : List Fp.Pr) (s : ByteArray) (w : World) (hi : IsPrs w v l) (h : fewP l = false) :
    Calls Try.prog 3 #[v, .string s] w fun e w' => e = .returned (.bool true) ∧ Below w.heap.size w w' := by
  have C := pfew_any v l w hi
  rw [h] at C
  have C := Lib.hid C
  obtain ⟨a, cap, rfl, _, _, _⟩ := hi
  generalize l.length = len at *
  clear h
  go_enter Try.func3, Try.ntmps3
  go_wp2_with fail
  refine C.out.mono ?_
  rintro e w1 ⟨rfl, rfl⟩
  go_wp2_with fail
  refine (awake05 _).mono ?_
  rintro e w3 ⟨rfl, hbel⟩
  go_wp2_with fail
  go_ret
  exact ⟨rfl, hbel⟩

set_option maxRecDepth 100000 in
set_option maxHeartbeats 800000 in
theorem tells5_long (v : Value) (l : List Fp.Pr) (s : ByteArray) (w : World) (hi : IsPrs w v l) (h : fewP l = true) (hs : 64 < (s.size : Int)) :
    Calls Try.prog 3 #[v, .string s] w fun e w' => e = .returned (.bool true) ∧ Below w.heap.size w w' := by
  have C := pfew_any v l w hi
  rw [h] at C
  have C := Lib.hid C
  obtain ⟨a, cap, rfl, _, _, _⟩ := hi
  generalize l.length = len at *
  clear h
  go_enter Try.func3, Try.ntmps3
  go_wp2_with fail
  refine C.out.mono ?_
  rintro e w1 ⟨rfl, rfl⟩
  go_wp2_with fail
  refine (awake05 _).mono ?_
  rintro e w3 ⟨rfl, hbel⟩
  go_wp2_with fail
  go_ret
  exact ⟨rfl, hbel⟩

set_option maxRecDepth 100000 in
set_option maxHeartbeats 1600000 in
theorem tells5_none (v : Value) (l : List Fp.Pr) (s : ByteArray) (w : World) (hi : IsPrs w v l) (h : fewP l = true) (hs : (s.size : Int) ≤ 64) (hst : Fp.stB l = false) :
    Calls Try.prog 3 #[v, .string s] w fun e w' => e = .returned (.bool true) ∧ Below w.heap.size w w' := by
  have C := pfew_any v l w hi
  rw [h] at C
  have C := Lib.hid C
  have R1 := fun W : World => fright_any v l W
  have R2 := fun W : World => rfright_any v l W
  rw [hst] at R1 R2
  have R1 := Lib.hid R1
  have R2 := Lib.hid R2
  have HI := Lib.hid hi
  obtain ⟨a, cap, rfl, _, _, _⟩ := hi
  generalize l.length = len at *
  clear h hst
  have h4 : decide (64 < (s.size : Int)) = false := by simp; omega
  clear hs
  go_enter Try.func3, Try.ntmps3
  go_wp2_with fail
  refine C.out.mono ?_
  rintro e w1 ⟨rfl, rfl⟩
  go_wp2_with fail
  refine (R1.out _ HI.out).mono ?_
  rintro e w1 ⟨rfl, b1⟩
  have I1 := Lib.hid (HI.out.below b1 (Nat.le_refl _))
  have B1 := Lib.hid b1
  clear b1
  go_wp2_with fail
  refine (R2.out _ I1.out).mono ?_
  rintro e w2 ⟨rfl, b2⟩
  have I2 := Lib.hid (I1.out.below b2 (Nat.le_refl _))
  have B2 := Lib.hid (bel_trans2 B1.out b2)
  clear b2
  go_wp2_with fail
  refine (awake05 _).mono ?_
  rintro e w3 ⟨rfl, b3⟩
  have I3 := Lib.hid (I2.out.below b3 (Nat.le_refl _))
  have B3 := Lib.hid (bel_trans2 B2.out b3)
  clear b3
  go_wp2_with fail
  refine (R2.out _ I3.out).mono ?_
  rintro e w4 ⟨rfl, b4⟩
  have B4 := Lib.hid (bel_trans2 B3.out b4)
  clear b4
  go_wp2_with fail
  go_ret
  exact ⟨rfl, B4.out⟩

set_option maxRecDepth 100000 in
set_option maxHeartbeats 3200000 in
theorem tells5_state (v : Value) (l : List Fp.Pr) (s : ByteArray) (w : World) (hi : IsPrs w v l) (h : fewP l = true) (hs : (s.size : Int) ≤ 64) (hst : Fp.stB l = true) :
    Calls Try.prog 3 #[v, .string s] w fun e w' => e = .returned (.bool true) ∧ Below w.heap.size w w' := by
  have C := pfew_any v l w hi
  rw [h] at C
  have C := Lib.hid C
  have R1 := fun W : World => fright_any v l W
  have R2 := fun W : World => rfright_any v l W
  rw [hst] at R1 R2
  have R1 := Lib.hid R1
  have R2 := Lib.hid R2
  have hss := Fp.stB_st hst
  have HU := Lib.hid (hss.2.step s)
  have HV := Lib.hid (step_big (m := 9223372036854775807) (l := l) (s := s) (fun p hp => by have := (hss.1 p hp).2; omega) (by omega))
  have S1 := Lib.hid fun (W : World) (hW : IsPrs W v l) => step_any v l s W hW hss.2
  have S2 := Lib.hid fun (W : World) (hW : IsPrs W v l) => rstep_any v l s W hW hss.2
  have Y1 := Lib.hid fun (W : World) (hW : IsPrs W v l) => fbytes_any v l W hW h
  have Y2 := Lib.hid fun (W : World) (hW : IsPrs W v l) => rfbytes_any v l W hW h
  generalize Fp.step l s = l2 at *
  generalize Fp.bytes l = B at *
  have HI := Lib.hid hi
  obtain ⟨a, cap, rfl, _, _, _⟩ := hi
  generalize l.length = len at *
  clear h hst hss
  have h4 : decide (64 < (s.size : Int)) = false := by simp; omega
  clear hs
  go_enter Try.func3, Try.ntmps3
  go_wp2_with fail
  refine C.out.mono ?_
  rintro e w1 ⟨rfl, rfl⟩
  go_wp2_with fail
  refine (R1.out _ HI.out).mono ?_
  rintro e w1 ⟨rfl, b1⟩
  have I1 := Lib.hid (HI.out.below b1 (Nat.le_refl _))
  have B1 := Lib.hid b1
  clear b1
  go_wp2_with fail
  refine (R2.out _ I1.out).mono ?_
  rintro e w2 ⟨rfl, b2⟩
  have I2 := Lib.hid (I1.out.below b2 (Nat.le_refl _))
  have B2 := Lib.hid (bel_trans2 B1.out b2)
  clear b2
  go_wp2_with fail
  refine (awake05 _).mono ?_
  rintro e w3 ⟨rfl, b3⟩
  have I3 := Lib.hid (I2.out.below b3 (Nat.le_refl _))
  have B3 := Lib.hid (bel_trans2 B2.out b3)
  clear b3
  go_wp2_with fail
  refine (R2.out _ I3.out).mono ?_
  rintro e w4 ⟨rfl, b4⟩
  have I4 := Lib.hid (I3.out.below b4 (Nat.le_refl _))
  have B4 := Lib.hid (bel_trans2 B3.out b4)
  clear b4
  go_wp2_with fail
  refine (S1.out _ I4.out).mono ?_
  rintro e w5 ho5
  obtain ⟨v5, rfl, p5, b5⟩ := ho5.is HU.out HV.out
  have P5 := Lib.hid p5
  have I5 := Lib.hid (I4.out.below b5 (Nat.le_refl _))
  have B5 := Lib.hid (bel_trans2 B4.out b5)
  clear b5 p5 ho5
  go_wp2_with fail
  refine (S2.out _ I5.out).mono ?_
  rintro e w6 ho6
  obtain ⟨v6, rfl, p6, b6⟩ := ho6.is HU.out HV.out
  have P6 := Lib.hid p6
  have P56 := Lib.hid (P5.out.below b6 (Nat.le_refl _))
  have I6 := Lib.hid (I5.out.below b6 (Nat.le_refl _))
  have B6 := Lib.hid (bel_trans2 B5.out b6)
  clear b6 p6 ho6
  go_wp2_with fail
  refine (fsame_yes v5 v6 _ _ P56.out P6.out).mono ?_
  rintro e w7 ⟨rfl, b7⟩
  have I7 := Lib.hid (I6.out.below b7 (Nat.le_refl _))
  have B7 := Lib.hid (bel_trans2 B6.out b7)
  clear b7
  go_wp2_with fail
  refine (Y1.out _ I7.out).mono ?_
  rintro e w8 ⟨rfl, b8⟩
  have I8 := Lib.hid (I7.out.below b8 (Nat.le_refl _))
  have B8 := Lib.hid (bel_trans2 B7.out b8)
  clear b8
  go_wp2_with fail
  refine (Y2.out _ I8.out).mono ?_
  rintro e w9 ⟨rfl, b9⟩
  have B9 := Lib.hid (bel_trans2 B8.out b9)
  clear b9
  go_wp2_with fail
  go_ret
  exact ⟨by simp, B9.out⟩

theorem tells5 (v : Value) (l : List Fp.Pr) (s : ByteArray) (w : World) (hi : IsPrs w v l) :
    Calls Try.prog 3 #[v, .string s] w fun e w' => e = .returned (.bool true) ∧ Below w.heap.size w w' := by
  rcases h : fewP l with _ | _
  · exact tells5_many v l s w hi h
  · by_cases hs : 64 < (s.size : Int)
    · exact tells5_long v l s w hi h hs
    · rcases hst : Fp.stB l with _ | _
      · exact tells5_none v l s w hi h (by omega) hst
      · exact tells5_state v l s w hi h (by omega) hst

end Go.Proofs.Ytndfpbolneofmaa
