/-
  Records as values; what within, fault and Right answer, and the document's within, why and Right; nothing that was there is changed.
-/
import Derived.Test.YtfodcgipdhppmaaRecPlain
import Derived.Test.YtfodcgipdhppmaaBase
import Derived.Test.YtfodcgipdhppmaaFrameNext
namespace Go.Proofs.Ytfodcgipdhppmaa
open Go.RowKit

/-- A record as a value. -/
def recVal (r : Rp.Rec) : Value := .agg #[.int .i64 r.a, .int .i64 r.t, .string r.d]
/-- A record that memory holds: its numbers are ints, its data a string. -/
structure RecOk (r : Rp.Rec) : Prop where
  a0 : -9223372036854775808 ≤ r.a
  a1 : r.a ≤ 9223372036854775807
  t0 : -9223372036854775808 ≤ r.t
  t1 : r.t ≤ 9223372036854775807
  d1 : r.d.size ≤ 9223372036854775807

set_option maxRecDepth 100000 in
theorem within_any (n : Int) (w : World) :
    Calls Try.prog 50 #[.int .i64 n] w fun e w' => e = .returned (.bool (Rp.inB n)) ∧ w = w' := by
  by_cases h0 : 0 ≤ n
  · by_cases h1 : n ≤ 1099511627776
    · rw [Rp.inB_mk h0 h1]
      go_enter Try.func50, Try.ntmps50
      go_wp2_with fail
      go_ret
      exact ⟨rfl, rfl⟩
    · rw [Rp.inB_no (by omega)]
      have h2 : decide (n ≤ 1099511627776) = false := by simp; omega
      clear h1
      go_enter Try.func50, Try.ntmps50
      go_wp2_with fail
      go_ret
      exact ⟨rfl, rfl⟩
  · rw [Rp.inB_no (by omega)]
    have h2 : decide (0 ≤ n) = false := by simp; omega
    clear h0
    go_enter Try.func50, Try.ntmps50
    go_wp2_with fail
    go_ret
    exact ⟨rfl, rfl⟩

set_option maxRecDepth 100000 in
theorem rwithin_any (n : Int) (w : World) :
    Calls Try.prog 45 #[.int .i64 n] w fun e w' => e = .returned (.bool (Rp.inB n)) ∧ w = w' := by
  by_cases h0 : 0 ≤ n
  · by_cases h1 : n ≤ 1099511627776
    · rw [Rp.inB_mk h0 h1]
      go_enter Try.func45, Try.ntmps45
      go_wp2_with fail
      go_ret
      exact ⟨rfl, rfl⟩
    · rw [Rp.inB_no (by omega)]
      have h2 : decide (n ≤ 1099511627776) = false := by simp; omega
      clear h1
      go_enter Try.func45, Try.ntmps45
      go_wp2_with fail
      go_ret
      exact ⟨rfl, rfl⟩
  · rw [Rp.inB_no (by omega)]
    have h2 : decide (0 ≤ n) = false := by simp; omega
    clear h0
    go_enter Try.func45, Try.ntmps45
    go_wp2_with fail
    go_ret
    exact ⟨rfl, rfl⟩

set_option maxRecDepth 100000 in
set_option maxHeartbeats 800000 in
theorem fault_any (r : Rp.Rec) (w : World) (hd : r.d.size ≤ 9223372036854775807) :
    Calls Try.prog 42 #[recVal r] w fun e w' => e = .returned (.int .i64 (Rp.fault r)) ∧ Below w.heap.size w w' := by
  have C1 := Lib.hid fun W : World => within_any r.a W
  have C2 := Lib.hid fun W : World => within_any r.t W
  have F1 := Lib.hid (@Rp.fault_a r)
  have F2 := Lib.hid (@Rp.fault_t r)
  have F3 := Lib.hid (@Rp.fault_d r)
  have F4 := Lib.hid (@Rp.fault_ok r)
  unfold recVal
  rcases h1 : Rp.inB r.a with _ | _
  · rw [h1] at C1
    have HF := Lib.hid (F1.out h1)
    clear h1
    go_enter Try.func42, Try.ntmps42
    go_wp2_with fail
    refine (C1.out _).mono ?_
    rintro e w' ⟨rfl, rfl⟩
    go_wp2_with fail
    go_ret
    exact ⟨by rw [HF.out]; rfl, (Below.refl _ _).alloc (Nat.le_refl _) _⟩
  have H1 := Lib.hid h1
  rw [h1] at C1
  clear h1
  rcases h2 : Rp.inB r.t with _ | _
  · rw [h2] at C2
    have HF := Lib.hid (F2.out h2)
    clear h2
    go_enter Try.func42, Try.ntmps42
    go_wp2_with fail
    refine (C1.out _).mono ?_
    rintro e w' ⟨rfl, rfl⟩
    go_wp2_with fail
    refine (C2.out _).mono ?_
    rintro e w' ⟨rfl, rfl⟩
    go_wp2_with fail
    go_ret
    exact ⟨by rw [HF.out]; rfl, (Below.refl _ _).alloc (Nat.le_refl _) _⟩
  have H2 := Lib.hid h2
  rw [h2] at C2
  clear h2
  by_cases h3 : 64 < (r.d.size : Int)
  · have HF := Lib.hid (F3.out H1.out H2.out (by omega))
    go_enter Try.func42, Try.ntmps42
    go_wp2_with fail
    refine (C1.out _).mono ?_
    rintro e w' ⟨rfl, rfl⟩
    go_wp2_with fail
    refine (C2.out _).mono ?_
    rintro e w' ⟨rfl, rfl⟩
    go_wp2_with fail
    go_ret
    exact ⟨by rw [HF.out]; rfl, (Below.refl _ _).alloc (Nat.le_refl _) _⟩
  · have HF := Lib.hid (F4.out H1.out H2.out (by omega))
    go_enter Try.func42, Try.ntmps42
    go_wp2_with fail
    refine (C1.out _).mono ?_
    rintro e w' ⟨rfl, rfl⟩
    go_wp2_with fail
    refine (C2.out _).mono ?_
    rintro e w' ⟨rfl, rfl⟩
    go_wp2_with fail
    go_ret
    exact ⟨by rw [HF.out]; rfl, (Below.refl _ _).alloc (Nat.le_refl _) _⟩
end Go.Proofs.Ytfodcgipdhppmaa
