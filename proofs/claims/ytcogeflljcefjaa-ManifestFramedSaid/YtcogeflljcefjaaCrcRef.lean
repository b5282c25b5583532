/-
  What the document's On, Sum and Four answer.
-/
import Derived.Test.YtcogeflljcefjaaCrcPlain
import Derived.Test.YtcogeflljcefjaaProg
import Derived.WalkKit
import Derived.WalkSpells
import Derived.Lib.Hide
import Derived.Laws.IdiomStrings
import Derived.Outline
namespace Go.Proofs.Ytcogeflljcefjaa
open Go.RowKit Go.Lib

theorem turn_xor {x : Nat} (h : x < 4294967296) : 4294967295 ^^^ x = Cp.turn x := by
  unfold Cp.turn
  apply Nat.eq_of_testBit_eq
  intro i
  have h1 := Nat.testBit_two_pow_sub_succ (n := 32) (x := x) (by omega) i
  have e : 2 ^ 32 - (x + 1) = 4294967295 - x := by omega
  rw [e] at h1
  rw [h1, Nat.testBit_xor, show 4294967295 = 2 ^ 32 - 1 from rfl, Nat.testBit_two_pow_sub_one]
  rcases Nat.lt_or_ge i 32 with hi | hi
  · simp [hi]
  · have : x.testBit i = false := Nat.testBit_lt_two_pow (Nat.lt_of_lt_of_le (show x < 2 ^ 32 from h) (Nat.pow_le_pow_right (by omega) hi))
    simp [this]
theorem turn_bits {x : Nat} (h : x < 4294967296) : bits .xor .u32 IntKind.u32.max (x : Int) = (Cp.turn x : Nat) := by
  rw [← turn_xor h]
  exact u32_xor_nat 4294967295 x (by omega) h

theorem bit_odd {x : Nat} (h : x < 4294967296) (ho : x % 2 = 1) : bits .xor .u32 ((x : Int) / 2) 2197175160 = (Cp.bit x : Nat) := by
  unfold Cp.bit
  rw [ho, Nat.one_mul]
  exact u32_xor_nat (x / 2) 2197175160 (by omega) (by omega)
theorem bit_even {x : Nat} (ho : ¬ x % 2 = 1) : Cp.bit x = x / 2 := by
  unfold Cp.bit
  rw [show x % 2 = 0 from by omega, Nat.zero_mul, Nat.xor_zero]

theorem on_snoc (x : Nat) (s : ByteArray) (k : Nat) (h : k < s.size) : Cp.on x (s.data.toList.take (k + 1)) = Cp.byte (Cp.on x (s.data.toList.take k)) s[k] := by
  rw [List.take_succ_eq_append_getElem (by simpa using h), Cp.on_append]; rfl

set_option maxRecDepth 100000 in
set_option maxHeartbeats 400000 in
theorem ron_any (x : Nat) (s : ByteArray) (w : World) (hx : x < 4294967296) (hs : s.size ≤ maxLen) :
    Calls Try.prog 35 #[.int .u32 (x : Int), .string s] w fun e w' => e = .returned (.int .u32 (Cp.sum x s.data.toList : Nat)) ∧ w = w' := by
  unfold maxLen at hs
  have ht := turn_bits hx
  have htl := Cp.turn_lt x
  obtain ⟨T, hT⟩ : ∃ T, Cp.turn x = T := ⟨_, rfl⟩
  rw [hT] at ht htl
  have HT := Lib.hid hT
  clear hT
  have HB := Lib.hid ht
  clear ht
  go_enter Try.func35, Try.ntmps35
  go_wp2
  go_loop [5, 6] (fun a i => ∃ k : Nat, k ≤ s.size ∧ i = .int .i64 k ∧ a = .int .u32 (Cp.on T (s.data.toList.take k) : Nat)) (fun _ i => s.size - (intOf i).toNat)
  case atStart => exact ⟨0, Nat.zero_le _, rfl, congrArg (Value.int .u32) HB.out⟩
  case round =>
    obtain ⟨k, hk, rfl, rfl⟩ := hrel
    have hX := Cp.on_lt (s.data.toList.take k) htl
    obtain ⟨X, hXe⟩ : ∃ X, Cp.on T (s.data.toList.take k) = X := ⟨_, rfl⟩
    have HX := Lib.hid hXe
    rw [hXe] at hX ⊢
    clear hXe
    by_cases hlt : k < s.size
    · have HS := Lib.hid (on_snoc T s k hlt)
      have hb := s[k].toNat_lt
      have hxor := u32_xor_nat X s[k].toNat (by omega) (by omega)
      go_wp2
      obtain ⟨Y, hYe⟩ : ∃ Y, X ^^^ s[k].toNat = Y := ⟨_, rfl⟩
      have hY : Y < 4294967296 := by rw [← hYe]; exact Nat.xor_lt_two_pow (show X < 2 ^ 32 from hX) (by omega)
      have HY := Lib.hid hYe
      rw [hYe]
      clear hxor hYe hb
      go_loop [5, 7] (fun a j => ∃ i : Nat, i ≤ 8 ∧ j = .int .i64 i ∧ a = .int .u32 (Cp.bitN i Y : Nat)) (fun _ j => 8 - (intOf j).toNat)
      case atStart => exact ⟨0, Nat.zero_le _, rfl, rfl⟩
      case round =>
        obtain ⟨i, hi, rfl, rfl⟩ := hrel
        have hZ := Cp.bitN_lt i hY
        have HN := Lib.hid (Cp.bitN_succ' i Y)
        by_cases hi8 : i < 8
        · obtain ⟨Z, hZe⟩ : ∃ Z, Cp.bitN i Y = Z := ⟨_, rfl⟩
          rw [hZe] at hZ HN ⊢
          clear hZe
          by_cases hodd : Z % 2 = 1
          · have hbit := bit_odd hZ hodd
            have hodd' : ((Z : Int) % 2 == 1) = true := by simp; omega
            clear hodd
            go_wp2
            go_round
            case rel => exact ⟨i + 1, by omega, by go_num, by rw [HN.out]⟩
            case measure => simp [intOf]; omega
          · have hbit := Lib.hid (bit_even hodd)
            have hodd' : ((Z : Int) % 2 == 1) = false := by simp; omega
            clear hodd
            go_wp2
            go_round
            case rel => exact ⟨i + 1, by omega, by go_num, by rw [HN.out, hbit.out]; go_num⟩
            case measure => simp [intOf]; omega
        · have hi' : i = 8 := by omega
          subst hi'
          go_wp2
          go_round
          case rel => exact ⟨k + 1, by omega, by go_num, by rw [HS.out, HX.out, ← HY.out]; rfl⟩
          case measure => simp [intOf]; omega
    · have hlen : k = s.size := by omega
      have HR := Lib.hid hlen
      clear hlen
      go_wp2
      go_ret
      refine ⟨?_, rfl⟩
      refine congrArg (fun z => Ending.returned (.int .u32 z)) ?_
      rw [turn_bits hX, ← HX.out, ← HT.out, HR.out]
      unfold Cp.sum
      rw [List.take_of_length_le (by simp)]

end Go.Proofs.Ytcogeflljcefjaa
