/-
  What the document's functions that lay a name answer: the same bytes.
-/
import Derived.Test.YtgidaljhfngiaaaNameLaid
namespace Go.Proofs.Ytgidaljhfngiaaa
open Go.RowKit Go.Lib

namespace Nm
theorem conv_one (w : World) (x : Int) : (convert 28 9 (.slice (some ⟨w.heap.size, 0, none⟩) 1 1)).run Try.prog (w.alloc (.cells #[.int .u8 x] 5)) =
    .ok (.string ⟨#[UInt8.ofNat x.toNat]⟩) (w.alloc (.cells #[.int .u8 x] 5)) := by
  rw [run_convert_bytes_string _ 28 9 5 _ _ _ Try.underlying28 Try.underlying5 Try.underlying9]
  rw [run_bytesToString _ _ 1 1 [x] (run_loadCells_list _ _ [Value.int .u8 x] (fun j v hj => cell_one_new w _ _ j v hj))]
  rfl
theorem str_cons (acc : List UInt8) (b : UInt8) : ({ data := #[b] } : ByteArray) ++ { data := acc.toArray } = ⟨(b :: acc).toArray⟩ := ByteArray.mk_append_mk [b] acc
end Nm
open Nm

set_option maxRecDepth 100000 in
set_option maxHeartbeats 800000 in
theorem digits_any (n : Nat) (w : World) (h : n ≤ 1099511627776) :
    Calls Try.prog 17 #[.int .i64 n] w fun e w' => e = .returned (.string ⟨(Np.dig 13 n).toArray⟩) ∧ Below w.heap.size w w' := by
  have hc1 := conv_one
  go_enter Try.func17, Try.ntmps17
  go_wp2_with fail
  go_loopw [0, 3, 4] (fun a s i wr => ∃ (k m : Nat) (l : List UInt8), k ≤ 13 ∧ m ≤ 1099511627776 ∧ l.length ≤ 13 ∧ a = .int .i64 m ∧ s = .string ⟨l.toArray⟩ ∧ i = .int .i64 k ∧ l = Np.dig k n ∧ m = n / 10 ^ k ∧ Below w.heap.size w wr)
    (fun _ _ i _ => 13 - (intOf i).toNat)
  case atStart => exact ⟨0, n, [], by omega, h, by simp, rfl, rfl, rfl, rfl, by simp, Below.refl _ _⟩
  case round =>
    obtain ⟨k, m, l, hk, hm, hl, rfl, rfl, rfl, hle, hme, hb⟩ := hrel
    have HL := Lib.hid hle
    have HM := Lib.hid hme
    clear hle hme
    by_cases h13 : k < 13
    · have hb1 : ({ data := #[0] } : ByteArray).size ≤ 4 := by decide
      go_wp2
      go_roundw
      case rel =>
        refine ⟨k + 1, m / 10, Np.dig (k + 1) n, by omega, by omega, by rw [Np.dig_len]; omega, by go_num, ?_, by go_num, rfl, ?_, hb.alloc hb.size _⟩
        · rw [str_cons, HL.out, Np.dig_cons, ← HM.out]
          refine congrArg (fun b : UInt8 => Value.string ⟨(b :: Np.dig k n).toArray⟩) ?_
          rw [UInt8.ofNat_add]
          rfl
        · rw [HM.out, Nat.div_div_eq_div_mul, Nat.pow_succ]
      case measure => simp [intOf]; omega
    · obtain rfl : k = 13 := by omega
      go_wp2
      go_ret
      exact ⟨by rw [HL.out]; rfl, hb⟩

set_option maxRecDepth 100000 in
set_option maxHeartbeats 400000 in
theorem rseg_any (n : Int) (w : World) (h1 : -9223372036854775808 ≤ n) :
    Calls Try.prog 10 #[.int .i64 n] w fun e w' => e = .returned (.string ⟨(Np.nameL 115 n).toArray⟩) ∧ Below w.heap.size w w' := by
  by_cases h : 0 ≤ n ∧ n ≤ 1099511627776
  · obtain ⟨n, rfl⟩ : ∃ k : Nat, n = (k : Int) := ⟨n.toNat, by omega⟩
    have hn : n ≤ 1099511627776 := by omega
    rw [nameL_yes hn]
    have C1 := fun W : World => digits_any n W hn
    have hl := Np.dig_len 13 n
    generalize Np.dig 13 n = l at *
    have hl2 : l.length ≤ 13 := by omega
    have C1 := Lib.hid C1
    have hs : ({ data := #[115] } : ByteArray) ++ { data := l.toArray } = ⟨(115 :: l).toArray⟩ := str_cons l 115
    have HS := Lib.hid hs
    clear h hl hs
    go_enter Try.func10, Try.ntmps10
    go_wp2_with fail
    refine (C1.out _).mono ?_
    rintro e w1 ⟨rfl, b1⟩
    go_wp2_with fail
    go_ret
    exact ⟨by rw [← HS.out]; rfl, b1⟩
  · rw [nameL_no h]
    by_cases h0 : n < 0
    · clear h
      go_enter Try.func10, Try.ntmps10
      go_wp2_with fail
      go_ret
      exact ⟨rfl, Below.refl _ _⟩
    · have h2 : 1099511627776 < n := by omega
      have h3 : decide (n < 0) = false := by simpa using h0
      clear h h0
      go_enter Try.func10, Try.ntmps10
      go_wp2_with fail
      go_ret
      exact ⟨rfl, Below.refl _ _⟩

set_option maxRecDepth 100000 in
set_option maxHeartbeats 400000 in
theorem rsnap_any (n : Int) (w : World) (h1 : -9223372036854775808 ≤ n) :
    Calls Try.prog 12 #[.int .i64 n] w fun e w' => e = .returned (.string ⟨(Np.nameL 116 n).toArray⟩) ∧ Below w.heap.size w w' := by
  by_cases h : 0 ≤ n ∧ n ≤ 1099511627776
  · obtain ⟨n, rfl⟩ : ∃ k : Nat, n = (k : Int) := ⟨n.toNat, by omega⟩
    have hn : n ≤ 1099511627776 := by omega
    rw [nameL_yes hn]
    have C1 := fun W : World => digits_any n W hn
    have hl := Np.dig_len 13 n
    generalize Np.dig 13 n = l at *
    have hl2 : l.length ≤ 13 := by omega
    have C1 := Lib.hid C1
    have hs : ({ data := #[116] } : ByteArray) ++ { data := l.toArray } = ⟨(116 :: l).toArray⟩ := str_cons l 116
    have HS := Lib.hid hs
    clear h hl hs
    go_enter Try.func12, Try.ntmps12
    go_wp2_with fail
    refine (C1.out _).mono ?_
    rintro e w1 ⟨rfl, b1⟩
    go_wp2_with fail
    go_ret
    exact ⟨by rw [← HS.out]; rfl, b1⟩
  · rw [nameL_no h]
    by_cases h0 : n < 0
    · clear h
      go_enter Try.func12, Try.ntmps12
      go_wp2_with fail
      go_ret
      exact ⟨rfl, Below.refl _ _⟩
    · have h2 : 1099511627776 < n := by omega
      have h3 : decide (n < 0) = false := by simpa using h0
      clear h h0
      go_enter Try.func12, Try.ntmps12
      go_wp2_with fail
      go_ret
      exact ⟨rfl, Below.refl _ _⟩

end Go.Proofs.Ytgidaljhfngiaaa
