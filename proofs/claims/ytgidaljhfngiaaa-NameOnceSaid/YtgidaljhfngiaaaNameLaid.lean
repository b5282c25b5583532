/-
  What the functions of package name that lay a name, and the document's, answer: the name's bytes; nothing that was there is changed.
-/
import Derived.Test.YtgidaljhfngiaaaNamePlain
import Derived.Test.YtgidaljhfngiaaaBase
import Derived.IntWalk
import Derived.Lib.Strings
import Derived.Laws.IdiomStrings
import Derived.Deep.RegionWith
import Derived.Deep.DeepCutAuto
namespace Go.Proofs.Ytgidaljhfngiaaa
open Go.RowKit Go.Lib

namespace Nm
/-- The array when i digits of thirteen are left. -/
def nmV (c : UInt8) (n i : Nat) : Array Value := (Value.int .u8 (c.toNat : Int) :: (List.range 13).map fun j => Value.int .u8 ((if j < i then 0 else 48 + n / 10 ^ (12 - j) % 10 : Nat) : Int)).toArray
theorem nmV_size (c : UInt8) (n i : Nat) : (nmV c n i).size = 14 := by simp [nmV]
theorem nmV_zero (c : UInt8) (n i j : Nat) (h : j = 0) : (nmV c n i)[j]? = some (.int .u8 (c.toNat : Int)) := by subst h; simp [nmV]
theorem nmV_at {c : UInt8} {n i j : Nat} (hj : j < 13) : (nmV c n i)[j + 1]? = some (.int .u8 ((if j < i then 0 else 48 + n / 10 ^ (12 - j) % 10 : Nat) : Int)) := by
  unfold nmV
  rw [List.getElem?_toArray, List.getElem?_cons_succ, List.getElem?_map, List.getElem?_range hj]; rfl
theorem nmV_step {c : UInt8} {n i : Nat} (hi : i < 13) : (nmV c n (i + 1)).setIfInBounds (i + 1) (.int .u8 ((48 + n / 10 ^ (12 - i) % 10 : Nat) : Int)) = nmV c n i := by
  apply Array.ext_getElem?
  intro j
  rw [Array.getElem?_setIfInBounds, nmV_size]
  rcases Nat.eq_zero_or_pos j with h0 | h0
  · rw [if_neg (by omega), nmV_zero _ _ _ _ h0, nmV_zero _ _ _ _ h0]
  · obtain ⟨j, rfl⟩ : ∃ k, j = k + 1 := ⟨j - 1, by omega⟩
    rcases Nat.lt_or_ge j 13 with hj | hj
    · rw [nmV_at hj, nmV_at hj]
      by_cases e : i + 1 = j + 1
      · have : i = j := by omega
        subst this
        rw [if_pos rfl, if_pos (by omega), if_neg (by omega)]
      · rw [if_neg e]
        by_cases h : j < i
        · rw [if_pos h, if_pos (by omega)]
        · rw [if_neg h, if_neg (by omega)]
    · have hz : ∀ k, (nmV c n k)[j + 1]? = none := fun k => Array.getElem?_eq_none (by rw [nmV_size]; omega)
      rw [if_neg (by omega), hz, hz]

theorem dig_get : ∀ (k n j : Nat), j < k → (Np.dig k n)[j]? = some (UInt8.ofNat (48 + n / 10 ^ (k - 1 - j) % 10)) := by
  intro k
  induction k with
  | zero => intro n j h; omega
  | succ k ih =>
    intro n j h
    rw [Np.dig_cons]
    cases j with
    | zero => simp
    | succ j => rw [List.getElem?_cons_succ, ih n j (by omega), show k - 1 - j = k + 1 - 1 - (j + 1) from by omega]

def cellsOf (l : List UInt8) : Array Value := (l.map fun b => Value.int .u8 (b.toNat : Int)).toArray
theorem nmV_done (c : UInt8) (n : Nat) : nmV c n 0 = cellsOf (c :: Np.dig 13 n) := by
  apply Array.ext_getElem?
  intro j
  unfold cellsOf
  rcases Nat.eq_zero_or_pos j with h0 | h0
  · subst h0; rw [nmV_zero _ _ _ _ rfl]; simp
  · obtain ⟨j, rfl⟩ : ∃ k, j = k + 1 := ⟨j - 1, by omega⟩
    have e : (List.map (fun b : UInt8 => Value.int .u8 (b.toNat : Int)) (c :: Np.dig 13 n)).toArray[j + 1]? = (Np.dig 13 n)[j]?.map fun b => Value.int .u8 (b.toNat : Int) := by simp
    rw [e]
    rcases Nat.lt_or_ge j 13 with hj | hj
    · rw [nmV_at hj, dig_get 13 n j hj, if_neg (by omega), Option.map_some, Np.digit, show 13 - 1 - j = 12 - j from by omega]
    · rw [Array.getElem?_eq_none (by rw [nmV_size]; omega), List.getElem?_eq_none (by rw [Np.dig_len]; omega)]; rfl

theorem conv_nm (w : World) (l : List UInt8) (T : TypeId) (hl : l.length = 14) : (convert 28 9 (.slice (some ⟨w.heap.size, 0, none⟩) 14 14)).run Try.prog (w.alloc (.cells (cellsOf l) T)) = .ok (.string ⟨l.toArray⟩) (w.alloc (.cells (cellsOf l) T)) := by
  have := run_convert_bytes_back (P := Try.prog) (w.alloc (.cells (cellsOf l) T)) 28 9 5 ⟨w.heap.size, 0, none⟩ 14 l Try.underlying28 Try.underlying5 Try.underlying9 (fun j hj => by
    rw [addr_plain, cell_of_row _ _ _ _ _ _ (heap_alloc_new w _)]
    simp [cellsOf, hj])
  rw [hl] at this
  exact this
end Nm
open Nm

set_option maxRecDepth 100000 in
set_option maxHeartbeats 400000 in
theorem mayBe_any (n : Int) (w : World) : Calls Try.prog 18 #[.int .i64 n] w fun e w' => e = .returned (.bool (decide (0 ≤ n ∧ n ≤ 1099511627776))) ∧ w = w' := by
  by_cases h0 : 0 ≤ n
  · by_cases h1 : n ≤ 1099511627776
    · rw [decide_eq_true (⟨h0, h1⟩ : 0 ≤ n ∧ n ≤ 1099511627776)]
      go_enter Try.func18, Try.ntmps18
      go_wp2
      go_ret
      exact ⟨rfl, rfl⟩
    · rw [decide_eq_false (fun h : 0 ≤ n ∧ n ≤ 1099511627776 => h1 h.2)]
      have h2 : 1099511627776 < n := by omega
      go_enter Try.func18, Try.ntmps18
      go_wp2
      go_ret
      exact ⟨rfl, rfl⟩
  · rw [decide_eq_false (fun h : 0 ≤ n ∧ n ≤ 1099511627776 => h0 h.1)]
    have h2 : n < 0 := by omega
    go_enter Try.func18, Try.ntmps18
    go_wp2
    go_ret
    exact ⟨rfl, rfl⟩

theorem nameL_no {c : UInt8} {n : Int} (h : ¬ (0 ≤ n ∧ n ≤ 1099511627776)) : Np.nameL c n = [] := by unfold Np.nameL; rw [if_neg h]
theorem nameL_yes {c : UInt8} {n : Nat} (h : n ≤ 1099511627776) : Np.nameL c (n : Int) = c :: Np.dig 13 n := by
  unfold Np.nameL; rw [if_pos ⟨by omega, by omega⟩]; simp

set_option maxRecDepth 100000 in
set_option maxHeartbeats 400000 in
theorem laid_no (c : Int) (n : Int) (w : World) (h : ¬ (0 ≤ n ∧ n ≤ 1099511627776)) :
    Calls Try.prog 16 #[.int .u8 c, .int .i64 n] w fun e w' => e = .returned (.string ⟨#[]⟩) ∧ Below w.heap.size w w' := by
  have C1 := mayBe_any n
  rw [decide_eq_false h] at C1
  have C1 := Lib.hid C1
  clear h
  go_enter Try.func16, Try.ntmps16
  go_wp2_with fail
  refine (C1.out _).mono ?_
  rintro e w1 ⟨rfl, rfl⟩
  go_wp2_with fail
  go_ret
  exact ⟨rfl, Below.refl _ _⟩

theorem nm_div (n k : Nat) (hk : k < 13) : n / 10 ^ (12 - k) / 10 = n / 10 ^ (13 - k) := by
  rw [Nat.div_div_eq_div_mul, show 13 - k = 12 - k + 1 from by omega, Nat.pow_succ]

set_option maxRecDepth 100000 in
set_option maxHeartbeats 800000 in
theorem laid_yes (c : UInt8) (n : Nat) (w : World) (h : n ≤ 1099511627776) :
    Calls Try.prog 16 #[.int .u8 (c.toNat : Int), .int .i64 n] w fun e w' => e = .returned (.string ⟨(c :: Np.dig 13 n).toArray⟩) ∧ Below w.heap.size w w' := by
  have C1 := mayBe_any (n : Int)
  rw [decide_eq_true (⟨by omega, by omega⟩ : (0 : Int) ≤ n ∧ (n : Int) ≤ 1099511627776)] at C1
  have C1 := Lib.hid C1
  have hb := c.toNat_lt
  have hbi : (c.toNat : Int) < 256 := by omega
  go_enter Try.func16, Try.ntmps16
  go_wp2_with fail
  refine (C1.out _).mono ?_
  rintro e w1 ⟨rfl, rfl⟩
  go_wp2_with fail
  go_loopw [1, 6] (fun a i wr => ∃ k m : Nat, k ≤ 13 ∧ m ≤ 1099511627776 ∧ a = .int .i64 m ∧ i = .int .i64 k ∧ m = n / 10 ^ (13 - k) ∧ wr = w.alloc (.cells (nmV c n k) 35)) (fun _ i _ => (intOf i).toNat)
  case atStart => exact ⟨13, n, by omega, h, rfl, rfl, by simp, rfl⟩
  case round =>
    obtain ⟨k, m, hk, hm, rfl, rfl, hmn, rfl⟩ := hrel
    have HM := Lib.hid hmn
    clear hmn
    by_cases h0 : 0 < k
    · obtain ⟨k, rfl⟩ : ∃ j, k = j + 1 := ⟨k - 1, by omega⟩
      have hget : (nmV c n (k + 1))[k + 1]? = some (.int .u8 0) := by rw [nmV_at (by omega), if_pos (by omega)]; rfl
      have HT := Lib.hid (nmV_step (c := c) (n := n) (i := k) (by omega))
      go_wp2
      go_roundw
      case rel =>
        refine ⟨k, m / 10, by omega, by omega, by go_num, by go_num, ?_, ?_⟩
        · rw [HM.out, show 13 - (k + 1) = 12 - k from by omega, nm_div n k (by omega)]
        · rw [← HT.out, show 12 - k = 13 - (k + 1) from by omega, ← HM.out]
          congr 3
      case measure => simp [intOf]
    · obtain rfl : k = 0 := by omega
      have hcv := conv_nm w (c :: Np.dig 13 n) 35 (by simp [Np.dig_len])
      rw [nmV_done]
      go_wp2
      go_ret
      exact ⟨rfl, (Below.refl _ _).alloc (Nat.le_refl _) _⟩

theorem laid_any (c : UInt8) (n : Int) (w : World) (h1 : -9223372036854775808 ≤ n) :
    Calls Try.prog 16 #[.int .u8 (c.toNat : Int), .int .i64 n] w fun e w' => e = .returned (.string ⟨(Np.nameL c n).toArray⟩) ∧ Below w.heap.size w w' := by
  by_cases h : 0 ≤ n ∧ n ≤ 1099511627776
  · obtain ⟨n, rfl⟩ : ∃ k : Nat, n = (k : Int) := ⟨n.toNat, by omega⟩
    rw [nameL_yes (by omega)]
    exact laid_yes c n w (by omega)
  · rw [nameL_no h]
    exact laid_no _ n w h

set_option maxRecDepth 100000 in
set_option maxHeartbeats 400000 in
theorem seg_any (n : Int) (w : World) (h1 : -9223372036854775808 ≤ n) :
    Calls Try.prog 9 #[.int .i64 n] w fun e w' => e = .returned (.string ⟨(Np.nameL 115 n).toArray⟩) ∧ Below w.heap.size w w' := by
  have C1 := fun W : World => laid_any 115 n W h1
  generalize Np.nameL 115 n = l at *
  rw [show (((115 : UInt8).toNat : Nat) : Int) = 115 from rfl] at C1
  have C1 := Lib.hid C1
  go_enter Try.func9, Try.ntmps9
  go_wp2_with fail
  refine (C1.out _).mono ?_
  rintro e w1 ⟨rfl, b1⟩
  go_wp2_with fail
  go_ret
  exact ⟨rfl, b1⟩

set_option maxRecDepth 100000 in
set_option maxHeartbeats 400000 in
theorem snap_any (n : Int) (w : World) (h1 : -9223372036854775808 ≤ n) :
    Calls Try.prog 11 #[.int .i64 n] w fun e w' => e = .returned (.string ⟨(Np.nameL 116 n).toArray⟩) ∧ Below w.heap.size w w' := by
  have C1 := fun W : World => laid_any 116 n W h1
  generalize Np.nameL 116 n = l at *
  rw [show (((116 : UInt8).toNat : Nat) : Int) = 116 from rfl] at C1
  have C1 := Lib.hid C1
  go_enter Try.func11, Try.ntmps11
  go_wp2_with fail
  refine (C1.out _).mono ?_
  rintro e w1 ⟨rfl, b1⟩
  go_wp2_with fail
  go_ret
  exact ⟨rfl, b1⟩

end Go.Proofs.Ytgidaljhfngiaaa
