/-
  Marks of records in a row, of which one of every so many is kept, in plain Lean.
-/
import Derived.Test.YtailajcepjklaaaMarkPlain
namespace Go.Proofs.Ytailajcepjklaaa.Mp

/-- Where the k-th record stands, of sizes z. -/
def pos (z : List Int) : Nat → Int
  | 0 => 0
  | k + 1 => pos z k + 1 + z.getD k 0
theorem pos_lt {z : List Int} (h : ∀ x ∈ z, 0 ≤ x ∧ x ≤ 255) (k : Nat) : pos z k < pos z (k + 1) := by
  have : 0 ≤ z.getD k 0 := by
    by_cases hk : k < z.length
    · have e : z.getD k 0 = z[k] := by simp [List.getD_eq_getElem?_getD, hk]
      rw [e]; exact (h _ (List.getElem_mem hk)).1
    · rw [List.getD_eq_getElem?_getD, List.getElem?_eq_none (by omega)]; exact Int.le_refl _
  show pos z k < pos z k + 1 + z.getD k 0
  omega
theorem pos_le {z : List Int} (h : ∀ x ∈ z, 0 ≤ x ∧ x ≤ 255) : ∀ k, 0 ≤ pos z k ∧ pos z k ≤ 256 * (k : Int)
  | 0 => ⟨Int.le_refl _, Int.le_refl _⟩
  | k + 1 => by
    have ih := pos_le h k
    have : 0 ≤ z.getD k 0 ∧ z.getD k 0 ≤ 255 := by
      by_cases hk : k < z.length
      · have e : z.getD k 0 = z[k] := by simp [List.getD_eq_getElem?_getD, hk]
        rw [e]; exact h _ (List.getElem_mem hk)
      · rw [List.getD_eq_getElem?_getD, List.getElem?_eq_none (by omega)]; exact ⟨Int.le_refl _, by decide⟩
    show 0 ≤ pos z k + 1 + z.getD k 0 ∧ pos z k + 1 + z.getD k 0 ≤ 256 * ((k + 1 : Nat) : Int)
    omega
theorem pos_mono {z : List Int} (h : ∀ x ∈ z, 0 ≤ x ∧ x ≤ 255) (i : Nat) : ∀ d, pos z i < pos z (i + d + 1)
  | 0 => pos_lt h i
  | d + 1 => Int.lt_trans (pos_mono h i d) (pos_lt h (i + d + 1))

/-- The k-th record's mark. -/
def mkOf (b : Int) (z : List Int) (k : Nat) : Mk := ⟨b + (k : Int), pos z k⟩
/-- All marks of k records, and those that are kept. -/
def allM (b : Int) (z : List Int) (k : Nat) : List Mk := (List.range k).map (mkOf b z)
def keptM (b : Int) (z : List Int) (n k : Nat) : List Mk := (List.range ((k + n - 1) / n)).map fun i => mkOf b z (i * n)
theorem allM_succ (b : Int) (z : List Int) (k : Nat) : allM b z (k + 1) = allM b z k ++ [mkOf b z k] := by unfold allM; rw [List.range_succ, List.map_append]; rfl
theorem allM_len (b : Int) (z : List Int) (k : Nat) : (allM b z k).length = k := by simp [allM]
theorem allM_at (b : Int) (z : List Int) {k i : Nat} (h : i < k) : (allM b z k).getD i zero = mkOf b z i := by
  unfold allM
  rw [List.getD_eq_getElem?_getD, List.getElem?_map, List.getElem?_range h]; rfl
theorem keptM_len (b : Int) (z : List Int) (n k : Nat) : (keptM b z n k).length = (k + n - 1) / n := by simp [keptM]
theorem keptM_at (b : Int) (z : List Int) (n : Nat) {k i : Nat} (h : i < (k + n - 1) / n) : (keptM b z n k).getD i zero = mkOf b z (i * n) := by
  unfold keptM
  rw [List.getD_eq_getElem?_getD, List.getElem?_map, List.getElem?_range h]; rfl
theorem count_step {n k : Nat} (hn : 1 ≤ n) : (k + 1 + n - 1) / n = k / n + 1 ∧ (k + n - 1) / n = (if k % n = 0 then k / n else k / n + 1) := by
  have h1 : (k + 1 + n - 1) / n = k / n + 1 := by rw [show k + 1 + n - 1 = k + n from by omega]; exact Nat.add_div_right k (by omega)
  refine ⟨h1, ?_⟩
  have hd := Nat.div_add_mod k n
  have hm := Nat.mod_lt k (show 0 < n by omega)
  by_cases h : k % n = 0
  · rw [if_pos h]
    rw [h] at hd
    refine Nat.div_eq_of_lt_le ?_ ?_
    · rw [Nat.mul_comm]; omega
    · rw [Nat.add_mul, Nat.one_mul, Nat.mul_comm]; omega
  · rw [if_neg h]
    refine Nat.div_eq_of_lt_le ?_ ?_
    · rw [Nat.add_mul, Nat.one_mul, Nat.mul_comm]; omega
    · rw [Nat.add_mul, Nat.add_mul, Nat.one_mul, Nat.mul_comm (k / n) n]; omega
theorem keptM_succ {b : Int} {z : List Int} {n k : Nat} (hn : 1 ≤ n) : keptM b z n (k + 1) = add (keptM b z n k) b (n : Int) (mkOf b z k) := by
  obtain ⟨h1, h2⟩ := count_step (k := k) hn
  unfold add keptM
  rw [h1, h2]
  have e : (mkOf b z k).o - b = (k : Int) := by unfold mkOf; show b + (k : Int) - b = k; omega
  rw [e]
  by_cases h : k % n = 0
  · rw [if_pos h, if_pos (by omega), List.range_succ, List.map_append]
    congr 1
    show [mkOf b z (k / n * n)] = _
    have hd := Nat.div_add_mod k n
    rw [h, Nat.mul_comm] at hd
    rw [show k / n * n = k from by omega]
  · rw [if_neg h, if_neg (by omega)]
theorem keptM_right {b : Int} {z : List Int} {n k : Nat} (hb : 0 ≤ b) (hn : 1 ≤ n) (h : ∀ x ∈ z, 0 ≤ x ∧ x ≤ 255) : Right (keptM b z n k) := by
  intro i hi
  rw [keptM_len] at hi
  unfold AtOk
  rw [keptM_at b z n hi]
  refine ⟨by unfold mkOf; show 0 ≤ b + ((i * n : Nat) : Int); omega, (pos_le h _).1, fun h0 => ?_⟩
  rw [keptM_at b z n (show i - 1 < (k + n - 1) / n by omega)]
  obtain ⟨j, rfl⟩ : ∃ j, i = j + 1 := ⟨i - 1, by omega⟩
  rw [Nat.add_sub_cancel]
  have e : (j + 1) * n = j * n + (n - 1) + 1 := by rw [Nat.add_mul]; omega
  constructor
  · show b + ((j * n : Nat) : Int) < b + (((j + 1) * n : Nat) : Int)
    rw [e]; omega
  · show pos z (j * n) < pos z ((j + 1) * n)
    rw [e]
    exact pos_mono h _ _
/-- Of the i-th record's offset the mark that is found. -/
theorem keptM_split {b : Int} {z : List Int} {n k i : Nat} (hn : 1 ≤ n) (hi : i < k) : Split (keptM b z n k) (b + (i : Int)) (i / n + 1) := by
  have hlen : i / n + 1 ≤ (k + n - 1) / n := by
    have h1 : i / n ≤ (k - 1) / n := Nat.div_le_div_right (by omega)
    have h2 : (k + n - 1) / n = (k - 1) / n + 1 := by rw [show k + n - 1 = (k - 1) + n from by omega]; exact Nat.add_div_right _ (by omega)
    omega
  have hd := Nat.div_add_mod i n
  have hm := Nat.mod_lt i (show 0 < n by omega)
  refine ⟨by rw [keptM_len]; exact hlen, fun j hj => ?_, fun j hj hl => ?_⟩
  · rw [keptM_at b z n (by omega)]
    show b + ((j * n : Nat) : Int) ≤ b + (i : Int)
    have : j * n ≤ i / n * n := Nat.mul_le_mul_right _ (by omega)
    rw [Nat.mul_comm (i / n) n] at this
    omega
  · rw [keptM_len] at hl
    rw [keptM_at b z n hl]
    show b + (i : Int) < b + ((j * n : Nat) : Int)
    have : (i / n + 1) * n ≤ j * n := Nat.mul_le_mul_right _ hj
    rw [Nat.add_mul, Nat.one_mul, Nat.mul_comm (i / n) n] at this
    omega
theorem keptM_none {b : Int} {z : List Int} {n k : Nat} : Split (keptM b z n k) (b - 1) 0 := by
  refine ⟨Nat.zero_le _, fun j hj => absurd hj (Nat.not_lt_zero j), fun j _ hl => ?_⟩
  rw [keptM_len] at hl
  rw [keptM_at b z n hl]
  show b - 1 < b + ((j * n : Nat) : Int)
  omega

end Go.Proofs.Ytailajcepjklaaa.Mp
