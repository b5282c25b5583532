/-
  Rows of records made of data, in plain Lean: where each ends, what is told of them whole and cut off.
-/
import Derived.Test.YtfodcgipdhppmaaSegPlain
namespace Go.Proofs.Ytfodcgipdhppmaa.Gp
open Rp

/-- The i-th record of these data, from a base on; the first n of them; where they end. -/
def rc (b : Int) (ss : List ByteArray) (i : Nat) : Rec := ⟨b + i, i, ss.getD i ByteArray.empty⟩
def recF (b : Int) (ss : List ByteArray) (n : Nat) : List Rec := (List.range n).map (rc b ss)
def endF (b : Int) (ss : List ByteArray) (j : Nat) : Nat := (rowB (recF b ss j)).length
def ends (b : Int) (ss : List ByteArray) (n : Nat) : List Nat := (List.range (n + 1)).map (endF b ss)
theorem recF_succ (b : Int) (ss : List ByteArray) (n : Nat) : recF b ss (n + 1) = recF b ss n ++ [rc b ss n] := by unfold recF; rw [List.range_succ, List.map_append]; rfl
theorem recF_len (b : Int) (ss : List ByteArray) (n : Nat) : (recF b ss n).length = n := by simp [recF]
theorem recF_at (b : Int) (ss : List ByteArray) {n i : Nat} (h : i < n) : (recF b ss n).getD i zero = rc b ss i := by
  unfold recF
  rw [List.getD_eq_getElem?_getD, List.getElem?_map, List.getElem?_range h]; rfl
theorem ends_succ (b : Int) (ss : List ByteArray) (n : Nat) : ends b ss (n + 1) = ends b ss n ++ [endF b ss (n + 1)] := by unfold ends; rw [List.range_succ, List.map_append]; rfl
theorem ends_len (b : Int) (ss : List ByteArray) (n : Nat) : (ends b ss n).length = n + 1 := by simp [ends]
theorem ends_at (b : Int) (ss : List ByteArray) {n i : Nat} (h : i < n + 1) : (ends b ss n).getD i 0 = endF b ss i := by
  unfold ends
  rw [List.getD_eq_getElem?_getD, List.getElem?_map, List.getElem?_range h]; rfl
theorem row_succ (b : Int) (ss : List ByteArray) (n : Nat) : rowB (recF b ss (n + 1)) = rowB (recF b ss n) ++ Fr.fr (body (rc b ss n)) := by rw [recF_succ, rowB_snoc]
theorem endF_zero (b : Int) (ss : List ByteArray) : endF b ss 0 = 0 := rfl
theorem endF_succ (b : Int) (ss : List ByteArray) (n : Nat) : endF b ss (n + 1) = endF b ss n + (Fr.fr (body (rc b ss n))).length := by unfold endF; rw [row_succ, List.length_append]
/-- May these data be records'? -/
def Fits (ss : List ByteArray) : Prop := ss.length ≤ 20 ∧ ∀ s ∈ ss, s.size ≤ 64
theorem fits_at {ss : List ByteArray} (h : ∀ i, i < ss.length → (ss.getD i ByteArray.empty).size ≤ 64) : ∀ s ∈ ss, s.size ≤ 64 := by
  intro s hs
  obtain ⟨i, hi, rfl⟩ := List.getElem_of_mem hs
  have := h i hi
  simpa [List.getD_eq_getElem?_getD, hi] using this
theorem rc_ok {b : Int} (h0 : 0 ≤ b) (h1 : b ≤ 65535) {ss : List ByteArray} {i : Nat} (hi : i ≤ 1000) (hs : (ss.getD i ByteArray.empty).size ≤ 64) : Ok (rc b ss i) :=
  ⟨by show 0 ≤ b + (i : Int); omega, by show b + (i : Int) ≤ _; omega, by show (0 : Int) ≤ (i : Int); omega, by show (i : Int) ≤ _; omega, hs⟩
theorem rc_bad {b : Int} {ss : List ByteArray} {i : Nat} (hs : 64 < (ss.getD i ByteArray.empty).size) : ¬ Ok (rc b ss i) := fun h => by have := h.2.2.2.2; have e : (rc b ss i).d = ss.getD i ByteArray.empty := rfl; rw [e] at this; omega
theorem recF_ok {b : Int} (h0 : 0 ≤ b) (h1 : b ≤ 65535) {ss : List ByteArray} {n : Nat} (hn : n ≤ 1000) (hs : ∀ i, i < n → (ss.getD i ByteArray.empty).size ≤ 64) : ∀ r ∈ recF b ss n, Ok r := by
  intro r hr
  unfold recF at hr
  rw [List.mem_map] at hr
  obtain ⟨i, hi, rfl⟩ := hr
  rw [List.mem_range] at hi
  exact rc_ok h0 h1 (by omega) (hs i hi)
theorem rise_of : ∀ (l : List Rec) (b : Int), (∀ i, i < l.length → (l.getD i zero).a = b + i) → Rise b l
  | [], _, _ => trivial
  | r :: l, b, h => ⟨by have := h 0 (by simp); simpa using this, rise_of l (b + 1) fun i hi => by
      have := h (i + 1) (by simpa using hi)
      rw [List.getD_cons_succ] at this
      rw [this]; omega⟩
theorem recF_rise (b : Int) (ss : List ByteArray) (n : Nat) : Rise b (recF b ss n) := rise_of _ _ fun i hi => by
  rw [recF_len] at hi
  rw [recF_at b ss hi]; rfl
theorem row_pre (b : Int) (ss : List ByteArray) (j : Nat) : ∀ d, ∃ t, rowB (recF b ss (j + d)) = rowB (recF b ss j) ++ t
  | 0 => ⟨[], by rw [List.append_nil]; rfl⟩
  | d + 1 => by
    obtain ⟨t, h⟩ := row_pre b ss j d
    exact ⟨t ++ Fr.fr (body (rc b ss (j + d))), by rw [← Nat.add_assoc, row_succ, h, List.append_assoc]⟩
theorem inB_base {b : Int} (h0 : 0 ≤ b) (h1 : b ≤ 65535) : inB b = true := inB_mk h0 (by omega)
/-- The whole row. -/
theorem full_row {b : Int} (h0 : 0 ≤ b) (h1 : b ≤ 65535) {ss : List ByteArray} {n : Nat} (hn : n ≤ 1000) (hs : ∀ i, i < n → (ss.getD i ByteArray.empty).size ≤ 64) :
    full (rowB (recF b ss n)) b = (withAt (recF b ss n) 0, endF b ss n, 0) := by
  rw [full_in (inB_base h0 h1)]
  have := pls_rows (recF b ss n) b 0 [] 0 (recF_ok h0 h1 hn hs) (recF_rise b ss n) (.inl ⟨rfl, rfl⟩)
  rw [List.append_nil] at this
  show pls (rowB (recF b ss n)) b 0 = _
  rw [this, Nat.zero_add]
  rfl
/-- A row that is cut off behind the k-th record, or within the next. -/
theorem full_cut {b : Int} (h0 : 0 ≤ b) (h1 : b ≤ 65535) {ss : List ByteArray} {n k m : Nat} (hn : n ≤ 1000) (hs : ∀ i, i < n → (ss.getD i ByteArray.empty).size ≤ 64) (hk : k ≤ n) (hm : endF b ss k ≤ m) (hm2 : m ≤ endF b ss n) (hm3 : k < n → m < endF b ss (k + 1)) :
    full ((rowB (recF b ss n)).take m) b = (withAt (recF b ss k) 0, endF b ss k, if m = endF b ss k then 0 else 2) := by
  rw [full_in (inB_base h0 h1)]
  show pls ((rowB (recF b ss n)).take m) b 0 = _
  have hok := recF_ok h0 h1 (n := k) (by omega) fun i hi => hs i (by omega)
  have e : ∃ rest, (rowB (recF b ss n)).take m = rowB (recF b ss k) ++ rest ∧ (rest = [] ∧ (if m = endF b ss k then (0 : Int) else 2) = 0 ∨ rest ≠ [] ∧ nxt rest = (zero, 0, if m = endF b ss k then 0 else 2) ∧ (if m = endF b ss k then (0 : Int) else 2) ≠ 0) := by
    by_cases hkn : k = n
    · subst hkn
      have : m = endF b ss k := by omega
      refine ⟨[], ?_, .inl ⟨rfl, by rw [if_pos this]⟩⟩
      rw [List.append_nil, List.take_of_length_le (by rw [this]; exact Nat.le_refl _)]
    · obtain ⟨d, rfl⟩ : ∃ d, n = k + 1 + d := ⟨n - k - 1, by omega⟩
      obtain ⟨t, ht⟩ := row_pre b ss (k + 1) d
      have hlt := hm3 (by omega)
      rw [endF_succ] at hlt
      have hfr : (Fr.fr (body (rc b ss k)) ++ t).take (m - endF b ss k) = (Fr.fr (body (rc b ss k))).take (m - endF b ss k) := List.take_append_of_le_length (by omega)
      refine ⟨(Fr.fr (body (rc b ss k))).take (m - endF b ss k), ?_, ?_⟩
      · rw [ht, row_succ, List.append_assoc, List.take_append, hfr.symm]
        show List.take m (rowB (recF b ss k)) ++ List.take (m - (rowB (recF b ss k)).length) _ = _
        rw [List.take_of_length_le (show (rowB (recF b ss k)).length ≤ m from hm)]
        rfl
      · by_cases h2 : m = endF b ss k
        · left
          rw [if_pos h2, h2, Nat.sub_self]
          exact ⟨rfl, rfl⟩
        · right
          rw [if_neg h2]
          refine ⟨fun h3 => ?_, nxt_cut (rc_ok h0 h1 (by omega) (hs k (by omega))) (by omega), by decide⟩
          have := congrArg List.length h3
          rw [List.length_take] at this
          simp at this
          rcases this with h4 | h4
          · omega
          · have := Fr.fr_pos (body (rc b ss k)); rw [h4] at this; simp at this
  obtain ⟨rest, e1, e2⟩ := e
  rw [e1, pls_rows _ b 0 rest _ hok (recF_rise b ss k) e2, Nat.zero_add]
  rfl

end Go.Proofs.Ytfodcgipdhppmaa.Gp
