/-
  Marks, in plain Lean: which may be, the one that is found. No program is imported.
-/
namespace Go.Proofs.Ytfodcgipdhppmaa.Mp

/-- A mark: an offset, a place. -/
structure Mk where
  o : Int
  p : Int
def zero : Mk := ⟨0, 0⟩

/-- Is the mark at a place as it may be, and behind the one ahead of it? -/
def AtOk (l : List Mk) (k : Nat) : Prop := 0 ≤ (l.getD k zero).o ∧ 0 ≤ (l.getD k zero).p ∧ (0 < k → (l.getD (k - 1) zero).o < (l.getD k zero).o ∧ (l.getD (k - 1) zero).p < (l.getD k zero).p)
/-- May they be? -/
def Right (l : List Mk) : Prop := ∀ k, k < l.length → AtOk l k
theorem Right.lt {l : List Mk} (h : Right l) : ∀ (d i : Nat), i + d + 1 < l.length → (l.getD i zero).o < (l.getD (i + d + 1) zero).o ∧ (l.getD i zero).p < (l.getD (i + d + 1) zero).p
  | 0, i, hi => by
    have := (h (i + 0 + 1) hi).2.2 (by omega)
    simpa using this
  | d + 1, i, hi => by
    have h1 := h.lt d i (by omega)
    have h2 := (h (i + (d + 1) + 1) hi).2.2 (by omega)
    rw [show i + (d + 1) + 1 - 1 = i + d + 1 from by omega] at h2
    exact ⟨by omega, by omega⟩
theorem Right.mono {l : List Mk} (h : Right l) {i j : Nat} (hij : i < j) (hj : j < l.length) : (l.getD i zero).o < (l.getD j zero).o ∧ (l.getD i zero).p < (l.getD j zero).p := by
  obtain ⟨d, rfl⟩ : ∃ d, j = i + d + 1 := ⟨j - i - 1, by omega⟩
  exact h.lt d i hj

/-- The first n marks, and no others, aren't above off. -/
def Split (l : List Mk) (off : Int) (n : Nat) : Prop := n ≤ l.length ∧ (∀ j, j < n → (l.getD j zero).o ≤ off) ∧ ∀ j, n ≤ j → j < l.length → off < (l.getD j zero).o
theorem Split.one {l : List Mk} {off : Int} {n m : Nat} (h : Split l off n) (k : Split l off m) : n = m := by
  obtain ⟨a1, a2, a3⟩ := h
  obtain ⟨b1, b2, b3⟩ := k
  rcases Nat.lt_trichotomy n m with h | h | h
  · have := b2 n h; have := a3 n (Nat.le_refl _) (by omega); omega
  · exact h
  · have := a2 m h; have := b3 m (Nat.le_refl _) (by omega); omega
theorem split_some {l : List Mk} (h : Right l) (off : Int) : ∃ n, Split l off n := by
  have key : ∀ n, n ≤ l.length → (∀ j, n ≤ j → j < l.length → off < (l.getD j zero).o) → ∃ n, Split l off n := by
    intro n
    induction n with
    | zero => intro _ h0; exact ⟨0, Nat.zero_le _, fun j hj => absurd hj (Nat.not_lt_zero j), h0⟩
    | succ n ih =>
      intro hn h0
      by_cases hc : (l.getD n zero).o ≤ off
      · refine ⟨n + 1, hn, fun j hj => ?_, h0⟩
        by_cases e : j = n
        · subst e; exact hc
        · have := (h.mono (show j < n by omega) (by omega)).1; omega
      · exact ih (by omega) fun j hj hl => by
          by_cases e : j = n
          · subst e; omega
          · exact h0 j (by omega) hl
  exact key l.length (Nat.le_refl _) fun j hj hl => absurd hl (by omega)
/-- How many marks aren't above off, where they may be. -/
noncomputable def cnt (l : List Mk) (off : Int) : Nat := by
  classical exact if h : ∃ n, Split l off n then h.choose else 0
theorem cnt_split {l : List Mk} (h : Right l) (off : Int) : Split l off (cnt l off) := by
  unfold cnt
  rw [dif_pos (split_some h off)]
  exact (split_some h off).choose_spec

/-- A mark more, where it is kept. -/
def add (l : List Mk) (base every : Int) (m : Mk) : List Mk := if (m.o - base) % every = 0 then l ++ [m] else l

/-- What a round finds. -/
theorem at_cases (l : List Mk) (k : Nat) :
    (¬ AtOk l k ∧ ((l.getD k zero).o < 0 ∨ (0 ≤ (l.getD k zero).o ∧ (l.getD k zero).p < 0) ∨ (0 ≤ (l.getD k zero).o ∧ 0 ≤ (l.getD k zero).p ∧ ∃ j, k = j + 1 ∧ (l.getD k zero).o ≤ (l.getD j zero).o) ∨ (0 ≤ (l.getD k zero).o ∧ 0 ≤ (l.getD k zero).p ∧ ∃ j, k = j + 1 ∧ (l.getD j zero).o < (l.getD k zero).o ∧ (l.getD k zero).p ≤ (l.getD j zero).p))) ∨
    (AtOk l k ∧ 0 ≤ (l.getD k zero).o ∧ 0 ≤ (l.getD k zero).p ∧ (k = 0 ∨ ∃ j, k = j + 1 ∧ (l.getD j zero).o < (l.getD k zero).o ∧ (l.getD j zero).p < (l.getD k zero).p)) := by
  by_cases h1 : (l.getD k zero).o < 0
  · exact .inl ⟨fun h => by have := h.1; omega, .inl h1⟩
  · by_cases h2 : (l.getD k zero).p < 0
    · exact .inl ⟨fun h => by have := h.2.1; omega, .inr (.inl ⟨by omega, h2⟩)⟩
    · cases k with
      | zero => exact .inr ⟨⟨by omega, by omega, fun h => absurd h (Nat.lt_irrefl 0)⟩, by omega, by omega, .inl rfl⟩
      | succ j =>
        by_cases h3 : (l.getD j zero).o < (l.getD (j + 1) zero).o
        · by_cases h4 : (l.getD j zero).p < (l.getD (j + 1) zero).p
          · exact .inr ⟨⟨by omega, by omega, fun _ => ⟨h3, h4⟩⟩, by omega, by omega, .inr ⟨j, rfl, h3, h4⟩⟩
          · exact .inl ⟨fun h => h4 (h.2.2 (by omega)).2, .inr (.inr (.inr ⟨by omega, by omega, j, rfl, h3, by omega⟩))⟩
        · exact .inl ⟨fun h => h3 (h.2.2 (by omega)).1, .inr (.inr (.inl ⟨by omega, by omega, j, rfl, by omega⟩))⟩
theorem all_next {l : List Mk} {k : Nat} (h : ∀ j, j < k → AtOk l j) (hk : AtOk l k) : ∀ j, j < k + 1 → AtOk l j := by
  intro j hj
  by_cases e : j = k
  · subst e; exact hk
  · exact h j (by omega)
theorem getD_mk {l : List Mk} {k : Nat} {z : Mk} (h : k < l.length) : l.getD k z = l[k] := by simp [List.getD_eq_getElem?_getD, h]

end Go.Proofs.Ytfodcgipdhppmaa.Mp
