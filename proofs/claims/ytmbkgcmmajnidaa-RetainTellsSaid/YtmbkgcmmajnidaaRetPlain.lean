/-
  Segments that are kept, in plain Lean: their bytes and records, how many go. No program is imported.
-/
namespace Go.Proofs.Ytmbkgcmmajnidaa.Rt

/-- A segment: its first offset, its records, its bytes. -/
structure Sg where
  b : Int
  n : Int
  z : Int
def zero : Sg := ⟨0, 0, 0⟩
def sumZ (l : List Sg) : Int := l.foldl (fun s x => s + x.z) 0
def sumN (l : List Sg) : Int := l.foldl (fun s x => s + x.n) 0
theorem foldZ (l : List Sg) : ∀ s : Int, l.foldl (fun s x => s + x.z) s = s + sumZ l := by
  unfold sumZ
  induction l with
  | nil => intro s; simp
  | cons x l ih => intro s; rw [List.foldl_cons, List.foldl_cons, ih (s + x.z), ih (0 + x.z)]; omega
theorem foldN (l : List Sg) : ∀ s : Int, l.foldl (fun s x => s + x.n) s = s + sumN l := by
  unfold sumN
  induction l with
  | nil => intro s; simp
  | cons x l ih => intro s; rw [List.foldl_cons, List.foldl_cons, ih (s + x.n), ih (0 + x.n)]; omega
theorem sumZ_cons (x : Sg) (l : List Sg) : sumZ (x :: l) = x.z + sumZ l := by
  show List.foldl _ _ _ = _
  rw [List.foldl_cons, foldZ]
  omega
theorem sumN_cons (x : Sg) (l : List Sg) : sumN (x :: l) = x.n + sumN l := by
  show List.foldl _ _ _ = _
  rw [List.foldl_cons, foldN]
  omega
theorem sumZ_append (a b : List Sg) : sumZ (a ++ b) = sumZ a + sumZ b := by
  show List.foldl _ _ _ = _
  rw [List.foldl_append, foldZ]
  rfl
theorem sumN_append (a b : List Sg) : sumN (a ++ b) = sumN a + sumN b := by
  show List.foldl _ _ _ = _
  rw [List.foldl_append, foldN]
  rfl
theorem take_snoc {l : List Sg} {k : Nat} (h : k < l.length) : l.take (k + 1) = l.take k ++ [l.getD k zero] := by
  rw [List.take_succ_eq_append_getElem h]
  simp [List.getD_eq_getElem?_getD, h]
theorem drop_at {l : List Sg} {k : Nat} (h : k < l.length) : l.drop k = l.getD k zero :: l.drop (k + 1) := by
  rw [List.drop_eq_getElem_cons h]
  simp [List.getD_eq_getElem?_getD, h]
theorem sumZ_take {l : List Sg} {k : Nat} (h : k < l.length) : sumZ (l.take (k + 1)) = sumZ (l.take k) + (l.getD k zero).z := by
  rw [take_snoc h, sumZ_append, sumZ_cons]
  show _ + (_ + 0) = _
  omega
theorem sumN_take {l : List Sg} {k : Nat} (h : k < l.length) : sumN (l.take (k + 1)) = sumN (l.take k) + (l.getD k zero).n := by
  rw [take_snoc h, sumN_append, sumN_cons]
  show _ + (_ + 0) = _
  omega

/-- What may be asked. -/
def Fit (x : Sg) : Prop := 0 ≤ x.n ∧ x.n ≤ 1099511627776 ∧ 0 ≤ x.z ∧ x.z ≤ 1099511627776
def May (l : List Sg) : Prop := l.length ≤ 4096 ∧ ∀ x ∈ l, Fit x
theorem Fit.zero : Fit zero := ⟨by decide, by decide, by decide, by decide⟩
theorem May.at_ {l : List Sg} (h : May l) (k : Nat) : Fit (l.getD k zero) := by
  by_cases hk : k < l.length
  · rw [show l.getD k zero = l[k] by simp [List.getD_eq_getElem?_getD, hk]]
    exact h.2 _ (List.getElem_mem hk)
  · rw [show l.getD k zero = zero by simp [List.getD_eq_getElem?_getD, List.getElem?_eq_none (Nat.le_of_not_lt hk)]]
    exact Fit.zero
theorem May.drop {l : List Sg} (h : May l) (k : Nat) : May (l.drop k) := ⟨by rw [List.length_drop]; have := h.1; omega, fun x hx => h.2 x (List.mem_of_mem_drop hx)⟩
theorem May.take {l : List Sg} (h : May l) (k : Nat) : May (l.take k) := ⟨by rw [List.length_take]; have := h.1; omega, fun x hx => h.2 x (List.mem_of_mem_take hx)⟩
theorem sum_bound : ∀ {l : List Sg}, (∀ x ∈ l, Fit x) → 0 ≤ sumZ l ∧ sumZ l ≤ 1099511627776 * (l.length : Int) ∧ 0 ≤ sumN l ∧ sumN l ≤ 1099511627776 * (l.length : Int)
  | [], _ => ⟨by decide, by decide, by decide, by decide⟩
  | x :: l, h => by
    obtain ⟨h1, h2, h3, h4⟩ := h x List.mem_cons_self
    obtain ⟨i1, i2, i3, i4⟩ := sum_bound fun y hy => h y (List.mem_cons_of_mem _ hy)
    rw [sumZ_cons, sumN_cons, List.length_cons]
    refine ⟨?_, ?_, ?_, ?_⟩ <;> omega
theorem May.sums {l : List Sg} (h : May l) : 0 ≤ sumZ l ∧ sumZ l ≤ 4503599627370496 ∧ 0 ≤ sumN l ∧ sumN l ≤ 4503599627370496 := by
  obtain ⟨h1, h2, h3, h4⟩ := sum_bound h.2
  have := h.1
  refine ⟨?_, ?_, ?_, ?_⟩ <;> omega

/-- Is too much kept? -/
def Much (l : List Sg) (keep count : Int) : Prop := 1 < l.length ∧ (keep < sumZ (l.take (l.length - 1)) ∨ count < sumN l)
/-- The least number that, taken from the first on, leave not too much. -/
def IsPick (l : List Sg) (keep count : Int) (k : Nat) : Prop := (l = [] ∧ k = 0) ∨ (k < l.length ∧ ¬ Much (l.drop k) keep count ∧ ∀ j, j < k → Much (l.drop j) keep count)
theorem IsPick.one {l : List Sg} {keep count : Int} {k m : Nat} (h : IsPick l keep count k) (h' : IsPick l keep count m) : k = m := by
  rcases h with ⟨rfl, rfl⟩ | ⟨a1, a2, a3⟩
  · rcases h' with ⟨_, rfl⟩ | ⟨b1, _, _⟩
    · rfl
    · simp at b1
  · rcases h' with ⟨rfl, _⟩ | ⟨b1, b2, b3⟩
    · simp at a1
    · rcases Nat.lt_trichotomy k m with h | h | h
      · exact absurd (b3 k h) a2
      · exact h
      · exact absurd (a3 m h) b2
theorem last_not {l : List Sg} {keep count : Int} {k : Nat} (h : l.length ≤ k + 1) : ¬ Much (l.drop k) keep count := fun ⟨h1, _⟩ => by rw [List.length_drop] at h1; omega
theorem pick_some (l : List Sg) (keep count : Int) : ∃ k, IsPick l keep count k := by
  by_cases h0 : l = []
  · exact ⟨0, .inl ⟨h0, rfl⟩⟩
  · have hl : 0 < l.length := List.length_pos_iff.2 h0
    have key : ∀ n k, k + n + 1 = l.length → (∀ j, j < k → Much (l.drop j) keep count) → ∃ k, IsPick l keep count k := by
      intro n
      induction n with
      | zero => exact fun k hk h => ⟨k, .inr ⟨by omega, last_not (by omega), h⟩⟩
      | succ n ih =>
        intro k hk h
        by_cases hm : Much (l.drop k) keep count
        · exact ih (k + 1) (by omega) fun j hj => by
            by_cases e : j = k
            · subst e; exact hm
            · exact h j (by omega)
        · exact ⟨k, .inr ⟨by omega, hm, h⟩⟩
    exact key (l.length - 1) 0 (by omega) fun j hj => absurd hj (Nat.not_lt_zero j)
theorem IsPick.lt {l : List Sg} {keep count : Int} {k : Nat} (h : IsPick l keep count k) : k ≤ l.length ∧ (0 < l.length → k < l.length) := by
  rcases h with ⟨rfl, rfl⟩ | ⟨h, _, _⟩
  · exact ⟨Nat.zero_le _, fun h => h⟩
  · exact ⟨Nat.le_of_lt h, fun _ => h⟩
/-- The bytes of those from k on, but of the last one; the records of those from k on. -/
theorem much_at {l : List Sg} {keep count : Int} {k : Nat} (hk : k + 1 < l.length) : Much (l.drop k) keep count ↔ (keep < sumZ (l.take (l.length - 1)) - sumZ (l.take k) ∨ count < sumN l - sumN (l.take k)) := by
  unfold Much
  have h1 : sumN (l.drop k) = sumN l - sumN (l.take k) := by
    have := sumN_append (l.take k) (l.drop k)
    rw [List.take_append_drop] at this
    omega
  have h2 : (l.drop k).take ((l.drop k).length - 1) = (l.take (l.length - 1)).drop k := by
    rw [List.drop_take, List.length_drop]
    congr 1
    omega
  have h3 : sumZ ((l.drop k).take ((l.drop k).length - 1)) = sumZ (l.take (l.length - 1)) - sumZ (l.take k) := by
    rw [h2]
    have := sumZ_append ((l.take (l.length - 1)).take k) ((l.take (l.length - 1)).drop k)
    rw [List.take_append_drop, List.take_take, Nat.min_eq_left (by omega)] at this
    omega
  rw [h1, h3, List.length_drop]
  constructor
  · exact fun h => h.2
  · exact fun h => ⟨by omega, h⟩
/-- More that may be kept, or fewer that are there: no more go. -/
theorem IsPick.mono {l : List Sg} {keep count keep' count' : Int} {k m : Nat} (h : IsPick l keep count k) (h' : IsPick l keep' count' m) (h1 : keep ≤ keep') (h2 : count ≤ count') : m ≤ k := by
  rcases h with ⟨rfl, rfl⟩ | ⟨a1, a2, a3⟩
  · rcases h' with ⟨_, rfl⟩ | ⟨b1, _, _⟩
    · exact Nat.le_refl _
    · simp at b1
  · rcases h' with ⟨rfl, rfl⟩ | ⟨b1, b2, b3⟩
    · exact Nat.zero_le _
    · refine Nat.le_of_not_lt fun hlt => a2 ?_
      obtain ⟨c1, c2⟩ := b3 k hlt
      exact ⟨c1, by omega⟩
theorem IsPick.again {l : List Sg} {keep count : Int} {k : Nat} (h : IsPick l keep count k) : IsPick (l.drop k) keep count 0 := by
  rcases h with ⟨rfl, rfl⟩ | ⟨a1, a2, a3⟩
  · exact .inl ⟨rfl, rfl⟩
  · exact .inr ⟨by rw [List.length_drop]; omega, by rw [List.drop_zero]; exact a2, fun j hj => absurd hj (Nat.not_lt_zero j)⟩

end Go.Proofs.Ytmbkgcmmajnidaa.Rt
