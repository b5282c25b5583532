/-
  Numbers as bytes, in plain Lean: a number's bytes by sevens, and what stands at the beginning of a text. No program is imported.
-/
namespace Go.Proofs.Ytcogeflljcefjaa.Vp

/-- The bytes of a number, at most k of them. -/
def putF : Nat → Nat → List UInt8
  | 0, _ => []
  | k + 1, n => if n < 128 then [UInt8.ofNat n] else UInt8.ofNat (128 + n % 128) :: putF k (n / 128)

/-- The bytes of a number below 2^63. -/
def put (n : Nat) : List UInt8 := putF 9 n

/-- The number that stands at the beginning, of at most k bytes, and how many they are. -/
def takeF : Nat → List UInt8 → Option (Nat × Nat)
  | 0, _ => none
  | _ + 1, [] => none
  | k + 1, b :: r =>
    if b.toNat < 128 then some (b.toNat, 1)
    else match takeF k r with
      | none => none
      | some (m, j) => if m = 0 then none else some (b.toNat % 128 + 128 * m, j + 1)

def take (l : List UInt8) : Option (Nat × Nat) := takeF 9 l

/-- The loop's own form: i bytes are behind, which come to n; u is 128^i. -/
def loopF : Nat → Nat → Nat → Nat → List UInt8 → Option (Nat × Nat)
  | 0, _, _, _, _ => none
  | _ + 1, _, _, _, [] => none
  | k + 1, n, u, i, b :: r =>
    if b.toNat < 128 then (if b.toNat = 0 ∧ 0 < i then none else some (n + b.toNat * u, i + 1))
    else loopF k (n + b.toNat % 128 * u) (u * 128) (i + 1) r

theorem takeF_pos : ∀ (k : Nat) (l : List UInt8) (m j : Nat), takeF k l = some (m, j) → 0 < j ∧ j ≤ k ∧ j ≤ l.length ∧ m < 128 ^ j := by
  intro k
  induction k with
  | zero => intro l m j h; simp [takeF] at h
  | succ k ih =>
    intro l m j h
    cases l with
    | nil => simp [takeF] at h
    | cons b r =>
      unfold takeF at h
      by_cases hb : b.toNat < 128
      · rw [if_pos hb] at h
        injection h with h
        injection h with h1 h2
        subst h1; subst h2
        exact ⟨by omega, by omega, by simp, by simpa using hb⟩
      · rw [if_neg hb] at h
        cases hr : takeF k r with
        | none => rw [hr] at h; cases h
        | some p =>
          obtain ⟨m', j'⟩ := p
          rw [hr] at h
          simp only at h
          by_cases hm : m' = 0
          · rw [if_pos hm] at h; cases h
          · rw [if_neg hm] at h
            injection h with h
            injection h with h1 h2
            obtain ⟨a1, a2, a3, a4⟩ := ih r m' j' hr
            subst h1; subst h2
            refine ⟨by omega, by omega, by simp; omega, ?_⟩
            rw [Nat.pow_succ]
            omega

theorem loopF_take : ∀ (k n u i : Nat) (l : List UInt8), loopF k n u i l =
    match takeF k l with
    | none => none
    | some (m, j) => if m = 0 ∧ 0 < i then none else some (n + m * u, i + j) := by
  intro k
  induction k with
  | zero => intro n u i l; rfl
  | succ k ih =>
    intro n u i l
    cases l with
    | nil => rfl
    | cons b r =>
      unfold loopF takeF
      by_cases hb : b.toNat < 128
      · rw [if_pos hb, if_pos hb]
      · rw [if_neg hb, if_neg hb, ih]
        cases hr : takeF k r with
        | none => rfl
        | some p =>
          obtain ⟨m, j⟩ := p
          simp only
          by_cases hm : m = 0
          · rw [if_pos ⟨hm, by omega⟩, if_pos hm]
          · rw [if_neg (by omega), if_neg hm]
            simp only
            rw [if_neg (by omega)]
            congr 1
            refine Prod.ext ?_ ?_
            · simp only
              rw [Nat.add_mul, Nat.mul_comm 128 m, Nat.mul_assoc m 128 u, Nat.mul_comm 128 u]; omega
            · simp only; omega

theorem loop_take (l : List UInt8) : loopF 9 0 1 0 l = take l := by
  rw [loopF_take]
  unfold take
  cases takeF 9 l with
  | none => rfl
  | some p => obtain ⟨m, j⟩ := p; simp

theorem ofNat_toNat_lt (n : Nat) (h : n < 256) : (UInt8.ofNat n).toNat = n := by
  rw [UInt8.toNat_ofNat']; exact Nat.mod_eq_of_lt h

theorem putF_len : ∀ (k n : Nat), (putF k n).length ≤ k := by
  intro k
  induction k with
  | zero => intro n; simp [putF]
  | succ k ih =>
    intro n
    unfold putF
    split
    · simp
    · have := ih (n / 128); simp; omega

theorem put_len_le (n : Nat) : (put n).length ≤ 9 := putF_len 9 n

theorem putF_len_pos (k n : Nat) : 0 < (putF (k + 1) n).length := by
  unfold putF; split <;> simp

theorem put_len_pos (n : Nat) : 0 < (put n).length := putF_len_pos 8 n

/-- What is put is taken, whatever stands behind. -/
theorem takeF_put : ∀ (k n : Nat) (r : List UInt8), n < 128 ^ (k + 1) → takeF (k + 1) (putF (k + 1) n ++ r) = some (n, (putF (k + 1) n).length) := by
  intro k
  induction k with
  | zero =>
    intro n r h
    have hn : n < 128 := by simpa using h
    simp [takeF, putF, hn]
    omega
  | succ k ih =>
    intro n r h
    rw [putF]
    by_cases hn : n < 128
    · rw [if_pos hn]
      simp only [List.cons_append, List.nil_append, takeF]
      rw [ofNat_toNat_lt n (by omega), if_pos hn]
      rfl
    · rw [if_neg hn]
      rw [List.cons_append, takeF]
      rw [ofNat_toNat_lt _ (by omega), if_neg (by omega), ih (n / 128) r (by rw [Nat.pow_succ] at h; omega)]
      simp only
      rw [if_neg (by omega)]
      congr 1
      refine Prod.ext ?_ ?_
      · simp only; omega
      · simp

theorem take_put (n : Nat) (r : List UInt8) (h : n < 9223372036854775808) : take (put n ++ r) = some (n, (put n).length) :=
  takeF_put 8 n r h

/-- What is taken has just the bytes that it was taken of. -/
theorem putF_take : ∀ (k : Nat) (l : List UInt8) (n j : Nat), takeF k l = some (n, j) → putF k n = l.take j := by
  intro k
  induction k with
  | zero => intro l n j h; simp [takeF] at h
  | succ k ih =>
    intro l n j h
    cases l with
    | nil => simp [takeF] at h
    | cons b r =>
      unfold takeF at h
      by_cases hb : b.toNat < 128
      · rw [if_pos hb] at h
        injection h with h
        injection h with h1 h2
        subst h1; subst h2
        rw [putF, if_pos hb, List.take_succ_cons, List.take_zero, UInt8.ofNat_toNat]
      · rw [if_neg hb] at h
        cases hr : takeF k r with
        | none => rw [hr] at h; cases h
        | some p =>
          obtain ⟨m', j'⟩ := p
          rw [hr] at h
          simp only at h
          by_cases hm : m' = 0
          · rw [if_pos hm] at h; cases h
          · rw [if_neg hm] at h
            injection h with h
            injection h with h1 h2
            subst h1; subst h2
            have hb2 : b.toNat < 256 := b.toNat_lt
            rw [putF, if_neg (by omega), List.take_succ_cons]
            rw [show (b.toNat % 128 + 128 * m') / 128 = m' from by omega, ih r m' j' hr]
            congr 1
            rw [show 128 + (b.toNat % 128 + 128 * m') % 128 = b.toNat from by omega, UInt8.ofNat_toNat]

theorem put_take {l : List UInt8} {n j : Nat} (h : take l = some (n, j)) : put n = l.take j := putF_take 9 l n j h

theorem take_some {l : List UInt8} {m j : Nat} (h : take l = some (m, j)) : 0 < j ∧ j ≤ 9 ∧ j ≤ l.length ∧ m < 9223372036854775808 := by
  obtain ⟨a, b, c, d⟩ := takeF_pos 9 l m j h
  refine ⟨a, b, c, Nat.lt_of_lt_of_le d ?_⟩
  exact (Nat.pow_le_pow_right (by omega) b)

theorem take_len {l : List UInt8} {m j : Nat} (h : take l = some (m, j)) : (put m).length = j := by
  rw [put_take h, List.length_take]
  have := (take_some h).2.2.1
  omega

theorem putF_mono : ∀ (k a b : Nat), a ≤ b → (putF k a).length ≤ (putF k b).length := by
  intro k
  induction k with
  | zero => intro a b h; simp [putF]
  | succ k ih =>
    intro a b h
    rw [putF, putF]
    by_cases ha : a < 128
    · rw [if_pos ha]
      split <;> simp
    · rw [if_neg ha, if_neg (by omega)]
      have := ih (a / 128) (b / 128) (Nat.div_le_div_right h)
      simpa using this

theorem put_mono {a b : Nat} (h : a ≤ b) : (put a).length ≤ (put b).length := putF_mono 9 a b h

/-- How many bytes there are, by the powers of 2^7. -/
theorem putF_len_iff : ∀ (k n j : Nat), 2 ^ (7 * j) ≤ n → n < 2 ^ (7 * (j + 1)) → j < k → (putF k n).length = j + 1 := by
  intro k
  induction k with
  | zero => intro n j _ _ h; omega
  | succ k ih =>
    intro n j h1 h2 h3
    rw [putF]
    cases j with
    | zero => rw [if_pos (by simpa using h2)]; rfl
    | succ j =>
      have e1 : 2 ^ (7 * (j + 1)) = 128 * 2 ^ (7 * j) := by rw [show 7 * (j + 1) = 7 + 7 * j from by omega, Nat.pow_add]
      have e2 : 2 ^ (7 * (j + 1 + 1)) = 128 * 2 ^ (7 * (j + 1)) := by rw [show 7 * (j + 1 + 1) = 7 + 7 * (j + 1) from by omega, Nat.pow_add]
      have hp : 0 < 2 ^ (7 * j) := Nat.pow_pos (by omega)
      rw [if_neg (by omega)]
      have := ih (n / 128) j (by omega) (by omega) (by omega)
      simp [this]

theorem putF_cons {k n : Nat} (h : ¬ n < 128) : putF (k + 1) n = UInt8.ofNat (128 + n % 128) :: putF k (n / 128) := by rw [putF, if_neg h]
theorem putF_one {k n : Nat} (h : n < 128) : putF (k + 1) n = [UInt8.ofNat n] := by rw [putF, if_pos h]

end Go.Proofs.Ytcogeflljcefjaa.Vp
