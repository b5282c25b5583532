/-
  Names as bytes, in plain Lean: thirteen digits behind a first byte, and back.
-/
namespace Go.Proofs.Ytgidaljhfngiaaa
namespace Np

/-- The last k digits of n, the highest first. -/
def dig : Nat → Nat → List UInt8
  | 0, _ => []
  | k + 1, n => dig k (n / 10) ++ [UInt8.ofNat (48 + n % 10)]

theorem dig_len : ∀ (k n : Nat), (dig k n).length = k
  | 0, _ => rfl
  | k + 1, n => by simp [dig, dig_len k (n / 10)]

theorem dig_add (j : Nat) : ∀ (k n : Nat), dig (j + k) n = dig j (n / 10 ^ k) ++ dig k n
  | 0, n => by simp [dig]
  | k + 1, n => by
    rw [show j + (k + 1) = (j + k) + 1 from rfl, dig, dig_add j k (n / 10), dig, Nat.div_div_eq_div_mul, Nat.pow_succ, Nat.mul_comm 10 (10 ^ k)]
    simp

theorem dig_cons (k n : Nat) : dig (k + 1) n = UInt8.ofNat (48 + n / 10 ^ k % 10) :: dig k n := by
  rw [show k + 1 = 1 + k from by omega, dig_add 1 k n]
  simp [dig]

/-- A name: its first byte, then thirteen digits; of no offset none. -/
def nameL (c : UInt8) (n : Int) : List UInt8 := if 0 ≤ n ∧ n ≤ 1099511627776 then c :: dig 13 n.toNat else []

def isDig (c : UInt8) : Bool := decide (48 ≤ c.toNat) && decide (c.toNat ≤ 57)
theorem isDig_iff (c : UInt8) : isDig c = true ↔ 48 ≤ c.toNat ∧ c.toNat ≤ 57 := by unfold isDig; simp
def val (l : List UInt8) : Nat := l.foldl (fun a c => a * 10 + (c.toNat - 48)) 0
theorem val_snoc (l : List UInt8) (c : UInt8) : val (l ++ [c]) = val l * 10 + (c.toNat - 48) := by simp [val]

theorem digit (n : Nat) : (UInt8.ofNat (48 + n % 10)).toNat = 48 + n % 10 := by
  rw [UInt8.toNat_ofNat']; omega

theorem val_dig : ∀ (k n : Nat), val (dig k n) = n % 10 ^ k
  | 0, n => by simp [dig, val, Nat.mod_one]
  | k + 1, n => by
    rw [dig, val_snoc, val_dig k, digit, Nat.pow_succ, Nat.mul_comm (10 ^ k) 10, Nat.mod_mul]
    omega

theorem dig_all : ∀ (k n : Nat), (dig k n).all isDig = true
  | 0, _ => rfl
  | k + 1, n => by
    rw [dig, List.all_append, dig_all k]
    simp only [List.all_cons, List.all_nil, Bool.and_true, Bool.true_and]
    rw [isDig_iff, digit]
    omega

theorem val_lt (l : List UInt8) (h : l.all isDig = true) : val l < 10 ^ l.length := by
  suffices H : ∀ (l : List UInt8) (a : Nat), l.all isDig = true → l.foldl (fun a c => a * 10 + (c.toNat - 48)) a < (a + 1) * 10 ^ l.length by
    have := H l 0 h
    simpa [val] using this
  intro l
  induction l with
  | nil => intro a _; simp
  | cons c l ih =>
    intro a h
    rw [List.all_cons, Bool.and_eq_true, isDig_iff] at h
    have := ih (a * 10 + (c.toNat - 48)) h.2
    rw [List.foldl_cons, List.length_cons, Nat.pow_succ]
    refine Nat.lt_of_lt_of_le this ?_
    rw [Nat.mul_comm (10 ^ l.length) 10, ← Nat.mul_assoc]
    exact Nat.mul_le_mul_right _ (by omega)

theorem val_take_lt (l : List UInt8) (k : Nat) (hk : k ≤ 12) (h : (l.take k).all isDig = true) : val (l.take k) < 1000000000000 := by
  refine Nat.lt_of_lt_of_le (val_lt _ h) ?_
  refine Nat.le_trans (Nat.pow_le_pow_right (by omega) (?_ : _ ≤ 12)) (by decide)
  simp; omega

theorem dig_val (l : List UInt8) (h : l.all isDig = true) : dig l.length (val l) = l := by
  suffices H : ∀ (k : Nat) (l : List UInt8), l.length = k → l.all isDig = true → dig k (val l) = l from H _ l rfl h
  intro k
  induction k with
  | zero => intro l hl _; rw [List.length_eq_zero_iff] at hl; subst hl; rfl
  | succ k ih =>
    intro l hl h
    have hne : l ≠ [] := by intro e; subst e; simp at hl
    obtain ⟨i, c, rfl⟩ : ∃ i c, l = i ++ [c] := ⟨l.dropLast, l.getLast hne, (List.dropLast_concat_getLast hne).symm⟩
    rw [List.all_append, Bool.and_eq_true] at h
    have hc : isDig c = true := by simpa using h.2
    rw [isDig_iff] at hc
    rw [val_snoc, dig, show (val i * 10 + (c.toNat - 48)) / 10 = val i from by omega, ih i (by simpa using hl) h.1, show 48 + (val i * 10 + (c.toNat - 48)) % 10 = c.toNat from by omega, UInt8.ofNat_toNat]

/-- Is it thirteen digits of an offset? -/
def offB (l : List UInt8) : Bool := l.all isDig && decide (val l ≤ 1099511627776)
theorem offB_iff (l : List UInt8) : offB l = true ↔ l.all isDig = true ∧ val l ≤ 1099511627776 := by unfold offB; simp
def offN (l : List UInt8) : Nat := if offB l then val l else 0

/-- What a text is the name of. -/
def kind (s : List UInt8) : UInt8 × Nat :=
  if s = [109] ∨ s = [110] then (s.headD 0, 0)
  else if s.length = 14 ∧ (s.headD 0 = 115 ∨ s.headD 0 = 116) ∧ offB s.tail = true then (s.headD 0, val s.tail)
  else (0, 0)

theorem kind_le (s : List UInt8) : (kind s).2 ≤ 1099511627776 := by
  unfold kind
  split
  · simp
  · split
    · next h => exact ((offB_iff _).1 h.2.2).2
    · simp

/-- A name is that offset's. -/
theorem kind_name {c : UInt8} (hc : c = 115 ∨ c = 116) {n : Nat} (h : n ≤ 1099511627776) : kind (nameL c (n : Int)) = (c, n) := by
  have e : nameL c (n : Int) = c :: dig 13 n := by unfold nameL; rw [if_pos ⟨by omega, by omega⟩]; simp
  have v : val (dig 13 n) = n := by rw [val_dig]; exact Nat.mod_eq_of_lt (by omega)
  rw [e]
  unfold kind
  have l := dig_len 13 n
  rw [if_neg, if_pos]
  · simp [v]
  · refine ⟨by simp [l], by simpa using hc, ?_⟩
    rw [List.tail_cons, offB_iff]
    exact ⟨dig_all _ _, by omega⟩
  · rintro (h | h) <;> · have := congrArg List.length h; simp [l] at this

/-- A text that is a name with an offset is that one's. -/
theorem name_kind {s : List UInt8} (h : (kind s).1 = 115 ∨ (kind s).1 = 116) : nameL (kind s).1 ((kind s).2 : Int) = s := by
  unfold kind at h ⊢
  by_cases h1 : s = [109] ∨ s = [110]
  · rw [if_pos h1] at h
    rcases h1 with rfl | rfl <;> simp at h
  · rw [if_neg h1] at h ⊢
    by_cases h2 : s.length = 14 ∧ (s.headD 0 = 115 ∨ s.headD 0 = 116) ∧ offB s.tail = true
    · rw [if_pos h2]
      obtain ⟨h3, h4, h5⟩ := h2
      rw [offB_iff] at h5
      match s, h3, h4, h5 with
      | c :: l, h3, h4, h5 =>
        simp only [List.headD_cons, List.tail_cons] at h5 ⊢
        have hl : l.length = 13 := by simpa using h3
        unfold nameL
        rw [if_pos ⟨by omega, by omega⟩]
        have := dig_val l h5.1
        rw [hl] at this
        simp [this]
    · rw [if_neg h2] at h
      simp at h

theorem kind_cases (s : List UInt8) : (kind s).1 = 115 ∨ (kind s).1 = 116 ∨ (((kind s).1 = 109 ∨ (kind s).1 = 110) ∧ s = [(kind s).1] ∧ (kind s).2 = 0) ∨ kind s = (0, 0) := by
  unfold kind
  by_cases h1 : s = [109] ∨ s = [110]
  · rw [if_pos h1]
    rcases h1 with rfl | rfl <;> simp
  · rw [if_neg h1]
    by_cases h2 : s.length = 14 ∧ (s.headD 0 = 115 ∨ s.headD 0 = 116) ∧ offB s.tail = true
    · rw [if_pos h2]
      rcases h2.2.1 with h | h
      · exact .inl h
      · exact .inr (.inl h)
    · rw [if_neg h2]; simp

/-- Names rise as offsets do. -/
theorem dig_lt : ∀ (k a b : Nat), dig k a < dig k b ↔ a % 10 ^ k < b % 10 ^ k
  | 0, a, b => by simp [dig, Nat.mod_one]
  | k + 1, a, b => by
    rw [dig_cons, dig_cons, List.cons_lt_cons_iff, dig_lt k, UInt8.lt_iff_toNat_lt, digit, digit, ← UInt8.toNat_inj, digit, digit, Nat.pow_succ, Nat.mod_mul, Nat.mod_mul (a := 10 ^ k)]
    have ha : a % 10 ^ k < 10 ^ k := Nat.mod_lt _ (Nat.pow_pos (by omega))
    have hb : b % 10 ^ k < 10 ^ k := Nat.mod_lt _ (Nat.pow_pos (by omega))
    generalize 10 ^ k = p at *
    generalize a % p = x at *
    generalize b % p = y at *
    generalize a / p % 10 = u
    generalize b / p % 10 = v
    constructor
    · rintro (h | ⟨h, h'⟩)
      · have : p * (u + 1) ≤ p * v := Nat.mul_le_mul_left _ (by omega)
        rw [Nat.mul_add] at this
        omega
      · have : u = v := by omega
        subst this; omega
    · intro h
      rcases Nat.lt_trichotomy u v with h1 | h1 | h1
      · exact .inl (by omega)
      · subst h1; exact .inr ⟨rfl, by omega⟩
      · have : p * (v + 1) ≤ p * u := Nat.mul_le_mul_left _ (by omega)
        rw [Nat.mul_add] at this
        omega

theorem name_lt (c : UInt8) {a b : Nat} (ha : a ≤ 1099511627776) (hb : b ≤ 1099511627776) : nameL c (a : Int) < nameL c (b : Int) ↔ a < b := by
  have e : ∀ n : Nat, n ≤ 1099511627776 → nameL c (n : Int) = c :: dig 13 n := by intro n h; unfold nameL; rw [if_pos ⟨by omega, by omega⟩]; simp
  rw [e a ha, e b hb, List.cons_lt_cons_iff]
  simp only [UInt8.lt_irrefl, false_or, true_and]
  rw [dig_lt, Nat.mod_eq_of_lt (by omega), Nat.mod_eq_of_lt (by omega)]

theorem name_inj {c : UInt8} (hc : c = 115 ∨ c = 116) {a b : Nat} (ha : a ≤ 1099511627776) (hb : b ≤ 1099511627776) (h : nameL c (a : Int) = nameL c (b : Int)) : a = b := by
  have := (kind_name hc ha).symm.trans ((congrArg kind h).trans (kind_name hc hb))
  exact congrArg Prod.snd this

theorem name_len (c : UInt8) {a : Nat} (ha : a ≤ 1099511627776) : (nameL c (a : Int)).length = 14 := by
  unfold nameL; rw [if_pos ⟨by omega, by omega⟩, List.length_cons, dig_len]

theorem name_short (c : UInt8) (a : Int) : (nameL c a).length ≤ 14 := by
  unfold nameL; split <;> simp [dig_len]

end Np
end Go.Proofs.Ytgidaljhfngiaaa
