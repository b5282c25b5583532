/-
  Sums of bytes (CRC-32C) in plain Lean: bit by bit over natural numbers, four bits at a time, and what turned bits do to them.
-/
namespace Go.Proofs.Ytcogeflljcefjaa.Cp

/-- What is xored in for a bit that goes out. -/
def poly : Nat := 2197175160
/-- One bit goes out. -/
def bit (x : Nat) : Nat := (x / 2) ^^^ (x % 2 * poly)
/-- n bits go out. -/
def bitN : Nat → Nat → Nat
  | 0, x => x
  | n + 1, x => bitN n (bit x)

theorem bitN_add (a b x : Nat) : bitN (a + b) x = bitN b (bitN a x) := by
  induction a generalizing x with
  | zero => simp [bitN]
  | succ a ih => rw [show a + 1 + b = (a + b) + 1 from by omega]; exact ih (bit x)
theorem bitN_succ' (n x : Nat) : bitN (n + 1) x = bit (bitN n x) := by rw [bitN_add n 1]; rfl

theorem xor_half (x y : Nat) : (x ^^^ y) / 2 = (x / 2) ^^^ (y / 2) := by
  have := @Nat.shiftRight_xor_distrib 1 x y
  simpa [Nat.shiftRight_eq_div_pow] using this
theorem xor_odd (x y : Nat) : (x ^^^ y) % 2 = (x % 2 + y % 2) % 2 := by
  have h := @Nat.xor_mod_two_pow x y 1
  simp at h
  rw [h]
  rcases Nat.mod_two_eq_zero_or_one x with a | a <;> rcases Nat.mod_two_eq_zero_or_one y with b | b <;> simp [a, b]

theorem bit_xor (x y : Nat) : bit (x ^^^ y) = bit x ^^^ bit y := by
  unfold bit
  rw [xor_half, xor_odd]
  rcases Nat.mod_two_eq_zero_or_one x with a | a <;> rcases Nat.mod_two_eq_zero_or_one y with b | b <;> simp only [a, b, Nat.zero_mul, Nat.one_mul, Nat.xor_zero, Nat.zero_add, Nat.add_zero, Nat.mod_self, Nat.zero_mod, Nat.one_mod, Nat.reduceAdd]
  · rw [Nat.xor_assoc]
  · rw [Nat.xor_assoc, Nat.xor_assoc, Nat.xor_comm (y / 2) poly]
  · have e : (x / 2 ^^^ poly) ^^^ (y / 2 ^^^ poly) = (x / 2 ^^^ y / 2) ^^^ (poly ^^^ poly) := by ac_rfl
    rw [e, Nat.xor_self, Nat.xor_zero]
theorem bitN_xor (n x y : Nat) : bitN n (x ^^^ y) = bitN n x ^^^ bitN n y := by
  induction n generalizing x y with
  | zero => rfl
  | succ n ih => show bitN n (bit (x ^^^ y)) = bitN n (bit x) ^^^ bitN n (bit y); rw [bit_xor, ih]
theorem bit_double (x : Nat) : bit (2 * x) = x := by
  unfold bit
  have h1 : 2 * x / 2 = x := by omega
  have h2 : 2 * x % 2 = 0 := by omega
  rw [h1, h2, Nat.zero_mul, Nat.xor_zero]
theorem bitN_shift (n x : Nat) : bitN n (2 ^ n * x) = x := by
  induction n generalizing x with
  | zero => simp [bitN]
  | succ n ih =>
    show bitN n (bit (2 ^ (n + 1) * x)) = x
    rw [show 2 ^ (n + 1) * x = 2 * (2 ^ n * x) from by rw [Nat.pow_succ]; ac_rfl, bit_double, ih]
theorem poly_lt : poly < 4294967296 := by decide
theorem bit_lt {x : Nat} (h : x < 4294967296) : bit x < 4294967296 := by
  unfold bit
  have h1 : x / 2 < 2 ^ 32 := by omega
  have h2 : x % 2 * poly < 2 ^ 32 := by rcases Nat.mod_two_eq_zero_or_one x with a | a <;> rw [a] <;> decide
  exact Nat.xor_lt_two_pow h1 h2
theorem bitN_lt (n : Nat) {x : Nat} (h : x < 4294967296) : bitN n x < 4294967296 := by
  induction n generalizing x with
  | zero => exact h
  | succ n ih => exact ih (bit_lt h)
/-- What isn't 0 stays so: the polynomial's highest bit is 1. -/
theorem bit_pos {x : Nat} (h : x < 4294967296) (h0 : 0 < x) : 0 < bit x := by
  unfold bit
  rcases Nat.mod_two_eq_zero_or_one x with a | a
  · rw [a, Nat.zero_mul, Nat.xor_zero]; omega
  · rw [a, Nat.one_mul]
    rcases Nat.eq_zero_or_pos (x / 2 ^^^ poly) with e | e
    · exfalso
      have e2 : x / 2 = poly := by
        have h := congrArg (fun z => z ^^^ poly) e
        simp only [Nat.xor_assoc, Nat.xor_self, Nat.xor_zero, Nat.zero_xor] at h
        exact h
      have : x / 2 < 2147483648 := by omega
      rw [e2] at this
      exact absurd this (by decide)
    · exact e
theorem bitN_pos (n : Nat) {x : Nat} (h : x < 4294967296) (h0 : 0 < x) : 0 < bitN n x := by
  induction n generalizing x with
  | zero => exact h0
  | succ n ih => exact ih (bit_lt h) (bit_pos h h0)

/-- A byte goes in. -/
def byte (x : Nat) (b : UInt8) : Nat := bitN 8 (x ^^^ b.toNat)
/-- Bytes go in. -/
def on (x : Nat) (l : List UInt8) : Nat := l.foldl byte x
theorem on_nil (x : Nat) : on x [] = x := rfl
theorem on_cons (x : Nat) (b : UInt8) (l : List UInt8) : on x (b :: l) = on (byte x b) l := rfl
theorem on_append (x : Nat) (a b : List UInt8) : on x (a ++ b) = on (on x a) b := by unfold on; rw [List.foldl_append]
theorem byte_lt {x : Nat} (b : UInt8) (h : x < 4294967296) : byte x b < 4294967296 := by
  unfold byte
  refine bitN_lt 8 ?_
  have : b.toNat < 2 ^ 32 := by have := b.toNat_lt; omega
  exact Nat.xor_lt_two_pow (show x < 2 ^ 32 from h) this
theorem on_lt {x : Nat} (l : List UInt8) (h : x < 4294967296) : on x l < 4294967296 := by
  induction l generalizing x with
  | nil => exact h
  | cons b l ih => exact ih (byte_lt b h)

/-- All 32 bits turned. -/
def turn (x : Nat) : Nat := 4294967295 - x
theorem turn_lt (x : Nat) : turn x < 4294967296 := by unfold turn; omega
theorem turn_turn {x : Nat} (h : x < 4294967296) : turn (turn x) = x := by unfold turn; omega
/-- The sum of bytes whose sum that is, and of l behind them. -/
def sum (s : Nat) (l : List UInt8) : Nat := turn (on (turn s) l)
theorem sum_lt (s : Nat) (l : List UInt8) : sum s l < 4294967296 := turn_lt _
theorem sum_append {s : Nat} (a b : List UInt8) : sum s (a ++ b) = sum (sum s a) b := by
  unfold sum
  rw [on_append, turn_turn (on_lt a (turn_lt s))]
theorem sum_nil {s : Nat} (h : s < 4294967296) : sum s [] = s := by
  unfold sum; rw [on_nil, turn_turn h]

/-- Four bits go out: by a table of sixteen. -/
theorem four (x : Nat) : bitN 4 x = (x / 16) ^^^ bitN 4 (x % 16) := by
  have e : x = (2 ^ 4 * (x / 16)) ^^^ (x % 16) := by
    have h := Nat.two_pow_add_eq_or_of_lt (i := 4) (b := x % 16) (by omega) (x / 16)
    have hx : 2 ^ 4 * (x / 16) + x % 16 = x := by omega
    rw [hx] at h
    refine h.trans ?_
    apply Nat.eq_of_testBit_eq
    intro i
    rw [Nat.testBit_or, Nat.testBit_xor]
    rcases Nat.lt_or_ge i 4 with hi | hi
    · have : (2 ^ 4 * (x / 16)).testBit i = false := by rw [Nat.testBit_two_pow_mul]; simp; omega
      rw [this]; simp
    · have : (x % 16).testBit i = false := by
        apply Nat.testBit_lt_two_pow
        exact Nat.lt_of_lt_of_le (show x % 16 < 2 ^ 4 from by omega) (Nat.pow_le_pow_right (by omega) hi)
      rw [this]; simp
  conv => lhs; rw [e]
  rw [bitN_xor, bitN_shift]
theorem byte_fours (x : Nat) (b : UInt8) : byte x b = bitN 4 (bitN 4 (x ^^^ b.toNat)) := bitN_add 4 4 _

/-- The number whose bits the bytes are, the lowest first. -/
def num : List UInt8 → Nat
  | [] => 0
  | b :: l => b.toNat ^^^ (2 ^ 8 * num l)
theorem on_num (x : Nat) (l : List UInt8) : on x l = bitN (8 * l.length) (x ^^^ num l) := by
  induction l generalizing x with
  | nil => simp [on, num, bitN]
  | cons b l ih =>
    rw [on_cons, ih, List.length_cons, show 8 * (l.length + 1) = 8 + 8 * l.length from by omega, bitN_add, num, ← Nat.xor_assoc, bitN_xor 8, bitN_shift]
    rfl

theorem shl_xor (k a b : Nat) : 2 ^ k * (a ^^^ b) = (2 ^ k * a) ^^^ (2 ^ k * b) := by
  have := @Nat.shiftLeft_xor_distrib k a b
  simpa [Nat.shiftLeft_eq, Nat.mul_comm] using this

/-- A bit of a byte turned is that bit of the number turned. -/
theorem num_set (l : List UInt8) (j r : Nat) (h : j < l.length) (c : UInt8) (hc : c.toNat = l[j].toNat ^^^ 2 ^ r) :
    num (l.set j c) = num l ^^^ 2 ^ (8 * j + r) := by
  induction l generalizing j with
  | nil => simp at h
  | cons b l ih =>
    cases j with
    | zero =>
      simp only [List.getElem_cons_zero] at hc
      show c.toNat ^^^ (2 ^ 8 * num l) = _
      rw [hc, num]
      simp only [Nat.mul_zero, Nat.zero_add]
      ac_rfl
    | succ j =>
      simp only [List.getElem_cons_succ] at hc
      have := ih j (by simpa using h) hc
      show b.toNat ^^^ (2 ^ 8 * num (l.set j c)) = _
      rw [this, shl_xor, num, ← Nat.pow_add, show 8 + (8 * j + r) = 8 * (j + 1) + r from by omega]
      ac_rfl

/-- TURNED BITS: up to 32 of them, one behind the other, the first one is turned: another sum. -/
theorem burst (s : Nat) (a b : List UInt8) (k e : Nat) (hab : b.length = a.length) (hk : k < 8 * a.length) (he : e < 4294967296) (h0 : 0 < e) (hn : num b = num a ^^^ (2 ^ k * e)) :
    sum s b ≠ sum s a := by
  intro h
  unfold sum at h
  have l1 := on_lt a (turn_lt s)
  have l2 := on_lt b (turn_lt s)
  have h2 : on (turn s) b = on (turn s) a := by unfold turn at *; omega
  rw [on_num, on_num, hab, hn, ← Nat.xor_assoc, bitN_xor _ (turn s ^^^ num a)] at h2
  have h3 : bitN (8 * a.length) (2 ^ k * e) = 0 := by
    have e4 := congrArg (fun z => bitN (8 * a.length) (turn s ^^^ num a) ^^^ z) h2
    simp only [← Nat.xor_assoc, Nat.xor_self, Nat.zero_xor] at e4
    exact e4
  rw [show 8 * a.length = k + (8 * a.length - k) from by omega, bitN_add, bitN_shift] at h3
  have := bitN_pos (8 * a.length - k) he h0
  omega

/-- What bits 0 to i - 1 of e are, and one more. -/
theorem low_succ (e i : Nat) : e % 2 ^ (i + 1) = if e / 2 ^ i % 2 = 1 then (e % 2 ^ i) ^^^ 2 ^ i else e % 2 ^ i := by
  have hm : e % 2 ^ (i + 1) = e % 2 ^ i + 2 ^ i * (e / 2 ^ i % 2) := by
    rw [Nat.pow_succ, Nat.mod_mul]
  rcases Nat.mod_two_eq_zero_or_one (e / 2 ^ i) with a | a
  · rw [hm, a, if_neg (by omega)]; simp
  · rw [hm, a, if_pos rfl, Nat.mul_one]
    have hlt : e % 2 ^ i < 2 ^ i := Nat.mod_lt _ (Nat.two_pow_pos i)
    have h := Nat.two_pow_add_eq_or_of_lt (i := i) (b := e % 2 ^ i) hlt 1
    rw [Nat.mul_one] at h
    rw [Nat.add_comm, h]
    apply Nat.eq_of_testBit_eq
    intro j
    rw [Nat.testBit_or, Nat.testBit_xor, Nat.testBit_two_pow]
    by_cases hj : i = j
    · subst hj
      have : (e % 2 ^ i).testBit i = false := Nat.testBit_lt_two_pow hlt
      simp [this]
    · simp [hj]

end Go.Proofs.Ytcogeflljcefjaa.Cp
