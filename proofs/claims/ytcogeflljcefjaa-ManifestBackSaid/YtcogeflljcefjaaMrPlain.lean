/-
  A reader that takes a manifest's fields one behind the other and goes bad for good, in plain Lean; what it tells of a text.
-/
import Derived.Test.YtcogeflljcefjaaManPlain
namespace Go.Proofs.Ytcogeflljcefjaa.Qm

/-- A number: what is left behind it, is it bad. -/
def numR (l : List UInt8) (b : Bool) : Int × List UInt8 × Bool :=
  match Vp.take l with
  | none => (0, l, true)
  | some (n, j) => ((n : Int), l.drop j, b)
theorem numR_none {l : List UInt8} {b : Bool} (h : Vp.take l = none) : numR l b = (0, l, true) := by unfold numR; rw [h]
theorem numR_some {l : List UInt8} {b : Bool} {n j : Nat} (h : Vp.take l = some (n, j)) : numR l b = ((n : Int), l.drop j, b) := by unfold numR; rw [h]
theorem numR_in (l : List UInt8) (b : Bool) : 0 ≤ (numR l b).1 ∧ (numR l b).1 ≤ 9223372036854775807 ∧ (numR l b).2.1.length ≤ l.length := by
  rcases h : Vp.take l with _ | ⟨n, j⟩
  · rw [numR_none h]; exact ⟨Int.le_refl _, show (0 : Int) ≤ 9223372036854775807 by decide, Nat.le_refl _⟩
  · rw [numR_some h]
    obtain ⟨_, _, _, h4⟩ := Vp.take_some h
    refine ⟨by show (0 : Int) ≤ (n : Int); omega, by show (n : Int) ≤ _; omega, by rw [List.length_drop]; omega⟩
theorem numR_ok {l r : List UInt8} {b : Bool} {x : Int} (h : numR l b = (x, r, false)) : b = false ∧ l = puts [x] ++ r := by
  rcases ht : Vp.take l with _ | ⟨n, j⟩
  · rw [numR_none ht] at h
    injection h with _ h; injection h with _ h
    cases h
  · rw [numR_some ht] at h
    injection h with h1 h; injection h with h2 h3
    refine ⟨h3, ?_⟩
    rw [puts_one, ← h1, ← h2, Int.toNat_natCast, Vp.put_take ht, List.take_append_drop]
theorem numR_put {x : Int} (h : 0 ≤ x ∧ x ≤ 1099511627776) (r : List UInt8) (b : Bool) : numR (puts [x] ++ r) b = (x, r, b) := by
  have := Vp.take_put x.toNat r (by omega)
  rw [puts_one, numR_some this, List.drop_left' rfl, show ((x.toNat : Nat) : Int) = x from by omega]

/-- k numbers. -/
def segR : Nat → List UInt8 → Bool → List Int × List UInt8 × Bool
  | 0, l, b => ([], l, b)
  | k + 1, l, b => ((segR k l b).1 ++ [(numR (segR k l b).2.1 (segR k l b).2.2).1], (numR (segR k l b).2.1 (segR k l b).2.2).2.1, (numR (segR k l b).2.1 (segR k l b).2.2).2.2)
theorem segR_len (l : List UInt8) (b : Bool) : ∀ k, (segR k l b).1.length = k
  | 0 => rfl
  | k + 1 => by show ((segR k l b).1 ++ [_]).length = _; rw [List.length_append, segR_len l b k]; rfl
theorem segR_in (l : List UInt8) (b : Bool) : ∀ k, (∀ x ∈ (segR k l b).1, 0 ≤ x ∧ x ≤ 9223372036854775807) ∧ (segR k l b).2.1.length ≤ l.length
  | 0 => ⟨by simp [segR], Nat.le_refl _⟩
  | k + 1 => by
    obtain ⟨h1, h2⟩ := segR_in l b k
    obtain ⟨h3, h4, h5⟩ := numR_in (segR k l b).2.1 (segR k l b).2.2
    refine ⟨fun x hx => ?_, Nat.le_trans h5 h2⟩
    have hx' : x ∈ (segR k l b).1 ++ [(numR (segR k l b).2.1 (segR k l b).2.2).1] := hx
    rw [List.mem_append, List.mem_singleton] at hx'
    rcases hx' with hx' | rfl
    · exact h1 x hx'
    · exact ⟨h3, h4⟩
theorem segR_ok (l : List UInt8) (b : Bool) : ∀ k, (segR k l b).2.2 = false → b = false ∧ l = puts (segR k l b).1 ++ (segR k l b).2.1
  | 0, h => ⟨h, rfl⟩
  | k + 1, h => by
    have h' : (numR (segR k l b).2.1 (segR k l b).2.2).2.2 = false := h
    obtain ⟨h1, h2⟩ := numR_ok (x := (numR (segR k l b).2.1 (segR k l b).2.2).1) (r := (numR (segR k l b).2.1 (segR k l b).2.2).2.1) (by rw [← h'])
    obtain ⟨h3, h4⟩ := segR_ok l b k h1
    refine ⟨h3, ?_⟩
    show l = puts ((segR k l b).1 ++ [_]) ++ (numR (segR k l b).2.1 (segR k l b).2.2).2.1
    rw [puts_append, List.append_assoc, ← h2]
    exact h4
theorem segR_put {L : List Int} (h : ∀ x ∈ L, 0 ≤ x ∧ x ≤ 1099511627776) (r : List UInt8) (b : Bool) : ∀ k, k ≤ L.length → segR k (puts L ++ r) b = (L.take k, puts (L.drop k) ++ r, b)
  | 0, _ => rfl
  | k + 1, hk => by
    have ih := segR_put h r b k (by omega)
    have e : L.drop k = L[k] :: L.drop (k + 1) := List.drop_eq_getElem_cons (by omega)
    have hn : numR (puts (L.drop k) ++ r) b = (L[k], puts (L.drop (k + 1)) ++ r, b) := by
      rw [e, show L[k] :: L.drop (k + 1) = [L[k]] ++ L.drop (k + 1) from rfl, puts_append, List.append_assoc]
      exact numR_put (h _ (List.getElem_mem _)) _ _
    show (_, _, _) = _
    rw [ih]
    dsimp only
    rw [hn, List.take_succ_eq_append_getElem (by omega)]
/-- How many, and these. -/
def segsR (l : List UInt8) (b : Bool) : List Int × List UInt8 × Bool :=
  if 64 < (numR l b).1 then ([], (numR l b).2.1, true) else segR (numR l b).1.toNat (numR l b).2.1 (numR l b).2.2
theorem segsR_in (l : List UInt8) (b : Bool) : (∀ x ∈ (segsR l b).1, 0 ≤ x ∧ x ≤ 9223372036854775807) ∧ (segsR l b).2.1.length ≤ l.length := by
  obtain ⟨_, _, h5⟩ := numR_in l b
  unfold segsR
  split
  · exact ⟨by simp, h5⟩
  · obtain ⟨h1, h2⟩ := segR_in (numR l b).2.1 (numR l b).2.2 (numR l b).1.toNat
    exact ⟨h1, Nat.le_trans h2 h5⟩
theorem segsR_ok {l : List UInt8} {b : Bool} (h : (segsR l b).2.2 = false) : b = false ∧ l = puts (((segsR l b).1.length : Int) :: (segsR l b).1) ++ (segsR l b).2.1 := by
  obtain ⟨h0, _, _⟩ := numR_in l b
  unfold segsR at h ⊢
  split at h
  · cases h
  · rename_i hn
    rw [if_neg hn]
    obtain ⟨h1, h2⟩ := segR_ok _ _ _ h
    obtain ⟨h3, h4⟩ := numR_ok (l := l) (b := b) (x := (numR l b).1) (r := (numR l b).2.1) (by rw [← h1])
    refine ⟨h3, ?_⟩
    rw [segR_len, show (((numR l b).1.toNat : Nat) : Int) = (numR l b).1 from by omega, puts_cons, List.append_assoc, ← h2]
    rw [puts_one] at h4
    exact h4
theorem segsR_put {L : List Int} (hl : L.length ≤ 64) (h : ∀ x ∈ L, 0 ≤ x ∧ x ≤ 1099511627776) (r : List UInt8) (b : Bool) : segsR (puts ((L.length : Int) :: L) ++ r) b = (L, r, b) := by
  have hn : numR (puts ((L.length : Int) :: L) ++ r) b = ((L.length : Int), puts L ++ r, b) := by
    rw [show ((L.length : Int) :: L) = [(L.length : Int)] ++ L from rfl, puts_append, List.append_assoc]
    exact numR_put ⟨by omega, by omega⟩ _ _
  unfold segsR
  rw [hn]
  dsimp only
  rw [if_neg (by omega), Int.toNat_natCast, segR_put h r b L.length (Nat.le_refl _), List.take_length, List.drop_length]
  rfl

/-- The sum of four bytes. -/
def val4 (l : List UInt8) : Nat := (l.getD 0 0).toNat + 256 * (l.getD 1 0).toNat + 65536 * (l.getD 2 0).toNat + 16777216 * (l.getD 3 0).toNat
theorem val4_lt (l : List UInt8) : val4 l < 4294967296 := by
  unfold val4
  have := (l.getD 0 0).toNat_lt
  have := (l.getD 1 0).toNat_lt
  have := (l.getD 2 0).toNat_lt
  have := (l.getD 3 0).toNat_lt
  omega
def sumR (l : List UInt8) (b : Bool) : Int × List UInt8 × Bool := if l.length < 4 then (0, l, true) else ((val4 l : Int), l.drop 4, b)
theorem sumR_in (l : List UInt8) (b : Bool) : 0 ≤ (sumR l b).1 ∧ (sumR l b).1 < 4294967296 := by
  unfold sumR
  split
  · exact ⟨Int.le_refl _, show (0 : Int) < 4294967296 by decide⟩
  · have := val4_lt l
    exact ⟨by show (0 : Int) ≤ (val4 l : Int); omega, by show (val4 l : Int) < _; omega⟩
theorem four_val (l : List UInt8) (h : 4 ≤ l.length) : Fr.four (val4 l) = l.take 4 := by
  match l, h with
  | a :: b :: c :: d :: t, _ =>
    have := a.toNat_lt
    have := b.toNat_lt
    have := c.toNat_lt
    have := d.toNat_lt
    have e : val4 (a :: b :: c :: d :: t) = a.toNat + 256 * b.toNat + 65536 * c.toNat + 16777216 * d.toNat := rfl
    have h0 : (a.toNat + 256 * b.toNat + 65536 * c.toNat + 16777216 * d.toNat) % 256 = a.toNat := by omega
    have h1 : (a.toNat + 256 * b.toNat + 65536 * c.toNat + 16777216 * d.toNat) / 256 % 256 = b.toNat := by omega
    have h2 : (a.toNat + 256 * b.toNat + 65536 * c.toNat + 16777216 * d.toNat) / 65536 % 256 = c.toNat := by omega
    have h3 : (a.toNat + 256 * b.toNat + 65536 * c.toNat + 16777216 * d.toNat) / 16777216 = d.toNat := by omega
    unfold Fr.four
    rw [e, h0, h1, h2, h3]
    simp
theorem sumR_ok {l : List UInt8} {b : Bool} (h : (sumR l b).2.2 = false) : b = false ∧ l = Fr.four (sumR l b).1.toNat ++ (sumR l b).2.1 := by
  unfold sumR at h ⊢
  split at h
  · cases h
  · rename_i hn
    rw [if_neg hn]
    refine ⟨h, ?_⟩
    rw [Int.toNat_natCast, four_val l (by omega)]
    exact (List.take_append_drop 4 l).symm
theorem sumR_put {c : Int} (hc : 0 ≤ c ∧ c < 4294967296) (r : List UInt8) (b : Bool) : sumR (Fr.four c.toNat ++ r) b = (c, r, b) := by
  have hl : (Fr.four c.toNat ++ r).length = 4 + r.length := by rw [List.length_append, Fr.four_len]
  unfold sumR
  rw [if_neg (by omega), List.drop_left' (Fr.four_len _)]
  have h1 := four_val (Fr.four c.toNat ++ r) (by omega)
  rw [List.take_left' (Fr.four_len _)] at h1
  have h2 := Fr.four_inj (val4_lt _) (by omega) h1
  rw [h2, show ((c.toNat : Nat) : Int) = c from by omega]

/-- All fields. -/
def manR (l : List UInt8) (b : Bool) : Mn × List UInt8 × Bool :=
  let x := numR l b
  let y := segsR x.2.1 x.2.2
  let z := numR y.2.1 y.2.2
  let u := sumR z.2.1 z.2.2
  (⟨x.1, y.1, z.1, u.1⟩, u.2.1, u.2.2)
theorem manR_ok {l : List UInt8} {b : Bool} (h : (manR l b).2.2 = false) : l = body (manR l b).1 ++ (manR l b).2.1 := by
  unfold manR at h ⊢
  dsimp only at h ⊢
  obtain ⟨h1, e1⟩ := sumR_ok h
  obtain ⟨h2, e2⟩ := numR_ok (x := (numR (segsR (numR l b).2.1 (numR l b).2.2).2.1 (segsR (numR l b).2.1 (numR l b).2.2).2.2).1) (r := (numR (segsR (numR l b).2.1 (numR l b).2.2).2.1 (segsR (numR l b).2.1 (numR l b).2.2).2.2).2.1) (l := (segsR (numR l b).2.1 (numR l b).2.2).2.1) (b := (segsR (numR l b).2.1 (numR l b).2.2).2.2) (by rw [← h1])
  obtain ⟨h3, e3⟩ := segsR_ok h2
  obtain ⟨_, e4⟩ := numR_ok (x := (numR l b).1) (r := (numR l b).2.1) (l := l) (b := b) (by rw [← h3])
  unfold body nums
  dsimp only
  rw [show ∀ (a n : Int) (t : List Int) (z : Int), a :: n :: (t ++ [z]) = [a] ++ ((n :: t) ++ [z]) from fun _ _ _ _ => rfl, puts_append, puts_append, List.append_assoc, List.append_assoc, List.append_assoc, ← e1, ← e2, ← e3]
  exact e4
theorem manR_put {m : Mn} (h : Ok m) : manR (body m) false = (m, [], false) := by
  have hnn := nums_nonneg h
  have e : body m = puts [m.v] ++ (puts ((m.l.length : Int) :: m.l) ++ (puts [m.z] ++ (Fr.four m.c.toNat ++ []))) := by
    unfold body nums
    rw [show m.v :: (m.l.length : Int) :: (m.l ++ [m.z]) = [m.v] ++ (((m.l.length : Int) :: m.l) ++ [m.z]) from rfl, puts_append, puts_append, List.append_assoc, List.append_assoc, List.append_nil]
  unfold manR
  dsimp only
  rw [e, numR_put (hnn _ List.mem_cons_self)]
  dsimp only
  rw [segsR_put h.n1 (fun x hx => hnn x (by unfold nums; simp [hx]))]
  dsimp only
  rw [numR_put (hnn _ (by unfold nums; simp))]
  dsimp only
  rw [sumR_put h.c]
/-- What the fields tell of a text. -/
theorem getM_no2 {s : List UInt8} {j : Nat} {b : List UInt8} (h : Fr.nx s = (0, j, b)) (hbad : (manR b false).2.2 = true ∨ (manR b false).2.1 ≠ [] ∨ j < s.length ∨ ¬ Ok (manR b false).1) : getM s = (zero, 3) := by
  refine getM_no h fun ⟨m, hm, e⟩ => ?_
  subst e
  have h1 := Fr.nx_fr (body m) [] (body_may hm)
  rw [List.append_nil, h] at h1
  injection h1 with _ h1; injection h1 with hj hb
  subst hb
  rw [manR_put hm] at hbad
  rcases hbad with hb | hb | hb | hb
  · cases hb
  · exact hb rfl
  · omega
  · exact hb hm
theorem getM_yes2 {s : List UInt8} {j : Nat} {b : List UInt8} (h : Fr.nx s = (0, j, b)) (h1 : (manR b false).2.2 = false) (h2 : (manR b false).2.1 = []) (h3 : ¬ j < s.length) (h4 : Ok (manR b false).1) : getM s = ((manR b false).1, 0) := by
  rcases Fr.nx_cases s with ⟨e, he, hx⟩ | ⟨j', b', he, _, _, _, hf⟩
  · rw [h] at he
    injection he with he
    omega
  · rw [h] at he
    injection he with _ he; injection he with hj hb
    subst hj hb
    have e := manR_ok h1
    rw [h2, List.append_nil] at e
    rw [List.take_of_length_le (by omega)] at hf
    rw [← hf, e]
    rw [← e]
    have := getM_yes h4
    rw [← e] at this
    exact this

end Go.Proofs.Ytcogeflljcefjaa.Qm
