/-
  Manifests, in plain Lean: which may be, their bytes, the one of a text.
-/
import Derived.Test.YtcogeflljcefjaaFramePlain
namespace Go.Proofs.Ytcogeflljcefjaa.Qm

/-- A manifest: its version, its segments' offsets, a snapshot's size and sum. -/
structure Mn where
  v : Int
  l : List Int
  z : Int
  c : Int
def zero : Mn := ⟨0, [], 0, 0⟩
/-- Is the i-th offset as it may be, and above the one ahead of it? -/
def AtOk (l : List Int) (i : Nat) : Prop := 0 ≤ l.getD i 0 ∧ l.getD i 0 ≤ 1099511627776 ∧ (0 < i → l.getD (i - 1) 0 < l.getD i 0)
structure Ok (m : Mn) : Prop where
  v0 : 1 ≤ m.v
  v1 : m.v ≤ 1099511627776
  n0 : 1 ≤ m.l.length
  n1 : m.l.length ≤ 64
  at_ : ∀ i, i < m.l.length → AtOk m.l i
  z : (m.l.getD 0 0 = 0 ∧ m.z = 0 ∧ m.c = 0) ∨ (m.l.getD 0 0 ≠ 0 ∧ 1 ≤ m.z ∧ m.z ≤ 65536)
  c : 0 ≤ m.c ∧ m.c < 4294967296

/-- Numbers as bytes, one behind the other. -/
def puts (l : List Int) : List UInt8 := l.flatMap fun n => Vp.put n.toNat
theorem puts_nil : puts [] = [] := rfl
theorem puts_cons (n : Int) (l : List Int) : puts (n :: l) = Vp.put n.toNat ++ puts l := rfl
theorem puts_append (a b : List Int) : puts (a ++ b) = puts a ++ puts b := by unfold puts; simp
theorem puts_one (n : Int) : puts [n] = Vp.put n.toNat := by unfold puts; simp
theorem put_le9 (n : Nat) : (Vp.put n).length ≤ 9 := Vp.put_len_le n
theorem puts_le (l : List Int) : (puts l).length ≤ 9 * l.length := by
  induction l with
  | nil => simp [puts]
  | cons n l ih =>
    rw [puts_cons, List.length_append, List.length_cons]
    have := put_le9 n.toNat
    omega
/-- A manifest's numbers, its body. -/
def nums (m : Mn) : List Int := m.v :: (m.l.length : Int) :: (m.l ++ [m.z])
def body (m : Mn) : List UInt8 := puts (nums m) ++ Fr.four m.c.toNat
theorem nums_len (m : Mn) : (nums m).length = m.l.length + 3 := by simp [nums]
theorem body_len (m : Mn) : (body m).length = (puts (nums m)).length + 4 := by unfold body; rw [List.length_append, Fr.four_len]
theorem body_may {m : Mn} (h : Ok m) : Fr.May (body m).length := by
  have h1 := puts_le (nums m)
  rw [nums_len] at h1
  have h2 := h.n1
  rw [body_len]
  exact ⟨by omega, by omega⟩
theorem nums_nonneg {m : Mn} (h : Ok m) : ∀ n ∈ nums m, 0 ≤ n ∧ n ≤ 1099511627776 := by
  intro n hn
  unfold nums at hn
  rw [List.mem_cons, List.mem_cons, List.mem_append, List.mem_singleton] at hn
  rcases hn with rfl | rfl | hn | rfl
  · exact ⟨by have := h.v0; omega, h.v1⟩
  · have := h.n1; omega
  · obtain ⟨i, hi, rfl⟩ := List.getElem_of_mem hn
    have := h.at_ i hi
    unfold AtOk at this
    have e : m.l.getD i 0 = m.l[i] := by simp [List.getD_eq_getElem?_getD, hi]
    rw [e] at this
    exact ⟨this.1, this.2.1⟩
  · rcases h.z with ⟨_, h1, _⟩ | ⟨_, h1, h2⟩ <;> omega

/-- The number at the beginning of the rest. -/
theorem take_puts {l : List Int} (h : ∀ n ∈ l, 0 ≤ n ∧ n ≤ 1099511627776) {i : Nat} (hi : i < l.length) (r : List UInt8) :
    Vp.take ((puts l ++ r).drop (puts (l.take i)).length) = some ((l.getD i 0).toNat, (Vp.put (l.getD i 0).toNat).length) ∧ (puts (l.take (i + 1))).length = (puts (l.take i)).length + (Vp.put (l.getD i 0).toNat).length := by
  have e : l.getD i 0 = l[i] := by simp [List.getD_eq_getElem?_getD, hi]
  have e1 : l = l.take i ++ l[i] :: l.drop (i + 1) := by rw [← List.drop_eq_getElem_cons hi, List.take_append_drop]
  have e2 : puts l = puts (l.take i) ++ (Vp.put l[i].toNat ++ puts (l.drop (i + 1))) := by
    conv => lhs; rw [e1]
    rw [puts_append, puts_cons]
  rw [e]
  constructor
  · rw [e2, List.append_assoc, List.drop_left' rfl, List.append_assoc]
    have := h _ (List.getElem_mem hi)
    exact Vp.take_put _ _ (by omega)
  · rw [List.take_succ_eq_append_getElem hi, puts_append, puts_one, List.length_append]

/-- Bodies tell their numbers apart. -/
theorem puts_inj : ∀ (n : Nat) (a b : List Int) (r t : List UInt8), a.length = n → b.length = n → (∀ x ∈ a, 0 ≤ x ∧ x ≤ 1099511627776) → (∀ x ∈ b, 0 ≤ x ∧ x ≤ 1099511627776) → puts a ++ r = puts b ++ t → a = b ∧ r = t
  | 0, a, b, r, t, ha, hb, _, _, h => by
    obtain rfl := List.length_eq_zero_iff.1 ha
    obtain rfl := List.length_eq_zero_iff.1 hb
    exact ⟨rfl, h⟩
  | n + 1, x :: a, y :: b, r, t, ha, hb, h1, h2, h => by
    have hx := h1 x List.mem_cons_self
    have hy := h2 y List.mem_cons_self
    rw [puts_cons, puts_cons, List.append_assoc, List.append_assoc] at h
    have t1 := Vp.take_put x.toNat (puts a ++ r) (by omega)
    have t2 := Vp.take_put y.toNat (puts b ++ t) (by omega)
    rw [h, t2] at t1
    injection t1 with t1
    injection t1 with t1 t3
    have exy : x = y := by omega
    subst exy
    have h' := List.append_cancel_left h
    obtain ⟨e1, e2⟩ := puts_inj n a b r t (by simpa using ha) (by simpa using hb) (fun z hz => h1 z (List.mem_cons_of_mem _ hz)) (fun z hz => h2 z (List.mem_cons_of_mem _ hz)) h'
    exact ⟨by rw [e1], e2⟩
theorem nums_two (m : Mn) : ∃ t, nums m = [m.v, (m.l.length : Int)] ++ t := ⟨m.l ++ [m.z], rfl⟩
theorem body_inj {a b : Mn} (ha : Ok a) (hb : Ok b) (h : body a = body b) : a = b := by
  have na := nums_nonneg ha
  have nb := nums_nonneg hb
  -- the first two numbers, then all
  obtain ⟨ta, ea⟩ := nums_two a
  obtain ⟨tb, eb⟩ := nums_two b
  have h1 : puts [a.v, (a.l.length : Int)] ++ (puts ta ++ Fr.four a.c.toNat) = puts [b.v, (b.l.length : Int)] ++ (puts tb ++ Fr.four b.c.toNat) := by
    have := h
    unfold body at this
    rw [ea, eb, puts_append, puts_append, List.append_assoc, List.append_assoc] at this
    exact this
  have hs : ∀ (m : Mn), Ok m → ∀ x ∈ [m.v, (m.l.length : Int)], 0 ≤ x ∧ x ≤ 1099511627776 := fun m hm x hx => nums_nonneg hm x (by
    unfold nums
    simp at hx ⊢
    rcases hx with h | h
    · exact .inl h
    · exact .inr (.inl h))
  obtain ⟨e1, _⟩ := puts_inj 2 _ _ _ _ rfl rfl (hs a ha) (hs b hb) h1
  have el : a.l.length = b.l.length := by simp at e1; omega
  obtain ⟨e2, e3⟩ := puts_inj (a.l.length + 3) (nums a) (nums b) _ _ (nums_len a) (by rw [nums_len, el]) na nb h
  have hc : a.c = b.c := by
    have := Fr.four_inj (x := a.c.toNat) (y := b.c.toNat) (by have := ha.c; omega) (by have := hb.c; omega) e3
    have := ha.c; have := hb.c; omega
  obtain ⟨v, l, z, c⟩ := a
  obtain ⟨v', l', z', c'⟩ := b
  unfold nums at e2
  dsimp only at e2 hc el
  injection e2 with h3 h4
  injection h4 with h4 h5
  obtain ⟨h6, h7⟩ := List.append_inj' h5 rfl
  injection h7 with h7
  rw [h3, h6, h7, hc]

/-- Its bytes; none, and why. -/
noncomputable def putM (m : Mn) : List UInt8 × Int := by classical exact if Ok m then (Fr.fr (body m), 0) else ([], 1)
theorem putM_yes {m : Mn} (h : Ok m) : putM m = (Fr.fr (body m), 0) := by unfold putM; rw [if_pos h]
theorem putM_no {m : Mn} (h : ¬ Ok m) : putM m = ([], 1) := by unfold putM; rw [if_neg h]
theorem fr_inj {a b : Mn} (ha : Ok a) (hb : Ok b) (h : Fr.fr (body a) = Fr.fr (body b)) : a = b := by
  have h1 := Fr.nx_fr (body a) [] (body_may ha)
  have h2 := Fr.nx_fr (body b) [] (body_may hb)
  rw [List.append_nil] at h1 h2
  rw [h, h2] at h1
  injection h1 with _ h1
  injection h1 with _ h1
  exact body_inj ha hb h1.symm
/-- The manifest of a text; none, and why. -/
noncomputable def getM (s : List UInt8) : Mn × Int := by
  classical exact match Fr.nx s with
    | (0, _, _) => if h : ∃ m, Ok m ∧ Fr.fr (body m) = s then (h.choose, 0) else (zero, 3)
    | (e + 1, _, _) => (zero, ((e + 1 : Nat) : Int))
theorem getM_err {s : List UInt8} {e : Nat} (h : Fr.nx s = (e, 0, [])) (he : e ≠ 0) : getM s = (zero, (e : Int)) := by
  unfold getM
  rw [h]
  obtain ⟨e, rfl⟩ : ∃ e', e = e' + 1 := ⟨e - 1, by omega⟩
  rfl
theorem getM_no {s : List UInt8} {j : Nat} {b : List UInt8} (h : Fr.nx s = (0, j, b)) (hn : ¬ ∃ m, Ok m ∧ Fr.fr (body m) = s) : getM s = (zero, 3) := by
  unfold getM
  rw [h]
  dsimp only
  rw [dif_neg hn]
theorem getM_yes {m : Mn} (h : Ok m) : getM (Fr.fr (body m)) = (m, 0) := by
  have h1 := Fr.nx_fr (body m) [] (body_may h)
  rw [List.append_nil] at h1
  unfold getM
  rw [h1]
  dsimp only
  have hx : ∃ m', Ok m' ∧ Fr.fr (body m') = Fr.fr (body m) := ⟨m, h, rfl⟩
  rw [dif_pos hx]
  rw [fr_inj hx.choose_spec.1 h hx.choose_spec.2]
/-- Cut off anywhere they are none's. -/
theorem getM_cut {m : Mn} (h : Ok m) {n : Nat} (hn : n < (Fr.fr (body m)).length) : getM ((Fr.fr (body m)).take n) = (zero, 2) := getM_err (Fr.nx_fr_cut _ _ (body_may h) hn) (by decide)

end Go.Proofs.Ytcogeflljcefjaa.Qm
