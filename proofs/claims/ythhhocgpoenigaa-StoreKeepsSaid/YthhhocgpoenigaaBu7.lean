/-
  Parts of what the laws of this seat stand on: RecPlain, MarkPlain, SegPlain, StoPlain.
-/
import Derived.Test.YthhhocgpoenigaaBu5
import Derived.Test.YthhhocgpoenigaaBu6
namespace Go.Proofs.Ythhhocgpoenigaa.Rp

/-- A record: its offset, its time, its data. -/
structure Rec where
  a : Int
  t : Int
  d : ByteArray

/-- The record of noughts. -/
def zero : Rec := ⟨0, 0, ⟨#[]⟩⟩

/-- May a number be an offset, or a time? -/
def inB (n : Int) : Bool := decide (0 ≤ n) && decide (n ≤ 1099511627776)
theorem inB_yes {n : Int} (h : inB n = true) : 0 ≤ n ∧ n ≤ 1099511627776 := by
  unfold inB at h
  rw [Bool.and_eq_true] at h
  exact ⟨of_decide_eq_true h.1, of_decide_eq_true h.2⟩
theorem inB_mk {n : Int} (h0 : 0 ≤ n) (h1 : n ≤ 1099511627776) : inB n = true := by
  unfold inB
  rw [Bool.and_eq_true]
  exact ⟨decide_eq_true h0, decide_eq_true h1⟩
theorem inB_no {n : Int} (h : n < 0 ∨ 1099511627776 < n) : inB n = false := by
  unfold inB
  rw [Bool.and_eq_false_iff]
  rcases h with h | h
  · exact .inl (decide_eq_false (by omega))
  · exact .inr (decide_eq_false (by omega))

/-- Why may a record not be? 0: it may. -/
def fault (r : Rec) : Int := if inB r.a = true ∧ inB r.t = true then (if 64 < r.d.size then 5 else 0) else 6
/-- It may be. -/
def Ok (r : Rec) : Prop := 0 ≤ r.a ∧ r.a ≤ 1099511627776 ∧ 0 ≤ r.t ∧ r.t ≤ 1099511627776 ∧ r.d.size ≤ 64
theorem fault_a {r : Rec} (h : inB r.a = false) : fault r = 6 := by unfold fault; rw [if_neg (by simp [h])]
theorem fault_t {r : Rec} (h : inB r.t = false) : fault r = 6 := by unfold fault; rw [if_neg (by simp [h])]
theorem fault_d {r : Rec} (h1 : inB r.a = true) (h2 : inB r.t = true) (h : 64 < r.d.size) : fault r = 5 := by unfold fault; rw [if_pos ⟨h1, h2⟩, if_pos h]
theorem fault_ok {r : Rec} (h1 : inB r.a = true) (h2 : inB r.t = true) (h : r.d.size ≤ 64) : fault r = 0 := by unfold fault; rw [if_pos ⟨h1, h2⟩, if_neg (by omega)]
theorem fault_cases (r : Rec) : (fault r = 0 ∧ Ok r) ∨ (¬ Ok r ∧ (fault r = 5 ∨ fault r = 6)) := by
  by_cases h1 : inB r.a = true
  · by_cases h2 : inB r.t = true
    · have a1 := inB_yes h1
      have a2 := inB_yes h2
      by_cases h3 : 64 < r.d.size
      · exact .inr ⟨fun h => by have := h.2.2.2.2; omega, .inl (fault_d h1 h2 h3)⟩
      · exact .inl ⟨fault_ok h1 h2 (by omega), a1.1, a1.2, a2.1, a2.2, by omega⟩
    · exact .inr ⟨fun h => h2 (inB_mk h.2.2.1 h.2.2.2.1), .inr (fault_t (by simpa using h2))⟩
  · exact .inr ⟨fun h => h1 (inB_mk h.1 h.2.1), .inr (fault_a (by simpa using h1))⟩
theorem fault_zero {r : Rec} (h : Ok r) : fault r = 0 := by
  rcases fault_cases r with h1 | h1
  · exact h1.1
  · exact absurd h h1.1
theorem ok_of {r : Rec} (h : fault r = 0) : Ok r := by
  rcases fault_cases r with h1 | ⟨_, h1 | h1⟩
  · exact h1.2
  · omega
  · omega

/-- A record's body. -/
def body (r : Rec) : List UInt8 := Vp.put r.a.toNat ++ Vp.put r.t.toNat ++ r.d.data.toList
/-- A number below 2^42 has at most six bytes. -/
theorem put_six {n : Nat} (h : n < 2 ^ 42) : (Vp.put n).length ≤ 6 := by
  have h1 := Vp.put_mono (show n ≤ 2 ^ 42 - 1 by omega)
  have h2 := Vp.putF_len_iff 9 (2 ^ 42 - 1) 5 (by decide) (by decide) (by decide)
  have h3 : (Vp.put (2 ^ 42 - 1)).length = 6 := h2
  omega
theorem body_len (r : Rec) : (body r).length = (Vp.put r.a.toNat).length + (Vp.put r.t.toNat).length + r.d.size := by
  unfold body
  rw [List.length_append, List.length_append]
  rfl
theorem body_le {r : Rec} (h : Ok r) : (body r).length ≤ 76 := by
  have h1 := put_six (n := r.a.toNat) (by have := h.1; have := h.2.1; omega)
  have h2 := put_six (n := r.t.toNat) (by have := h.2.2.1; have := h.2.2.2.1; omega)
  have h3 := h.2.2.2.2
  rw [body_len]
  omega
theorem body_pos (r : Rec) : 2 ≤ (body r).length := by
  have h1 := Vp.put_len_pos r.a.toNat
  have h2 := Vp.put_len_pos r.t.toNat
  rw [body_len]
  omega
theorem body_may {r : Rec} (h : Ok r) : Fr.May (body r).length := ⟨by have := body_pos r; omega, by have := body_le h; omega⟩

/-- A record's frame; none, if it may not be. -/
def putB (r : Rec) : List UInt8 := if fault r = 0 then Fr.fr (body r) else []
theorem putB_yes {r : Rec} (h : fault r = 0) : putB r = Fr.fr (body r) := by unfold putB; rw [if_pos h]
theorem putB_no {r : Rec} (h : fault r ≠ 0) : putB r = [] := by unfold putB; rw [if_neg h]
theorem put_one {n : Nat} (h : n < 128) : (Vp.put n).length = 1 := by
  show (Vp.putF 9 n).length = 1
  rw [Vp.putF_one h]
  rfl
theorem fr_le {r : Rec} (h : Ok r) : (Fr.fr (body r)).length = (body r).length + 5 := by
  have h1 := body_le h
  rw [Fr.fr_len, put_one (by omega)]
  omega
theorem putB_le (r : Rec) : (putB r).length ≤ 81 := by
  by_cases h : fault r = 0
  · rw [putB_yes h, fr_le (ok_of h)]
    have := body_le (ok_of h)
    omega
  · rw [putB_no h]; simp

/-- The record of a body, or why there is none. -/
def get (l : List UInt8) : Rec × Int :=
  match Vp.take l with
  | none => (zero, 3)
  | some (n, j) =>
    match Vp.take (l.drop j) with
    | none => (zero, 3)
    | some (m, k) => if fault ⟨n, m, ⟨(l.drop (j + k)).toArray⟩⟩ = 0 then (⟨n, m, ⟨(l.drop (j + k)).toArray⟩⟩, 0) else (zero, fault ⟨n, m, ⟨(l.drop (j + k)).toArray⟩⟩)
theorem get_none {l : List UInt8} (h : Vp.take l = none) : get l = (zero, 3) := by unfold get; rw [h]
theorem get_half {l : List UInt8} {n j : Nat} (h : Vp.take l = some (n, j)) (h2 : Vp.take (l.drop j) = none) : get l = (zero, 3) := by
  unfold get; rw [h]; dsimp only; rw [h2]
theorem get_bad {l : List UInt8} {n j m k : Nat} (h : Vp.take l = some (n, j)) (h2 : Vp.take (l.drop j) = some (m, k)) (h3 : fault ⟨n, m, ⟨(l.drop (j + k)).toArray⟩⟩ ≠ 0) :
    get l = (zero, fault ⟨n, m, ⟨(l.drop (j + k)).toArray⟩⟩) := by
  unfold get; rw [h]; dsimp only; rw [h2]; dsimp only; rw [if_neg h3]
theorem get_yes {l : List UInt8} {n j m k : Nat} (h : Vp.take l = some (n, j)) (h2 : Vp.take (l.drop j) = some (m, k)) (h3 : fault ⟨n, m, ⟨(l.drop (j + k)).toArray⟩⟩ = 0) :
    get l = (⟨n, m, ⟨(l.drop (j + k)).toArray⟩⟩, 0) := by
  unfold get; rw [h]; dsimp only; rw [h2]; dsimp only; rw [if_pos h3]

/-- Either there is none, and why, or there is one, which may be, and whose body that is. -/
theorem get_cases (l : List UInt8) : (∃ e, get l = (zero, e) ∧ (e = 3 ∨ e = 5 ∨ e = 6)) ∨ ∃ r, get l = (r, 0) ∧ Ok r ∧ body r = l := by
  rcases h : Vp.take l with _ | ⟨n, j⟩
  · exact .inl ⟨3, get_none h, .inl rfl⟩
  rcases h2 : Vp.take (l.drop j) with _ | ⟨m, k⟩
  · exact .inl ⟨3, get_half h h2, .inl rfl⟩
  rcases fault_cases ⟨n, m, ⟨(l.drop (j + k)).toArray⟩⟩ with ⟨h3, hok⟩ | ⟨hno, h3⟩
  · refine .inr ⟨_, get_yes h h2 h3, hok, ?_⟩
    unfold body
    show Vp.put (n : Int).toNat ++ Vp.put (m : Int).toNat ++ (l.drop (j + k)) = l
    rw [Int.toNat_natCast, Int.toNat_natCast, Vp.put_take h, Vp.put_take h2, ← List.drop_drop, List.append_assoc, List.take_append_drop, List.take_append_drop]
  · have h4 : fault ⟨n, m, ⟨(l.drop (j + k)).toArray⟩⟩ ≠ 0 := by omega
    exact .inl ⟨_, get_bad h h2 h4, .inr h3⟩

theorem mk_toList (s : ByteArray) : (⟨s.data.toList.toArray⟩ : ByteArray) = s := by
  apply ByteArray.ext
  simp

/-- There and back. -/
theorem get_body {r : Rec} (h : Ok r) : get (body r) = (r, 0) := by
  have ha : ((r.a.toNat : Nat) : Int) = r.a := by have := h.1; omega
  have ht : ((r.t.toNat : Nat) : Int) = r.t := by have := h.2.2.1; omega
  have h1 : Vp.take (body r) = some (r.a.toNat, (Vp.put r.a.toNat).length) := by
    unfold body
    rw [List.append_assoc]
    exact Vp.take_put _ _ (by have := h.1; have := h.2.1; omega)
  have h2 : Vp.take ((body r).drop (Vp.put r.a.toNat).length) = some (r.t.toNat, (Vp.put r.t.toNat).length) := by
    unfold body
    rw [List.append_assoc, List.drop_left' rfl]
    exact Vp.take_put _ _ (by have := h.2.2.1; have := h.2.2.2.1; omega)
  have h3 : (body r).drop ((Vp.put r.a.toNat).length + (Vp.put r.t.toNat).length) = r.d.data.toList := by
    unfold body
    exact List.drop_left' (by rw [List.length_append])
  have e : (⟨(r.a.toNat : Nat), (r.t.toNat : Nat), ⟨((body r).drop ((Vp.put r.a.toNat).length + (Vp.put r.t.toNat).length)).toArray⟩⟩ : Rec) = r := by
    rw [h3, ha, ht, mk_toList]
  have h4 := get_yes h1 h2 (by rw [e]; exact fault_zero h)
  rw [e] at h4
  exact h4

/-- The frames of records, one behind the other; none, and the first reason, if one of them may not be. -/
def row : List Rec → List UInt8 × Int
  | [] => ([], 0)
  | r :: l => if fault r = 0 then (if (row l).2 = 0 then (putB r ++ (row l).1, 0) else ([], (row l).2)) else ([], fault r)
/-- The frames alone. -/
def rowB (l : List Rec) : List UInt8 := Fr.row (l.map body)
theorem rowB_nil : rowB [] = [] := rfl
theorem rowB_snoc (l : List Rec) (r : Rec) : rowB (l ++ [r]) = rowB l ++ Fr.fr (body r) := by
  unfold rowB
  rw [List.map_append, Fr.row_append]
  show _ ++ Fr.row [body r] = _
  rw [Fr.row_cons, Fr.row_nil, List.append_nil]
theorem rowB_cons (r : Rec) (l : List Rec) : rowB (r :: l) = Fr.fr (body r) ++ rowB l := rfl
theorem rowB_le (l : List Rec) (h : ∀ r ∈ l, Ok r) : (rowB l).length ≤ 81 * l.length := by
  induction l with
  | nil => simp [rowB_nil]
  | cons r l ih =>
    have h1 := ih fun x hx => h x (List.mem_cons_of_mem _ hx)
    have h2 := body_le (h r List.mem_cons_self)
    have h3 := fr_le (h r List.mem_cons_self)
    rw [rowB_cons, List.length_append, List.length_cons]
    omega

/-- The record whose frame stands at the beginning of l, and how many bytes that frame has; or why there is none. -/
def nxt (l : List UInt8) : Rec × Nat × Int :=
  match Fr.nx l with
  | (0, j, b) => if (get b).2 = 0 then ((get b).1, j, 0) else (zero, 0, (get b).2)
  | (e + 1, _, _) => (zero, 0, ((e + 1 : Nat) : Int))
theorem nxt_no {l : List UInt8} {e : Nat} (h : Fr.nx l = (e, 0, [])) (he : e ≠ 0) : nxt l = (zero, 0, (e : Int)) := by
  unfold nxt
  rw [h]
  obtain ⟨e, rfl⟩ : ∃ e', e = e' + 1 := ⟨e - 1, by omega⟩
  rfl
theorem nxt_bad {l b : List UInt8} {j : Nat} {e : Int} (h : Fr.nx l = (0, j, b)) (hg : get b = (zero, e)) (he : e ≠ 0) : nxt l = (zero, 0, e) := by
  unfold nxt
  rw [h]
  dsimp only
  rw [hg, if_neg he]
theorem nxt_yes {l b : List UInt8} {j : Nat} {r : Rec} (h : Fr.nx l = (0, j, b)) (hg : get b = (r, 0)) : nxt l = (r, j, 0) := by
  unfold nxt
  rw [h]
  dsimp only
  rw [hg, if_pos rfl]
theorem nxt_cases (l : List UInt8) : (∃ e, nxt l = (zero, 0, e) ∧ (e = 2 ∨ e = 3 ∨ e = 4 ∨ e = 5 ∨ e = 6)) ∨
    ∃ r j, nxt l = (r, j, 0) ∧ Ok r ∧ 7 ≤ j ∧ j ≤ l.length ∧ Fr.fr (body r) = l.take j := by
  rcases Fr.nx_cases l with ⟨e, h, h3⟩ | ⟨j, b, h, h5, h6, h7, h8⟩
  · refine .inl ⟨e, nxt_no h (by omega), by omega⟩
  · rcases get_cases b with ⟨e, hg, he⟩ | ⟨r, hg, hok, hb⟩
    · exact .inl ⟨e, nxt_bad h hg (by omega), by omega⟩
    · exact .inr ⟨r, j, nxt_yes h hg, hok, by have := body_pos r; rw [hb] at this; omega, h6, by rw [hb]; exact h8⟩
theorem nxt_fr {r : Rec} (h : Ok r) (l : List UInt8) : nxt (Fr.fr (body r) ++ l) = (r, (Fr.fr (body r)).length, 0) :=
  nxt_yes (Fr.nx_fr _ _ (body_may h)) (get_body h)

/-- The records in a row, how far they go, and why there is no more. -/
def rws : Nat → List UInt8 → List Rec × Nat × Int
  | 0, _ => ([], 0, 0)
  | n + 1, l =>
    if l = [] then ([], 0, 0)
    else if (nxt l).2.2 = 0 then ((nxt l).1 :: (rws n (l.drop (nxt l).2.1)).1, (nxt l).2.1 + (rws n (l.drop (nxt l).2.1)).2.1, (rws n (l.drop (nxt l).2.1)).2.2)
    else ([], 0, (nxt l).2.2)
theorem rws_fuel : ∀ (k : Nat) (l : List UInt8), l.length ≤ k → rws k l = rws l.length l := by
  intro k
  induction k using Nat.strongRecOn with
  | ind k ih =>
    intro l hl
    by_cases hk : l.length = k
    · rw [hk]
    · obtain ⟨k, rfl⟩ : ∃ k', k = k' + 1 := ⟨k - 1, by omega⟩
      by_cases h0 : l = []
      · subst h0; simp [rws]
      · obtain ⟨m, hm⟩ : ∃ m, l.length = m + 1 := ⟨l.length - 1, by have := List.length_pos_iff.2 h0; omega⟩
        rw [hm, rws, rws, if_neg h0, if_neg h0]
        rcases nxt_cases l with ⟨e, h, h3⟩ | ⟨r, j, h, _, h5, h6, _⟩
        · rw [h]; dsimp only; rw [if_neg (by omega), if_neg (by omega)]
        · rw [h]; dsimp only; rw [if_pos rfl, if_pos rfl, ih k (by omega) (l.drop j) (by rw [List.length_drop]; omega), ih m (by omega) (l.drop j) (by rw [List.length_drop]; omega)]
def rows (l : List UInt8) : List Rec × Nat × Int := rws l.length l
theorem rows_nil : rows [] = ([], 0, 0) := rfl
theorem rows_stop {l : List UInt8} {e : Int} (hne : l ≠ []) (h : nxt l = (zero, 0, e)) (he : e ≠ 0) : rows l = ([], 0, e) := by
  obtain ⟨m, hm⟩ : ∃ m, l.length = m + 1 := ⟨l.length - 1, by have := List.length_pos_iff.2 hne; omega⟩
  unfold rows
  rw [hm, rws, if_neg hne, h]
  dsimp only
  rw [if_neg he]
theorem rows_go {l : List UInt8} {j : Nat} {r : Rec} (h : nxt l = (r, j, 0)) (hj : 0 < j) (hl : j ≤ l.length) : rows l = (r :: (rows (l.drop j)).1, j + (rows (l.drop j)).2.1, (rows (l.drop j)).2.2) := by
  obtain ⟨m, hm⟩ : ∃ m, l.length = m + 1 := ⟨l.length - 1, by omega⟩
  have hne : l ≠ [] := by rw [← List.length_pos_iff]; omega
  unfold rows
  rw [hm, rws, if_neg hne, h]
  dsimp only
  rw [if_pos rfl, rws_fuel m (l.drop j) (by rw [List.length_drop]; omega)]

/-- What a walk over a row knows when it has come to k. -/
def RowsRel (l : List UInt8) (rs : List Rec) (k : Nat) : Prop := rows l = (rs ++ (rows (l.drop k)).1, k + (rows (l.drop k)).2.1, (rows (l.drop k)).2.2)
theorem RowsRel.start (l : List UInt8) : RowsRel l [] 0 := by unfold RowsRel; simp
theorem RowsRel.step {l : List UInt8} {rs : List Rec} {k j : Nat} {r : Rec} (h : RowsRel l rs k) (hn : nxt (l.drop k) = (r, j, 0)) (hj : 0 < j) (hl : j ≤ (l.drop k).length) : RowsRel l (rs ++ [r]) (k + j) := by
  unfold RowsRel at *
  rw [h, rows_go hn hj hl, List.drop_drop]
  simp [Nat.add_assoc]
theorem RowsRel.stop {l : List UInt8} {rs : List Rec} {k : Nat} {e : Int} (h : RowsRel l rs k) (hk : k < l.length) (hn : nxt (l.drop k) = (zero, 0, e)) (he : e ≠ 0) : rows l = (rs, k, e) := by
  unfold RowsRel at h
  rw [h, rows_stop (by rw [← List.length_pos_iff, List.length_drop]; omega) hn he]
  simp
theorem RowsRel.done {l : List UInt8} {rs : List Rec} {k : Nat} (h : RowsRel l rs k) (hk : l.length ≤ k) : rows l = (rs, k, 0) := by
  unfold RowsRel at h
  rw [h, List.drop_eq_nil_of_le hk, rows_nil]
  simp

end Go.Proofs.Ythhhocgpoenigaa.Rp

namespace Go.Proofs.Ythhhocgpoenigaa.Mp

/-- A mark: an offset, a place. -/
structure Mk where
  o : Int
  p : Int
def zero : Mk := ⟨0, 0⟩

/-- Is the mark at a place as it may be, and behind the one ahead of it? -/
def AtOk (l : List Mk) (k : Nat) : Prop := 0 ≤ (l.getD k zero).o ∧ 0 ≤ (l.getD k zero).p ∧ (0 < k → (l.getD (k - 1) zero).o < (l.getD k zero).o ∧ (l.getD (k - 1) zero).p < (l.getD k zero).p)
/-- May they be? -/
def Right (l : List Mk) : Prop := ∀ k, k < l.length → AtOk l k
theorem Right.lt {l : List Mk} (h : Right l) : ∀ (d i : Nat), i + d + 1 < l.length → (l.getD i zero).o < (l.getD (i + d + 1) zero).o ∧ (l.getD i zero).p < (l.getD (i + d + 1) zero).p
  | 0, i, hi => by
    have := (h (i + 0 + 1) hi).2.2 (by omega)
    simpa using this
  | d + 1, i, hi => by
    have h1 := h.lt d i (by omega)
    have h2 := (h (i + (d + 1) + 1) hi).2.2 (by omega)
    rw [show i + (d + 1) + 1 - 1 = i + d + 1 from by omega] at h2
    exact ⟨by omega, by omega⟩
theorem Right.mono {l : List Mk} (h : Right l) {i j : Nat} (hij : i < j) (hj : j < l.length) : (l.getD i zero).o < (l.getD j zero).o ∧ (l.getD i zero).p < (l.getD j zero).p := by
  obtain ⟨d, rfl⟩ : ∃ d, j = i + d + 1 := ⟨j - i - 1, by omega⟩
  exact h.lt d i hj

/-- The first n marks, and no others, aren't above off. -/
def Split (l : List Mk) (off : Int) (n : Nat) : Prop := n ≤ l.length ∧ (∀ j, j < n → (l.getD j zero).o ≤ off) ∧ ∀ j, n ≤ j → j < l.length → off < (l.getD j zero).o
theorem Split.one {l : List Mk} {off : Int} {n m : Nat} (h : Split l off n) (k : Split l off m) : n = m := by
  obtain ⟨a1, a2, a3⟩ := h
  obtain ⟨b1, b2, b3⟩ := k
  rcases Nat.lt_trichotomy n m with h | h | h
  · have := b2 n h; have := a3 n (Nat.le_refl _) (by omega); omega
  · exact h
  · have := a2 m h; have := b3 m (Nat.le_refl _) (by omega); omega

/-- A mark more, where it is kept. -/
def add (l : List Mk) (base every : Int) (m : Mk) : List Mk := if (m.o - base) % every = 0 then l ++ [m] else l

theorem all_next {l : List Mk} {k : Nat} (h : ∀ j, j < k → AtOk l j) (hk : AtOk l k) : ∀ j, j < k + 1 → AtOk l j := by
  intro j hj
  by_cases e : j = k
  · subst e; exact hk
  · exact h j (by omega)

end Go.Proofs.Ythhhocgpoenigaa.Mp

namespace Go.Proofs.Ythhhocgpoenigaa.Gp
open Rp

/-- The records from place k on, of offsets from b on, each with its place; where they end, and why. -/
def pl : Nat → List UInt8 → Int → Nat → List (Rec × Nat) × Nat × Int
  | 0, _, _, k => ([], k, 0)
  | n + 1, l, b, k =>
    if l = [] then ([], k, 0)
    else if (nxt l).2.2 = 0 then
      (if (nxt l).1.a = b then (((nxt l).1, k) :: (pl n (l.drop (nxt l).2.1) (b + 1) (k + (nxt l).2.1)).1, (pl n (l.drop (nxt l).2.1) (b + 1) (k + (nxt l).2.1)).2) else ([], k, 3))
    else ([], k, (nxt l).2.2)
theorem pl_fuel : ∀ (n : Nat) (l : List UInt8) (b : Int) (k : Nat), l.length ≤ n → pl n l b k = pl l.length l b k := by
  intro n
  induction n using Nat.strongRecOn with
  | ind n ih =>
    intro l b k hl
    by_cases hk : l.length = n
    · rw [hk]
    · obtain ⟨n, rfl⟩ : ∃ n', n = n' + 1 := ⟨n - 1, by omega⟩
      by_cases h0 : l = []
      · subst h0; simp [pl]
      · obtain ⟨m, hm⟩ : ∃ m, l.length = m + 1 := ⟨l.length - 1, by have := List.length_pos_iff.2 h0; omega⟩
        rw [hm, pl, pl, if_neg h0, if_neg h0]
        rcases nxt_cases l with ⟨e, h, h3⟩ | ⟨r, j, h, _, h5, h6, _⟩
        · rw [h]; dsimp only; rw [if_neg (by omega), if_neg (by omega)]
        · rw [h]; dsimp only; rw [if_pos rfl, if_pos rfl, ih n (by omega) (l.drop j) _ _ (by rw [List.length_drop]; omega), ih m (by omega) (l.drop j) _ _ (by rw [List.length_drop]; omega)]
def pls (l : List UInt8) (b : Int) (k : Nat) : List (Rec × Nat) × Nat × Int := pl l.length l b k
theorem pls_nil (b : Int) (k : Nat) : pls [] b k = ([], k, 0) := rfl
theorem pls_stop {l : List UInt8} {b : Int} {k : Nat} {e : Int} (hne : l ≠ []) (h : nxt l = (zero, 0, e)) (he : e ≠ 0) : pls l b k = ([], k, e) := by
  obtain ⟨m, hm⟩ : ∃ m, l.length = m + 1 := ⟨l.length - 1, by have := List.length_pos_iff.2 hne; omega⟩
  unfold pls
  rw [hm, pl, if_neg hne, h]
  dsimp only
  rw [if_neg he]
theorem pls_form {l : List UInt8} {b : Int} {k j : Nat} {r : Rec} (h : nxt l = (r, j, 0)) (hl : l ≠ []) (ha : r.a ≠ b) : pls l b k = ([], k, 3) := by
  obtain ⟨m, hm⟩ : ∃ m, l.length = m + 1 := ⟨l.length - 1, by have := List.length_pos_iff.2 hl; omega⟩
  unfold pls
  rw [hm, pl, if_neg hl, h]
  dsimp only
  rw [if_pos rfl, if_neg ha]
theorem pls_go {l : List UInt8} {b : Int} {k j : Nat} {r : Rec} (h : nxt l = (r, j, 0)) (hj : 0 < j) (hl : j ≤ l.length) (ha : r.a = b) :
    pls l b k = ((r, k) :: (pls (l.drop j) (b + 1) (k + j)).1, (pls (l.drop j) (b + 1) (k + j)).2) := by
  obtain ⟨m, hm⟩ : ∃ m, l.length = m + 1 := ⟨l.length - 1, by omega⟩
  have hne : l ≠ [] := by rw [← List.length_pos_iff]; omega
  unfold pls
  rw [hm, pl, if_neg hne, h]
  dsimp only
  rw [if_pos rfl, if_pos ha, pl_fuel m (l.drop j) _ _ (by rw [List.length_drop]; omega)]

/-- What a walk knows that began at place k0 with offset b, and has come to k with ps. -/
def PRel (l : List UInt8) (b : Int) (k0 : Nat) (ps : List (Rec × Nat)) (k : Nat) : Prop :=
  pls (l.drop k0) b k0 = (ps ++ (pls (l.drop k) (b + ps.length) k).1, (pls (l.drop k) (b + ps.length) k).2)
theorem PRel.start (l : List UInt8) (b : Int) (k : Nat) : PRel l b k [] k := by unfold PRel; simp
theorem PRel.step {l : List UInt8} {b : Int} {k0 k j : Nat} {ps : List (Rec × Nat)} {r : Rec} (h : PRel l b k0 ps k) (hn : nxt (l.drop k) = (r, j, 0)) (hj : 0 < j) (hl : j ≤ (l.drop k).length) (ha : r.a = b + ps.length) :
    PRel l b k0 (ps ++ [(r, k)]) (k + j) := by
  unfold PRel at *
  rw [h, pls_go hn hj hl ha, List.drop_drop]
  have e : b + (ps.length : Int) + 1 = b + ((ps ++ [(r, k)]).length : Int) := by rw [List.length_append, List.length_singleton]; omega
  rw [e]
  simp
theorem PRel.stop {l : List UInt8} {b : Int} {k0 k : Nat} {ps : List (Rec × Nat)} {e : Int} (h : PRel l b k0 ps k) (hk : k < l.length) (hn : nxt (l.drop k) = (zero, 0, e)) (he : e ≠ 0) : pls (l.drop k0) b k0 = (ps, k, e) := by
  unfold PRel at h
  rw [h, pls_stop (by rw [← List.length_pos_iff, List.length_drop]; omega) hn he]
  simp
theorem PRel.form {l : List UInt8} {b : Int} {k0 k j : Nat} {ps : List (Rec × Nat)} {r : Rec} (h : PRel l b k0 ps k) (hk : k < l.length) (hn : nxt (l.drop k) = (r, j, 0)) (ha : r.a ≠ b + ps.length) : pls (l.drop k0) b k0 = (ps, k, 3) := by
  unfold PRel at h
  rw [h, pls_form hn (by rw [← List.length_pos_iff, List.length_drop]; omega) ha]
  simp
theorem PRel.done {l : List UInt8} {b : Int} {k0 k : Nat} {ps : List (Rec × Nat)} (h : PRel l b k0 ps k) (hk : l.length ≤ k) : pls (l.drop k0) b k0 = (ps, k, 0) := by
  unfold PRel at h
  rw [h, List.drop_eq_nil_of_le hk, pls_nil]
  simp

/-- Of any base. -/
def full (l : List UInt8) (b : Int) : List (Rec × Nat) × Nat × Int := if inB b = true then pls l b 0 else ([], 0, 1)
theorem full_in {l : List UInt8} {b : Int} (h : inB b = true) : full l b = pls (l.drop 0) b 0 := by unfold full; rw [if_pos h]; rfl
theorem full_out {l : List UInt8} {b : Int} (h : inB b = false) : full l b = ([], 0, 1) := by unfold full; rw [if_neg (by simp [h])]

/-- What is known of them. -/
structure Good (l : List UInt8) (b : Int) (k0 : Nat) (ps : List (Rec × Nat)) (k : Nat) : Prop where
  ok : ∀ p ∈ ps, Ok p.1
  at_ : ∀ i (h : i < ps.length), ps[i].1.a = b + i
  lo : ∀ i (h : i < ps.length), k0 + 7 * i ≤ ps[i].2 ∧ ps[i].2 + 7 ≤ k
  up : ∀ i (h : i + 1 < ps.length), ps[i].2 < ps[i + 1].2
  le : k ≤ l.length ∨ k = k0
  few : k0 + 7 * ps.length ≤ k
theorem Good.start (l : List UInt8) (b : Int) (k : Nat) : Good l b k [] k :=
  ⟨by simp, by simp, by simp, by simp, .inr rfl, by simp⟩
theorem Good.step {l : List UInt8} {b : Int} {k0 k j : Nat} {ps : List (Rec × Nat)} {r : Rec} (h : Good l b k0 ps k) (hok : Ok r) (ha : r.a = b + ps.length) (hj : 7 ≤ j) (hl : j ≤ (l.drop k).length) :
    Good l b k0 (ps ++ [(r, k)]) (k + j) := by
  rw [List.length_drop] at hl
  obtain ⟨h1, h2, h3, h4, h5, h6⟩ := h
  refine ⟨fun p hp => ?_, fun i hi => ?_, fun i hi => ?_, fun i hi => ?_, .inl (by omega), ?_⟩
  · rw [List.mem_append] at hp
    rcases hp with hp | hp
    · exact h1 p hp
    · rw [List.mem_singleton] at hp; subst hp; exact hok
  · rw [List.length_append, List.length_singleton] at hi
    rw [List.getElem_append]
    split
    · exact h2 i _
    · rw [List.getElem_singleton]
      have : i = ps.length := by omega
      rw [this]; exact ha
  · rw [List.length_append, List.length_singleton] at hi
    rw [List.getElem_append]
    split
    · have := h3 i (by assumption); omega
    · rw [List.getElem_singleton]
      exact ⟨by show _ ≤ k; omega, by show k + 7 ≤ _; omega⟩
  · rw [List.length_append, List.length_singleton] at hi
    rw [List.getElem_append_left (by omega)]
    rw [List.getElem_append]
    split
    · exact h4 i _
    · rw [List.getElem_singleton]
      have := (h3 i (by omega)).2
      show _ < k
      omega
  · rw [List.length_append, List.length_singleton]; omega

/-- The one of an offset: its place among them. -/
def rd (ps : List (Rec × Nat)) (b off : Int) : Rec × Int :=
  if b ≤ off ∧ off < b + ps.length then ((ps.getD (off - b).toNat (zero, 0)).1, 0) else (zero, 6)

end Go.Proofs.Ythhhocgpoenigaa.Gp

namespace Go.Proofs.Ythhhocgpoenigaa.Gp
open Rp

/-- Records of offsets from b on, their places. -/
def withAt : List Rec → Nat → List (Rec × Nat)
  | [], _ => []
  | r :: l, k => (r, k) :: withAt l (k + (Fr.fr (body r)).length)
theorem withAt_fst : ∀ (l : List Rec) (k : Nat), (withAt l k).map Prod.fst = l
  | [], _ => rfl
  | r :: l, k => by rw [withAt, List.map_cons, withAt_fst l]
/-- They rise by one. -/
def Rise (b : Int) : List Rec → Prop
  | [] => True
  | r :: l => r.a = b ∧ Rise (b + 1) l
/-- Whole records, and behind them what is no record. -/
theorem pls_rows : ∀ (l : List Rec) (b : Int) (k : Nat) (rest : List UInt8) (e : Int), (∀ r ∈ l, Ok r) → Rise b l → (rest = [] ∧ e = 0 ∨ rest ≠ [] ∧ nxt rest = (zero, 0, e) ∧ e ≠ 0) →
    pls (rowB l ++ rest) b k = (withAt l k, k + (rowB l).length, e)
  | [], b, k, rest, e, _, _, h => by
    rw [rowB_nil, List.nil_append]
    rcases h with ⟨rfl, rfl⟩ | ⟨h1, h2, h3⟩
    · rw [pls_nil]; rfl
    · rw [pls_stop h1 h2 h3]; rfl
  | r :: l, b, k, rest, e, hok, hr, h => by
    have h1 := hok r List.mem_cons_self
    have h2 := nxt_fr h1 (rowB l ++ rest)
    rw [rowB_cons, List.append_assoc, pls_go h2 (by have := fr_le h1; omega) (by rw [List.length_append]; omega) hr.1, List.drop_left' rfl, pls_rows l (b + 1) _ rest e (fun x hx => hok x (List.mem_cons_of_mem _ hx)) hr.2 h]
    rw [withAt, List.length_append]
    congr 1
    rw [Nat.add_assoc]
theorem nxt_cut {r : Rec} (h : Ok r) {n : Nat} (hn : n < (Fr.fr (body r)).length) : nxt ((Fr.fr (body r)).take n) = (zero, 0, 2) :=
  nxt_no (Fr.nx_fr_cut _ _ (body_may h) hn) (by decide)

end Go.Proofs.Ythhhocgpoenigaa.Gp

namespace Go.Proofs.Ythhhocgpoenigaa.So
open Go.Proofs.Ythhhocgpoenigaa.Dp

/-- A store: a disk, a version, segments, the next offset, what is sure, its snapshot's size and sum. -/
structure St where
  d : Dk
  v : Int
  g : List Rt.Sg
  x : Int
  s : Int
  z : Int
  c : Int
def floor (S : St) : Int := (S.g.headD Rt.zero).b
def man (S : St) : Qm.Mn := ⟨S.v, S.g.map (·.b), S.z, S.c⟩
def lastG (S : St) : Rt.Sg := S.g.getD (S.g.length - 1) Rt.zero
/-- All is sure. -/
def syncT (S : St) : St × Int := ({ S with d := (sync S.d (segN (lastG S).b)).1, s := if (sync S.d (segN (lastG S).b)).2 = 0 then S.x else S.s }, (sync S.d (segN (lastG S).b)).2)
/-- A store with a segment more, on a disk. -/
def more (S : St) (D : Dk) : St := { S with d := D, v := S.v + 1, g := S.g ++ [⟨S.x, 0, 0⟩] }
noncomputable def roll (S : St) : St × Int :=
  if 64 ≤ S.g.length then (S, 9)
  else if (syncT S).2 ≠ 0 then syncT S
  else
    let T := (syncT S).1
    let C := create T.d (segN T.x)
    if C.2 ≠ 0 then ({ T with d := C.1 }, C.2)
    else
      let W := swap C.1 (man (more T C.1))
      if W.2 = 9 then
        let X := delete W.1 (segN T.x)
        ({ T with d := X.1 }, if X.2 = 0 then 9 else X.2)
      else if W.2 ≠ 0 then ({ T with d := W.1 }, W.2)
      else (more T W.1, 0)
/-- The last segment with a record, and so many bytes, more. -/
def grown (g : List Rt.Sg) (n : Nat) : List Rt.Sg := g.set (g.length - 1) ⟨(g.getD (g.length - 1) Rt.zero).b, (g.getD (g.length - 1) Rt.zero).n + 1, (g.getD (g.length - 1) Rt.zero).z + n⟩
/-- A record more, behind the roll. -/
def put (S : St) (r : Rp.Rec) : St × Int :=
  let s := Rp.putB r
  let A := append S.d (segN (lastG S).b) ⟨s.toArray⟩
  if A.2 ≠ 0 then ({ S with d := A.1 }, A.2) else ({ S with d := A.1, g := grown S.g s.length, x := S.x + 1 }, 0)
noncomputable def append (S : St) (q : Int) (r : Rp.Rec) : St × Int :=
  open Classical in
  if ¬ (Rp.Ok r ∧ r.a = S.x) then (S, 1)
  else if 1099511627776 ≤ S.x then (S, 13)
  else if q ≤ (lastG S).z then (if (roll S).2 ≠ 0 then roll S else put (roll S).1 r)
  else put S r
noncomputable def createT (D : Dk) : St × Int :=
  if (create D (segN 0)).2 ≠ 0 then (⟨(create D (segN 0)).1, 0, [], 0, 0, 0, 0⟩, (create D (segN 0)).2)
  else
    let S : St := ⟨(create D (segN 0)).1, 1, [⟨0, 0, 0⟩], 0, 0, 0, 0⟩
    let W := swap S.d (man S)
    if W.2 ≠ 0 then (⟨W.1, 0, [], 0, 0, 0, 0⟩, W.2) else ({ S with d := W.1 }, 0)

/-- Full segments: the records of each stand in its file. -/
def Fulls (D : Dk) (q : Int) : List Rt.Sg → Int → List Rp.Rec → Prop
  | [], _, rs => rs = []
  | g :: t, b, rs => g.b = b ∧ ∃ l r, rs = l ++ r ∧ l ≠ [] ∧ g.n = (l.length : Int) ∧ dat D (segN b) = some (Rp.rowB l) ∧ g.z = ((Rp.rowB l).length : Int) ∧ q ≤ g.z ∧ g.z ≤ q + 90 ∧ Fulls D q t (b + g.n) r
theorem Fulls.keep {D D' : Dk} {q : Int} : ∀ {t : List Rt.Sg} {b : Int} {rs : List Rp.Rec}, Fulls D q t b rs → (∀ x : Int, b ≤ x → x < b + rs.length → dat D' (segN x) = dat D (segN x)) → Fulls D' q t b rs
  | [], _, _, h, _ => h
  | g :: t, b, rs, ⟨h1, l, r, h2, h3, h4, h5, h6, h7, h8, h9⟩, hk => by
    have hp : 0 < l.length := List.length_pos_iff.2 h3
    subst h2
    rw [List.length_append] at hk
    refine ⟨h1, l, r, rfl, h3, h4, ?_, h6, h7, h8, h9.keep fun x a1 a2 => hk x (by omega) (by omega)⟩
    rw [hk b (Int.le_refl _) (by omega)]
    exact h5
theorem Fulls.snoc {D : Dk} {q : Int} {g : Rt.Sg} {l2 : List Rp.Rec} : ∀ {t : List Rt.Sg} {b : Int} {rs : List Rp.Rec}, Fulls D q t b rs → g.b = b + rs.length → l2 ≠ [] → g.n = (l2.length : Int) → dat D (segN g.b) = some (Rp.rowB l2) → g.z = ((Rp.rowB l2).length : Int) → q ≤ g.z → g.z ≤ q + 90 → Fulls D q (t ++ [g]) b (rs ++ l2)
  | [], b, rs, h, h1, h2, h3, h4, h5, h6, h7 => by
    obtain rfl : rs = [] := h
    have hb : g.b = b := by simpa using h1
    refine ⟨hb, l2, [], by simp, h2, h3, by rw [← hb]; exact h4, h5, h6, h7, rfl⟩
  | a :: t, b, rs, ⟨a1, l, r, a2, a3, a4, a5, a6, a7, a8, a9⟩, h1, h2, h3, h4, h5, h6, h7 => by
    subst a2
    rw [List.length_append] at h1
    exact ⟨a1, l, r ++ l2, by rw [List.append_assoc], a3, a4, a5, a6, a7, a8, a9.snoc (by omega) h2 h3 h4 h5 h6 h7⟩

/-- What is true of a store that began on an empty disk, and of all the records that were appended. -/
structure Inv (q : Int) (S : St) (rs : List Rp.Rec) : Prop where
  dr : Right S.d
  ok : ∀ r ∈ rs, Rp.Ok r
  up : Gp.Rise 0 rs
  x : S.x = (rs.length : Int)
  s0 : 0 ≤ S.s
  s1 : S.s ≤ S.x
  seg : ∃ t g l r, S.g = t ++ [g] ∧ rs = l ++ r ∧ Fulls S.d q t 0 l ∧ g.b = (l.length : Int) ∧ g.n = (r.length : Int) ∧ dat S.d (segN g.b) = some (Rp.rowB r) ∧ g.z = ((Rp.rowB r).length : Int) ∧ g.z ≤ q + 90
theorem getD_last {α : Type} (t : List α) (g z : α) : (t ++ [g]).getD ((t ++ [g]).length - 1) z = g := by
  simp [List.getD_eq_getElem?_getD]
theorem rise_snoc : ∀ (b : Int) (rs : List Rp.Rec) (r : Rp.Rec), Gp.Rise b rs → r.a = b + rs.length → Gp.Rise b (rs ++ [r])
  | b, [], r, _, h => ⟨by simpa using h, trivial⟩
  | b, a :: l, r, h, h2 => ⟨h.1, rise_snoc (b + 1) l r h.2 (by rw [List.length_cons] at h2; omega)⟩
theorem rise_at : ∀ (b : Int) (rs : List Rp.Rec), Gp.Rise b rs → ∀ i (h : i < rs.length), rs[i].a = b + i
  | b, a :: l, h, 0, _ => by simpa using h.1
  | b, a :: l, h, i + 1, hi => by
    have := rise_at (b + 1) l h.2 i (by simpa using hi)
    rw [List.getElem_cons_succ, this]
    omega
theorem Inv.few {q : Int} {S : St} {rs : List Rp.Rec} (h : Inv q S rs) : rs.length ≤ 1099511627777 := by
  rcases Nat.eq_zero_or_pos rs.length with h0 | h0
  · omega
  · have h1 := rise_at 0 rs h.up (rs.length - 1) (by omega)
    have h2 := (h.ok _ (List.getElem_mem (show rs.length - 1 < rs.length by omega))).2.1
    omega
/-- Whatever keeps each segment's file keeps it. -/
theorem Inv.of {q : Int} {S S' : St} {rs : List Rp.Rec} (h : Inv q S rs) (hR : Right S'.d) (hd : ∀ x : Int, 0 ≤ x → x ≤ rs.length → x ≤ 1099511627776 → dat S'.d (segN x) = dat S.d (segN x)) (hg : S'.g = S.g) (hx : S'.x = S.x) (h0 : 0 ≤ S'.s) (h1 : S'.s ≤ S'.x) (hl : rs.length ≤ 1099511627776) : Inv q S' rs := by
  obtain ⟨t, g, l, r, e1, e2, e3, e4, e5, e6, e7, e8⟩ := h.seg
  refine ⟨hR, h.ok, h.up, hx.trans h.x, h0, h1, t, g, l, r, hg.trans e1, e2, ?_, e4, e5, ?_, e7, e8⟩
  · subst e2
    rw [List.length_append] at hd hl
    exact e3.keep fun x a1 a2 => hd x a1 (by omega) (by omega)
  · subst e2
    rw [List.length_append] at hd hl
    rw [hd g.b (by omega) (by omega) (by omega)]
    exact e6
theorem Inv.sync {q : Int} {S : St} {rs : List Rp.Rec} (h : Inv q S rs) (hl : rs.length ≤ 1099511627776) : Inv q (syncT S).1 rs := by
  unfold syncT
  refine h.of (right2 h.dr _) (fun x _ _ _ => sync_dat h.dr _ _) rfl rfl ?_ ?_ hl
  · have := h.s0; have := h.s1; dsimp only; split <;> omega
  · have := h.s0; have := h.s1; dsimp only; split <;> omega
theorem Inv.arm {q : Int} {S : St} {rs : List Rp.Rec} (h : Inv q S rs) (k : Int) (hl : rs.length ≤ 1099511627776) : Inv q { S with d := arm S.d k } rs := h.of (right6 h.dr k) (fun _ _ _ _ => dat_of rfl _) rfl rfl h.s0 h.s1 hl
theorem Inv.limit {q : Int} {S : St} {rs : List Rp.Rec} (h : Inv q S rs) (k : Int) (hl : rs.length ≤ 1099511627776) : Inv q { S with d := limit S.d k } rs := h.of (right7 h.dr k) (fun _ _ _ _ => dat_of rfl _) rfl rfl h.s0 h.s1 hl
theorem Inv.last {q : Int} {S : St} {rs : List Rp.Rec} (h : Inv q S rs) : ∃ t l r, S.g = t ++ [lastG S] ∧ rs = l ++ r ∧ Fulls S.d q t 0 l ∧ (lastG S).b = (l.length : Int) ∧ (lastG S).n = (r.length : Int) ∧ dat S.d (segN (lastG S).b) = some (Rp.rowB r) ∧ (lastG S).z = ((Rp.rowB r).length : Int) ∧ (lastG S).z ≤ q + 90 := by
  obtain ⟨t, g, l, r, e1, e⟩ := h.seg
  have hg : lastG S = g := by unfold lastG; rw [e1]; exact getD_last t g _
  rw [hg]
  exact ⟨t, l, r, e1, e⟩
/-- A roll: the records stay; where it is told OK, there is an empty segment at the end. -/
theorem Inv.roll {q : Int} {S : St} {rs : List Rp.Rec} (h : Inv q S rs) (hq : 0 < q) (hz : q ≤ (lastG S).z) (hl : rs.length ≤ 1099511627776) : Inv q (roll S).1 rs ∧ ((roll S).2 = 0 → (lastG (roll S).1).z = 0) ∧ S.s ≤ (roll S).1.s := by
  have hs1 := h.s1
  have hS := h.sync hl
  have hss : S.s ≤ (syncT S).1.s := by unfold syncT; dsimp only; split <;> omega
  have hgg : (syncT S).1.g = S.g := rfl
  have hxx : (syncT S).1.x = S.x := rfl
  have hlz : lastG (syncT S).1 = lastG S := rfl
  unfold So.roll
  split
  · exact ⟨h, fun e => (by cases e), Int.le_refl _⟩
  split
  · rename_i h1; exact ⟨hS, fun e => absurd e h1, hss⟩
  rw [← hlz] at hz
  generalize (syncT S).1 = T at *
  dsimp only
  obtain ⟨t, l, r, e1, e2, e3, e4, e5, e6, e7, e8⟩ := hS.last
  have hx := hS.x
  have hr0 : r ≠ [] := by
    rintro rfl
    rw [Rp.rowB_nil] at e7
    simp at e7
    omega
  have hrl : 0 < r.length := List.length_pos_iff.2 hr0
  have hlen : rs.length = l.length + r.length := by rw [e2, List.length_append]
  -- the new file's name is none of the segments'
  have hnew : ∀ x : Int, 0 ≤ x → x < T.x → segN x ≠ segN T.x := fun x a1 a2 e => by
    have := segN_inj a1 (by omega) (by omega) (by omega) e
    omega
  have hnn : ∀ x : Int, 0 ≤ x → x ≤ 1099511627776 → segN x ≠ nm ∧ segN x ≠ nn := fun x a b => segN_nm a b
  -- disks on which the segments' files are as they were
  have keep : ∀ D : Dk, Right D → (∀ x : Int, 0 ≤ x → x < T.x → dat D (segN x) = dat T.d (segN x)) → Inv q { T with d := D } rs := fun D hD hd => by
    refine ⟨hD, hS.ok, hS.up, hS.x, hS.s0, hS.s1, t, lastG T, l, r, e1, e2, e3.keep fun x a1 a2 => hd x a1 (by omega), e4, e5, ?_, e7, e8⟩
    rw [hd _ (by omega) (by omega)]
    exact e6
  have hC1 := right0 hS.dr (segN T.x)
  have hCd : ∀ x : Int, 0 ≤ x → x < T.x → dat (create T.d (segN T.x)).1 (segN x) = dat T.d (segN x) := fun x a1 a2 => create_other hS.dr (hnew x a1 a2)
  split
  · rename_i h1; exact ⟨keep _ hC1 hCd, fun e => absurd e h1, hss⟩
  rename_i h1
  have h1 : (create T.d (segN T.x)).2 = 0 := by simpa using h1
  have hnewd : dat (create T.d (segN T.x)).1 (segN T.x) = some [] := by rw [create_ok hS.dr h1, if_pos rfl]
  generalize create T.d (segN T.x) = C at *
  obtain ⟨hW1, hWd⟩ := swap_dat hC1 (man (more T C.1))
  have hWk : ∀ x : Int, 0 ≤ x → x ≤ T.x → dat (swap C.1 (man (more T C.1))).1 (segN x) = dat C.1 (segN x) := fun x a1 a2 => hWd _ (hnn x a1 (by omega)).1 (hnn x a1 (by omega)).2
  generalize swap C.1 (man (more T C.1)) = W at *
  split
  · rename_i h2
    refine ⟨keep _ (right5 hW1 _) fun x a1 a2 => ?_, fun e => ?_, hss⟩
    · rw [delete_other hW1 (hnew x a1 a2), hWk x a1 (by omega), hCd x a1 a2]
    · dsimp only at e
      split at e
      · cases e
      · rename_i h3; exact absurd e h3
  split
  · rename_i h2 h3
    exact ⟨keep _ hW1 fun x a1 a2 => by rw [hWk x a1 (by omega), hCd x a1 a2], fun e => absurd e h3, hss⟩
  · refine ⟨⟨hW1, hS.ok, hS.up, hS.x, hS.s0, hS.s1, t ++ [lastG T], ⟨T.x, 0, 0⟩, rs, [], ?_, by simp, ?_, hS.x, rfl, ?_, rfl, by show (0 : Int) ≤ _; omega⟩, fun _ => ?_, hss⟩
    · show T.g ++ _ = _
      rw [e1]
    · rw [e2]
      refine (e3.keep fun x a1 a2 => ?_).snoc (by rw [e4]; omega) hr0 e5 ?_ e7 hz e8
      · show dat W.1 _ = _
        rw [hWk x a1 (by omega), hCd x a1 (by omega)]
      · show dat W.1 _ = _
        rw [hWk _ (by omega) (by omega), hCd _ (by omega) (by omega)]
        exact e6
    · show dat W.1 (segN T.x) = _
      rw [hWk _ (by omega) (Int.le_refl _), hnewd]
      rfl
    · show (lastG (more T W.1)).z = 0
      unfold lastG more
      dsimp only
      rw [getD_last]

theorem grown_snoc (t : List Rt.Sg) (g : Rt.Sg) (n : Nat) : grown (t ++ [g]) n = t ++ [⟨g.b, g.n + 1, g.z + n⟩] := by
  unfold grown
  rw [getD_last]
  simp
/-- A record more. -/
theorem Inv.put {q : Int} {S : St} {rs : List Rp.Rec} (h : Inv q S rs) (hz : (lastG S).z < q) {r : Rp.Rec} (hr : Rp.Ok r) (ha : r.a = S.x) (hl : S.x < 1099511627776) :
    ((put S r).2 = 0 ∧ Inv q (put S r).1 (rs ++ [r]) ∧ (put S r).1.s = S.s) ∨ ((put S r).2 ≠ 0 ∧ Inv q (put S r).1 rs ∧ (put S r).1.s = S.s) := by
  have hx := h.x
  obtain ⟨t, l, m, e1, e2, e3, e4, e5, e6, e7, e8⟩ := h.last
  have hlen : rs.length = l.length + m.length := by rw [e2, List.length_append]
  have hR1 := right1 h.dr (segN (lastG S).b) ⟨(Rp.putB r).toArray⟩
  have hoth : ∀ x : Int, 0 ≤ x → x < l.length → dat (Dp.append S.d (segN (lastG S).b) ⟨(Rp.putB r).toArray⟩).1 (segN x) = dat S.d (segN x) := fun x a1 a2 => append_other h.dr fun e => by
    have := segN_inj a1 (by omega) (by omega) (by omega) e
    omega
  have hp : Rp.putB r = Fr.fr (Rp.body r) := by unfold Rp.putB; rw [if_pos (Rp.fault_zero hr)]
  unfold So.put
  dsimp only
  by_cases hA : (Dp.append S.d (segN (lastG S).b) ⟨(Rp.putB r).toArray⟩).2 = 0
  · rw [if_neg (by simpa using hA)]
    obtain ⟨o, o1, o2⟩ := append_ok h.dr hA
    rw [e6] at o1
    injection o1 with o1
    subst o1
    generalize Dp.append S.d (segN (lastG S).b) ⟨(Rp.putB r).toArray⟩ = A at *
    refine .inl ⟨rfl, ⟨hR1, fun y hy => ?_, rise_snoc 0 rs r h.up (by omega), by show S.x + 1 = _; rw [List.length_append, List.length_singleton]; omega, h.s0, by have := h.s1; show S.s ≤ S.x + 1; omega, t, ⟨(lastG S).b, (lastG S).n + 1, (lastG S).z + ((Rp.putB r).length : Nat)⟩, l, m ++ [r], by show grown S.g _ = _; rw [e1]; exact grown_snoc _ _ _, by rw [e2, List.append_assoc], e3.keep fun x a1 a2 => hoth x a1 (by omega), e4, by show (lastG S).n + 1 = _; rw [List.length_append, List.length_singleton]; omega, ?_, ?_, ?_⟩, rfl⟩
    · rcases List.mem_append.1 hy with hy | hy
      · exact h.ok y hy
      · rw [List.mem_singleton] at hy; subst hy; exact hr
    · show dat A.1 (segN (lastG S).b) = _
      rw [o2, if_pos rfl, Rp.rowB_snoc, ← hp]
    · show (lastG S).z + _ = _
      rw [Rp.rowB_snoc, List.length_append, e7, ← hp]
      omega
    · have h1 := Rp.fr_le hr
      have h2 := Rp.body_le hr
      show (lastG S).z + ((Rp.putB r).length : Int) ≤ _
      rw [hp]
      omega
  · rw [if_pos hA]
    have hno := fun x => append_no hA x
    refine .inr ⟨hA, h.of hR1 (fun x _ _ _ => hno _) rfl rfl h.s0 h.s1 (by omega), rfl⟩
/-- What is appended: a record more, or none. -/
theorem Inv.append {q : Int} {S : St} {rs : List Rp.Rec} (h : Inv q S rs) (hq : 0 < q) (r : Rp.Rec) :
    ((append S q r).2 = 0 ∧ Rp.Ok r ∧ r.a = S.x ∧ Inv q (append S q r).1 (rs ++ [r]) ∧ S.s ≤ (append S q r).1.s) ∨ ((append S q r).2 ≠ 0 ∧ Inv q (append S q r).1 rs ∧ S.s ≤ (append S q r).1.s) := by
  have hx := h.x
  unfold So.append
  split
  · exact .inr ⟨fun e => (by cases e), h, Int.le_refl _⟩
  rename_i h1
  have h1 : Rp.Ok r ∧ r.a = S.x := Classical.not_not.1 h1
  split
  · exact .inr ⟨fun e => (by cases e), h, Int.le_refl _⟩
  rename_i h2
  split
  · rename_i h3
    obtain ⟨r1, r2, r3⟩ := h.roll hq h3 (by omega)
    split
    · rename_i h4
      exact .inr ⟨h4, r1, r3⟩
    · rename_i h4
      have h4 : (So.roll S).2 = 0 := by simpa using h4
      have hxx : (So.roll S).1.x = S.x := r1.x.trans hx.symm
      rcases r1.put (by rw [r2 h4]; exact hq) h1.1 (by rw [hxx]; exact h1.2) (by omega) with ⟨a1, a2, a3⟩ | ⟨a1, a2, a3⟩
      · exact .inl ⟨a1, h1.1, h1.2, a2, by omega⟩
      · exact .inr ⟨a1, a2, by omega⟩
  · rename_i h3
    rcases h.put (by omega) h1.1 h1.2 (by omega) with ⟨a1, a2, a3⟩ | ⟨a1, a2, a3⟩
    · exact .inl ⟨a1, h1.1, h1.2, a2, by omega⟩
    · exact .inr ⟨a1, a2, by omega⟩

end Go.Proofs.Ythhhocgpoenigaa.So
