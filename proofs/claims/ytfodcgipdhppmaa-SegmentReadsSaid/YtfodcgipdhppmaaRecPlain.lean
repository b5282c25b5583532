/-
  Records as bytes, in plain Lean: what a record's frame is, what record a body holds, rows of records.
-/
import Derived.Test.YtfodcgipdhppmaaFramePlain
namespace Go.Proofs.Ytfodcgipdhppmaa.Rp

/-- A record: its offset, its time, its data. -/
structure Rec where
  a : Int
  t : Int
  d : ByteArray

/-- The record of noughts. -/
def zero : Rec := ⟨0, 0, ⟨#[]⟩⟩

/-- May a number be an offset, or a time? -/
def inB (n : Int) : Bool := decide (0 ≤ n) && decide (n ≤ 1099511627776)
theorem inB_yes {n : Int} (h : inB n = true) : 0 ≤ n ∧ n ≤ 1099511627776 := by
  unfold inB at h
  rw [Bool.and_eq_true] at h
  exact ⟨of_decide_eq_true h.1, of_decide_eq_true h.2⟩
theorem inB_mk {n : Int} (h0 : 0 ≤ n) (h1 : n ≤ 1099511627776) : inB n = true := by
  unfold inB
  rw [Bool.and_eq_true]
  exact ⟨decide_eq_true h0, decide_eq_true h1⟩
theorem inB_no {n : Int} (h : n < 0 ∨ 1099511627776 < n) : inB n = false := by
  unfold inB
  rw [Bool.and_eq_false_iff]
  rcases h with h | h
  · exact .inl (decide_eq_false (by omega))
  · exact .inr (decide_eq_false (by omega))

/-- Why may a record not be? 0: it may. -/
def fault (r : Rec) : Int := if inB r.a = true ∧ inB r.t = true then (if 64 < r.d.size then 5 else 0) else 6
/-- It may be. -/
def Ok (r : Rec) : Prop := 0 ≤ r.a ∧ r.a ≤ 1099511627776 ∧ 0 ≤ r.t ∧ r.t ≤ 1099511627776 ∧ r.d.size ≤ 64
theorem fault_a {r : Rec} (h : inB r.a = false) : fault r = 6 := by unfold fault; rw [if_neg (by simp [h])]
theorem fault_t {r : Rec} (h : inB r.t = false) : fault r = 6 := by unfold fault; rw [if_neg (by simp [h])]
theorem fault_d {r : Rec} (h1 : inB r.a = true) (h2 : inB r.t = true) (h : 64 < r.d.size) : fault r = 5 := by unfold fault; rw [if_pos ⟨h1, h2⟩, if_pos h]
theorem fault_ok {r : Rec} (h1 : inB r.a = true) (h2 : inB r.t = true) (h : r.d.size ≤ 64) : fault r = 0 := by unfold fault; rw [if_pos ⟨h1, h2⟩, if_neg (by omega)]
theorem fault_cases (r : Rec) : (fault r = 0 ∧ Ok r) ∨ (¬ Ok r ∧ (fault r = 5 ∨ fault r = 6)) := by
  by_cases h1 : inB r.a = true
  · by_cases h2 : inB r.t = true
    · have a1 := inB_yes h1
      have a2 := inB_yes h2
      by_cases h3 : 64 < r.d.size
      · exact .inr ⟨fun h => by have := h.2.2.2.2; omega, .inl (fault_d h1 h2 h3)⟩
      · exact .inl ⟨fault_ok h1 h2 (by omega), a1.1, a1.2, a2.1, a2.2, by omega⟩
    · exact .inr ⟨fun h => h2 (inB_mk h.2.2.1 h.2.2.2.1), .inr (fault_t (by simpa using h2))⟩
  · exact .inr ⟨fun h => h1 (inB_mk h.1 h.2.1), .inr (fault_a (by simpa using h1))⟩
theorem fault_zero {r : Rec} (h : Ok r) : fault r = 0 := by
  rcases fault_cases r with h1 | h1
  · exact h1.1
  · exact absurd h h1.1
theorem ok_of {r : Rec} (h : fault r = 0) : Ok r := by
  rcases fault_cases r with h1 | ⟨_, h1 | h1⟩
  · exact h1.2
  · omega
  · omega
theorem fault_pos {r : Rec} (h : ¬ Ok r) : fault r ≠ 0 := fun h1 => h (ok_of h1)

/-- A record's body. -/
def body (r : Rec) : List UInt8 := Vp.put r.a.toNat ++ Vp.put r.t.toNat ++ r.d.data.toList
/-- A number below 2^42 has at most six bytes. -/
theorem put_six {n : Nat} (h : n < 2 ^ 42) : (Vp.put n).length ≤ 6 := by
  have h1 := Vp.put_mono (show n ≤ 2 ^ 42 - 1 by omega)
  have h2 := Vp.putF_len_iff 9 (2 ^ 42 - 1) 5 (by decide) (by decide) (by decide)
  have h3 : (Vp.put (2 ^ 42 - 1)).length = 6 := h2
  omega
theorem body_len (r : Rec) : (body r).length = (Vp.put r.a.toNat).length + (Vp.put r.t.toNat).length + r.d.size := by
  unfold body
  rw [List.length_append, List.length_append]
  rfl
theorem body_le {r : Rec} (h : Ok r) : (body r).length ≤ 76 := by
  have h1 := put_six (n := r.a.toNat) (by have := h.1; have := h.2.1; omega)
  have h2 := put_six (n := r.t.toNat) (by have := h.2.2.1; have := h.2.2.2.1; omega)
  have h3 := h.2.2.2.2
  rw [body_len]
  omega
theorem body_pos (r : Rec) : 2 ≤ (body r).length := by
  have h1 := Vp.put_len_pos r.a.toNat
  have h2 := Vp.put_len_pos r.t.toNat
  rw [body_len]
  omega
theorem body_may {r : Rec} (h : Ok r) : Fr.May (body r).length := ⟨by have := body_pos r; omega, by have := body_le h; omega⟩

/-- A record's frame; none, if it may not be. -/
def putB (r : Rec) : List UInt8 := if fault r = 0 then Fr.fr (body r) else []
theorem putB_yes {r : Rec} (h : fault r = 0) : putB r = Fr.fr (body r) := by unfold putB; rw [if_pos h]
theorem putB_no {r : Rec} (h : fault r ≠ 0) : putB r = [] := by unfold putB; rw [if_neg h]
theorem put_one {n : Nat} (h : n < 128) : (Vp.put n).length = 1 := by
  show (Vp.putF 9 n).length = 1
  rw [Vp.putF_one h]
  rfl
theorem fr_le {r : Rec} (h : Ok r) : (Fr.fr (body r)).length = (body r).length + 5 := by
  have h1 := body_le h
  rw [Fr.fr_len, put_one (by omega)]
  omega
theorem putB_le (r : Rec) : (putB r).length ≤ 81 := by
  by_cases h : fault r = 0
  · rw [putB_yes h, fr_le (ok_of h)]
    have := body_le (ok_of h)
    omega
  · rw [putB_no h]; simp
theorem putB_pos {r : Rec} (h : Ok r) : 7 ≤ (putB r).length := by
  rw [putB_yes (fault_zero h), fr_le h]
  have := body_pos r
  omega

/-- The record of a body, or why there is none. -/
def get (l : List UInt8) : Rec × Int :=
  match Vp.take l with
  | none => (zero, 3)
  | some (n, j) =>
    match Vp.take (l.drop j) with
    | none => (zero, 3)
    | some (m, k) => if fault ⟨n, m, ⟨(l.drop (j + k)).toArray⟩⟩ = 0 then (⟨n, m, ⟨(l.drop (j + k)).toArray⟩⟩, 0) else (zero, fault ⟨n, m, ⟨(l.drop (j + k)).toArray⟩⟩)
theorem get_none {l : List UInt8} (h : Vp.take l = none) : get l = (zero, 3) := by unfold get; rw [h]
theorem get_half {l : List UInt8} {n j : Nat} (h : Vp.take l = some (n, j)) (h2 : Vp.take (l.drop j) = none) : get l = (zero, 3) := by
  unfold get; rw [h]; dsimp only; rw [h2]
theorem get_bad {l : List UInt8} {n j m k : Nat} (h : Vp.take l = some (n, j)) (h2 : Vp.take (l.drop j) = some (m, k)) (h3 : fault ⟨n, m, ⟨(l.drop (j + k)).toArray⟩⟩ ≠ 0) :
    get l = (zero, fault ⟨n, m, ⟨(l.drop (j + k)).toArray⟩⟩) := by
  unfold get; rw [h]; dsimp only; rw [h2]; dsimp only; rw [if_neg h3]
theorem get_yes {l : List UInt8} {n j m k : Nat} (h : Vp.take l = some (n, j)) (h2 : Vp.take (l.drop j) = some (m, k)) (h3 : fault ⟨n, m, ⟨(l.drop (j + k)).toArray⟩⟩ = 0) :
    get l = (⟨n, m, ⟨(l.drop (j + k)).toArray⟩⟩, 0) := by
  unfold get; rw [h]; dsimp only; rw [h2]; dsimp only; rw [if_pos h3]

/-- Either there is none, and why, or there is one, which may be, and whose body that is. -/
theorem get_cases (l : List UInt8) : (∃ e, get l = (zero, e) ∧ (e = 3 ∨ e = 5 ∨ e = 6)) ∨ ∃ r, get l = (r, 0) ∧ Ok r ∧ body r = l := by
  rcases h : Vp.take l with _ | ⟨n, j⟩
  · exact .inl ⟨3, get_none h, .inl rfl⟩
  rcases h2 : Vp.take (l.drop j) with _ | ⟨m, k⟩
  · exact .inl ⟨3, get_half h h2, .inl rfl⟩
  rcases fault_cases ⟨n, m, ⟨(l.drop (j + k)).toArray⟩⟩ with ⟨h3, hok⟩ | ⟨hno, h3⟩
  · refine .inr ⟨_, get_yes h h2 h3, hok, ?_⟩
    unfold body
    show Vp.put (n : Int).toNat ++ Vp.put (m : Int).toNat ++ (l.drop (j + k)) = l
    rw [Int.toNat_natCast, Int.toNat_natCast, Vp.put_take h, Vp.put_take h2, ← List.drop_drop, List.append_assoc, List.take_append_drop, List.take_append_drop]
  · have h4 : fault ⟨n, m, ⟨(l.drop (j + k)).toArray⟩⟩ ≠ 0 := by omega
    exact .inl ⟨_, get_bad h h2 h4, .inr h3⟩

theorem mk_toList (s : ByteArray) : (⟨s.data.toList.toArray⟩ : ByteArray) = s := by
  apply ByteArray.ext
  simp

/-- There and back. -/
theorem get_body {r : Rec} (h : Ok r) : get (body r) = (r, 0) := by
  have ha : ((r.a.toNat : Nat) : Int) = r.a := by have := h.1; omega
  have ht : ((r.t.toNat : Nat) : Int) = r.t := by have := h.2.2.1; omega
  have h1 : Vp.take (body r) = some (r.a.toNat, (Vp.put r.a.toNat).length) := by
    unfold body
    rw [List.append_assoc]
    exact Vp.take_put _ _ (by have := h.1; have := h.2.1; omega)
  have h2 : Vp.take ((body r).drop (Vp.put r.a.toNat).length) = some (r.t.toNat, (Vp.put r.t.toNat).length) := by
    unfold body
    rw [List.append_assoc, List.drop_left' rfl]
    exact Vp.take_put _ _ (by have := h.2.2.1; have := h.2.2.2.1; omega)
  have h3 : (body r).drop ((Vp.put r.a.toNat).length + (Vp.put r.t.toNat).length) = r.d.data.toList := by
    unfold body
    exact List.drop_left' (by rw [List.length_append])
  have e : (⟨(r.a.toNat : Nat), (r.t.toNat : Nat), ⟨((body r).drop ((Vp.put r.a.toNat).length + (Vp.put r.t.toNat).length)).toArray⟩⟩ : Rec) = r := by
    rw [h3, ha, ht, mk_toList]
  have h4 := get_yes h1 h2 (by rw [e]; exact fault_zero h)
  rw [e] at h4
  exact h4

/-- The frames of records, one behind the other; none, and the first reason, if one of them may not be. -/
def row : List Rec → List UInt8 × Int
  | [] => ([], 0)
  | r :: l => if fault r = 0 then (if (row l).2 = 0 then (putB r ++ (row l).1, 0) else ([], (row l).2)) else ([], fault r)
/-- The frames alone. -/
def rowB (l : List Rec) : List UInt8 := Fr.row (l.map body)
theorem rowB_nil : rowB [] = [] := rfl
theorem rowB_snoc (l : List Rec) (r : Rec) : rowB (l ++ [r]) = rowB l ++ Fr.fr (body r) := by
  unfold rowB
  rw [List.map_append, Fr.row_append]
  show _ ++ Fr.row [body r] = _
  rw [Fr.row_cons, Fr.row_nil, List.append_nil]
theorem rowB_cons (r : Rec) (l : List Rec) : rowB (r :: l) = Fr.fr (body r) ++ rowB l := rfl
theorem row_ok (l : List Rec) (h : ∀ r ∈ l, Ok r) : row l = (rowB l, 0) := by
  induction l with
  | nil => rfl
  | cons r l ih =>
    have h1 := ih fun x hx => h x (List.mem_cons_of_mem _ hx)
    have h2 := fault_zero (h r List.mem_cons_self)
    rw [row, if_pos h2, h1, if_pos rfl, rowB_cons, putB_yes h2]
theorem row_bad (l : List Rec) (r : Rec) (l2 : List Rec) (h : ∀ x ∈ l, Ok x) (hr : ¬ Ok r) : row (l ++ r :: l2) = ([], fault r) := by
  induction l with
  | nil => rw [List.nil_append, row, if_neg (fault_pos hr)]
  | cons x l ih =>
    have h1 := ih fun y hy => h y (List.mem_cons_of_mem _ hy)
    have h2 := fault_zero (h x List.mem_cons_self)
    rw [List.cons_append, row, if_pos h2, h1, if_neg (fault_pos hr)]
theorem rowB_le (l : List Rec) (h : ∀ r ∈ l, Ok r) : (rowB l).length ≤ 81 * l.length := by
  induction l with
  | nil => simp [rowB_nil]
  | cons r l ih =>
    have h1 := ih fun x hx => h x (List.mem_cons_of_mem _ hx)
    have h2 := body_le (h r List.mem_cons_self)
    have h3 := fr_le (h r List.mem_cons_self)
    rw [rowB_cons, List.length_append, List.length_cons]
    omega

/-- The record whose frame stands at the beginning of l, and how many bytes that frame has; or why there is none. -/
def nxt (l : List UInt8) : Rec × Nat × Int :=
  match Fr.nx l with
  | (0, j, b) => if (get b).2 = 0 then ((get b).1, j, 0) else (zero, 0, (get b).2)
  | (e + 1, _, _) => (zero, 0, ((e + 1 : Nat) : Int))
theorem nxt_no {l : List UInt8} {e : Nat} (h : Fr.nx l = (e, 0, [])) (he : e ≠ 0) : nxt l = (zero, 0, (e : Int)) := by
  unfold nxt
  rw [h]
  obtain ⟨e, rfl⟩ : ∃ e', e = e' + 1 := ⟨e - 1, by omega⟩
  rfl
theorem nxt_bad {l b : List UInt8} {j : Nat} {e : Int} (h : Fr.nx l = (0, j, b)) (hg : get b = (zero, e)) (he : e ≠ 0) : nxt l = (zero, 0, e) := by
  unfold nxt
  rw [h]
  dsimp only
  rw [hg, if_neg he]
theorem nxt_yes {l b : List UInt8} {j : Nat} {r : Rec} (h : Fr.nx l = (0, j, b)) (hg : get b = (r, 0)) : nxt l = (r, j, 0) := by
  unfold nxt
  rw [h]
  dsimp only
  rw [hg, if_pos rfl]
theorem nxt_cases (l : List UInt8) : (∃ e, nxt l = (zero, 0, e) ∧ (e = 2 ∨ e = 3 ∨ e = 4 ∨ e = 5 ∨ e = 6)) ∨
    ∃ r j, nxt l = (r, j, 0) ∧ Ok r ∧ 7 ≤ j ∧ j ≤ l.length ∧ Fr.fr (body r) = l.take j := by
  rcases Fr.nx_cases l with ⟨e, h, h3⟩ | ⟨j, b, h, h5, h6, h7, h8⟩
  · refine .inl ⟨e, nxt_no h (by omega), by omega⟩
  · rcases get_cases b with ⟨e, hg, he⟩ | ⟨r, hg, hok, hb⟩
    · exact .inl ⟨e, nxt_bad h hg (by omega), by omega⟩
    · exact .inr ⟨r, j, nxt_yes h hg, hok, by have := body_pos r; rw [hb] at this; omega, h6, by rw [hb]; exact h8⟩
theorem nxt_fr {r : Rec} (h : Ok r) (l : List UInt8) : nxt (Fr.fr (body r) ++ l) = (r, (Fr.fr (body r)).length, 0) :=
  nxt_yes (Fr.nx_fr _ _ (body_may h)) (get_body h)

/-- The records in a row, how far they go, and why there is no more. -/
def rws : Nat → List UInt8 → List Rec × Nat × Int
  | 0, _ => ([], 0, 0)
  | n + 1, l =>
    if l = [] then ([], 0, 0)
    else if (nxt l).2.2 = 0 then ((nxt l).1 :: (rws n (l.drop (nxt l).2.1)).1, (nxt l).2.1 + (rws n (l.drop (nxt l).2.1)).2.1, (rws n (l.drop (nxt l).2.1)).2.2)
    else ([], 0, (nxt l).2.2)
theorem rws_fuel : ∀ (k : Nat) (l : List UInt8), l.length ≤ k → rws k l = rws l.length l := by
  intro k
  induction k using Nat.strongRecOn with
  | ind k ih =>
    intro l hl
    by_cases hk : l.length = k
    · rw [hk]
    · obtain ⟨k, rfl⟩ : ∃ k', k = k' + 1 := ⟨k - 1, by omega⟩
      by_cases h0 : l = []
      · subst h0; simp [rws]
      · obtain ⟨m, hm⟩ : ∃ m, l.length = m + 1 := ⟨l.length - 1, by have := List.length_pos_iff.2 h0; omega⟩
        rw [hm, rws, rws, if_neg h0, if_neg h0]
        rcases nxt_cases l with ⟨e, h, h3⟩ | ⟨r, j, h, _, h5, h6, _⟩
        · rw [h]; dsimp only; rw [if_neg (by omega), if_neg (by omega)]
        · rw [h]; dsimp only; rw [if_pos rfl, if_pos rfl, ih k (by omega) (l.drop j) (by rw [List.length_drop]; omega), ih m (by omega) (l.drop j) (by rw [List.length_drop]; omega)]
def rows (l : List UInt8) : List Rec × Nat × Int := rws l.length l
theorem rows_nil : rows [] = ([], 0, 0) := rfl
theorem rows_stop {l : List UInt8} {e : Int} (hne : l ≠ []) (h : nxt l = (zero, 0, e)) (he : e ≠ 0) : rows l = ([], 0, e) := by
  obtain ⟨m, hm⟩ : ∃ m, l.length = m + 1 := ⟨l.length - 1, by have := List.length_pos_iff.2 hne; omega⟩
  unfold rows
  rw [hm, rws, if_neg hne, h]
  dsimp only
  rw [if_neg he]
theorem rows_go {l : List UInt8} {j : Nat} {r : Rec} (h : nxt l = (r, j, 0)) (hj : 0 < j) (hl : j ≤ l.length) : rows l = (r :: (rows (l.drop j)).1, j + (rows (l.drop j)).2.1, (rows (l.drop j)).2.2) := by
  obtain ⟨m, hm⟩ : ∃ m, l.length = m + 1 := ⟨l.length - 1, by omega⟩
  have hne : l ≠ [] := by rw [← List.length_pos_iff]; omega
  unfold rows
  rw [hm, rws, if_neg hne, h]
  dsimp only
  rw [if_pos rfl, rws_fuel m (l.drop j) (by rw [List.length_drop]; omega)]

/-- What a walk over a row knows when it has come to k. -/
def RowsRel (l : List UInt8) (rs : List Rec) (k : Nat) : Prop := rows l = (rs ++ (rows (l.drop k)).1, k + (rows (l.drop k)).2.1, (rows (l.drop k)).2.2)
theorem RowsRel.start (l : List UInt8) : RowsRel l [] 0 := by unfold RowsRel; simp
theorem RowsRel.step {l : List UInt8} {rs : List Rec} {k j : Nat} {r : Rec} (h : RowsRel l rs k) (hn : nxt (l.drop k) = (r, j, 0)) (hj : 0 < j) (hl : j ≤ (l.drop k).length) : RowsRel l (rs ++ [r]) (k + j) := by
  unfold RowsRel at *
  rw [h, rows_go hn hj hl, List.drop_drop]
  simp [Nat.add_assoc]
theorem RowsRel.stop {l : List UInt8} {rs : List Rec} {k : Nat} {e : Int} (h : RowsRel l rs k) (hk : k < l.length) (hn : nxt (l.drop k) = (zero, 0, e)) (he : e ≠ 0) : rows l = (rs, k, e) := by
  unfold RowsRel at h
  rw [h, rows_stop (by rw [← List.length_pos_iff, List.length_drop]; omega) hn he]
  simp
theorem RowsRel.done {l : List UInt8} {rs : List Rec} {k : Nat} (h : RowsRel l rs k) (hk : l.length ≤ k) : rows l = (rs, k, 0) := by
  unfold RowsRel at h
  rw [h, List.drop_eq_nil_of_le hk, rows_nil]
  simp

/-- Records that have a row are all there. -/
theorem rows_row (l : List Rec) (h : ∀ r ∈ l, Ok r) : rows (rowB l) = (l, (rowB l).length, 0) := by
  induction l with
  | nil => rfl
  | cons r l ih =>
    have h1 := ih fun x hx => h x (List.mem_cons_of_mem _ hx)
    have hok := h r List.mem_cons_self
    have h2 := nxt_fr hok (rowB l)
    rw [rowB_cons, rows_go h2 (by have := fr_le hok; omega) (by rw [List.length_append]; omega), List.drop_left' rfl, h1]
    simp

/-- A record with more data has more bytes. -/
theorem size_more {r r2 : Rec} (ha : r2.a = r.a) (ht : r2.t = r.t) (h : Ok r) (h2 : Ok r2) {n : Nat} (hd : r2.d.size = r.d.size + n) : (putB r2).length = (putB r).length + n := by
  rw [putB_yes (fault_zero h), putB_yes (fault_zero h2), fr_le h, fr_le h2, body_len, body_len, ha, ht, hd]
  omega

end Go.Proofs.Ytfodcgipdhppmaa.Rp
