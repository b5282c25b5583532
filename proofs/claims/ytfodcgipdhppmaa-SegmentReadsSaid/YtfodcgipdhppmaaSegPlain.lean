/-
  Segments, in plain Lean: the records that stand one behind the other, of offsets from a base on, and where; their marks; the one of an offset.
  The marks of a segment's records, in plain Lean: they rise, they split; a walk from one of them on; rows that are cut.
-/
import Derived.Test.YtfodcgipdhppmaaRecPlain
import Derived.Test.YtfodcgipdhppmaaMarkPlain
namespace Go.Proofs.Ytfodcgipdhppmaa.Gp
open Rp

/-- The records from place k on, of offsets from b on, each with its place; where they end, and why. -/
def pl : Nat → List UInt8 → Int → Nat → List (Rec × Nat) × Nat × Int
  | 0, _, _, k => ([], k, 0)
  | n + 1, l, b, k =>
    if l = [] then ([], k, 0)
    else if (nxt l).2.2 = 0 then
      (if (nxt l).1.a = b then (((nxt l).1, k) :: (pl n (l.drop (nxt l).2.1) (b + 1) (k + (nxt l).2.1)).1, (pl n (l.drop (nxt l).2.1) (b + 1) (k + (nxt l).2.1)).2) else ([], k, 3))
    else ([], k, (nxt l).2.2)
theorem pl_fuel : ∀ (n : Nat) (l : List UInt8) (b : Int) (k : Nat), l.length ≤ n → pl n l b k = pl l.length l b k := by
  intro n
  induction n using Nat.strongRecOn with
  | ind n ih =>
    intro l b k hl
    by_cases hk : l.length = n
    · rw [hk]
    · obtain ⟨n, rfl⟩ : ∃ n', n = n' + 1 := ⟨n - 1, by omega⟩
      by_cases h0 : l = []
      · subst h0; simp [pl]
      · obtain ⟨m, hm⟩ : ∃ m, l.length = m + 1 := ⟨l.length - 1, by have := List.length_pos_iff.2 h0; omega⟩
        rw [hm, pl, pl, if_neg h0, if_neg h0]
        rcases nxt_cases l with ⟨e, h, h3⟩ | ⟨r, j, h, _, h5, h6, _⟩
        · rw [h]; dsimp only; rw [if_neg (by omega), if_neg (by omega)]
        · rw [h]; dsimp only; rw [if_pos rfl, if_pos rfl, ih n (by omega) (l.drop j) _ _ (by rw [List.length_drop]; omega), ih m (by omega) (l.drop j) _ _ (by rw [List.length_drop]; omega)]
def pls (l : List UInt8) (b : Int) (k : Nat) : List (Rec × Nat) × Nat × Int := pl l.length l b k
theorem pls_nil (b : Int) (k : Nat) : pls [] b k = ([], k, 0) := rfl
theorem pls_stop {l : List UInt8} {b : Int} {k : Nat} {e : Int} (hne : l ≠ []) (h : nxt l = (zero, 0, e)) (he : e ≠ 0) : pls l b k = ([], k, e) := by
  obtain ⟨m, hm⟩ : ∃ m, l.length = m + 1 := ⟨l.length - 1, by have := List.length_pos_iff.2 hne; omega⟩
  unfold pls
  rw [hm, pl, if_neg hne, h]
  dsimp only
  rw [if_neg he]
theorem pls_form {l : List UInt8} {b : Int} {k j : Nat} {r : Rec} (h : nxt l = (r, j, 0)) (hl : l ≠ []) (ha : r.a ≠ b) : pls l b k = ([], k, 3) := by
  obtain ⟨m, hm⟩ : ∃ m, l.length = m + 1 := ⟨l.length - 1, by have := List.length_pos_iff.2 hl; omega⟩
  unfold pls
  rw [hm, pl, if_neg hl, h]
  dsimp only
  rw [if_pos rfl, if_neg ha]
theorem pls_go {l : List UInt8} {b : Int} {k j : Nat} {r : Rec} (h : nxt l = (r, j, 0)) (hj : 0 < j) (hl : j ≤ l.length) (ha : r.a = b) :
    pls l b k = ((r, k) :: (pls (l.drop j) (b + 1) (k + j)).1, (pls (l.drop j) (b + 1) (k + j)).2) := by
  obtain ⟨m, hm⟩ : ∃ m, l.length = m + 1 := ⟨l.length - 1, by omega⟩
  have hne : l ≠ [] := by rw [← List.length_pos_iff]; omega
  unfold pls
  rw [hm, pl, if_neg hne, h]
  dsimp only
  rw [if_pos rfl, if_pos ha, pl_fuel m (l.drop j) _ _ (by rw [List.length_drop]; omega)]

/-- What a walk knows that began at place k0 with offset b, and has come to k with ps. -/
def PRel (l : List UInt8) (b : Int) (k0 : Nat) (ps : List (Rec × Nat)) (k : Nat) : Prop :=
  pls (l.drop k0) b k0 = (ps ++ (pls (l.drop k) (b + ps.length) k).1, (pls (l.drop k) (b + ps.length) k).2)
theorem PRel.start (l : List UInt8) (b : Int) (k : Nat) : PRel l b k [] k := by unfold PRel; simp
theorem PRel.step {l : List UInt8} {b : Int} {k0 k j : Nat} {ps : List (Rec × Nat)} {r : Rec} (h : PRel l b k0 ps k) (hn : nxt (l.drop k) = (r, j, 0)) (hj : 0 < j) (hl : j ≤ (l.drop k).length) (ha : r.a = b + ps.length) :
    PRel l b k0 (ps ++ [(r, k)]) (k + j) := by
  unfold PRel at *
  rw [h, pls_go hn hj hl ha, List.drop_drop]
  have e : b + (ps.length : Int) + 1 = b + ((ps ++ [(r, k)]).length : Int) := by rw [List.length_append, List.length_singleton]; omega
  rw [e]
  simp
theorem PRel.stop {l : List UInt8} {b : Int} {k0 k : Nat} {ps : List (Rec × Nat)} {e : Int} (h : PRel l b k0 ps k) (hk : k < l.length) (hn : nxt (l.drop k) = (zero, 0, e)) (he : e ≠ 0) : pls (l.drop k0) b k0 = (ps, k, e) := by
  unfold PRel at h
  rw [h, pls_stop (by rw [← List.length_pos_iff, List.length_drop]; omega) hn he]
  simp
theorem PRel.form {l : List UInt8} {b : Int} {k0 k j : Nat} {ps : List (Rec × Nat)} {r : Rec} (h : PRel l b k0 ps k) (hk : k < l.length) (hn : nxt (l.drop k) = (r, j, 0)) (ha : r.a ≠ b + ps.length) : pls (l.drop k0) b k0 = (ps, k, 3) := by
  unfold PRel at h
  rw [h, pls_form hn (by rw [← List.length_pos_iff, List.length_drop]; omega) ha]
  simp
theorem PRel.done {l : List UInt8} {b : Int} {k0 k : Nat} {ps : List (Rec × Nat)} (h : PRel l b k0 ps k) (hk : l.length ≤ k) : pls (l.drop k0) b k0 = (ps, k, 0) := by
  unfold PRel at h
  rw [h, List.drop_eq_nil_of_le hk, pls_nil]
  simp

/-- Of any base. -/
def full (l : List UInt8) (b : Int) : List (Rec × Nat) × Nat × Int := if inB b = true then pls l b 0 else ([], 0, 1)
theorem full_in {l : List UInt8} {b : Int} (h : inB b = true) : full l b = pls (l.drop 0) b 0 := by unfold full; rw [if_pos h]; rfl
theorem full_out {l : List UInt8} {b : Int} (h : inB b = false) : full l b = ([], 0, 1) := by unfold full; rw [if_neg (by simp [h])]

/-- What is known of them. -/
structure Good (l : List UInt8) (b : Int) (k0 : Nat) (ps : List (Rec × Nat)) (k : Nat) : Prop where
  ok : ∀ p ∈ ps, Ok p.1
  at_ : ∀ i (h : i < ps.length), ps[i].1.a = b + i
  lo : ∀ i (h : i < ps.length), k0 + 7 * i ≤ ps[i].2 ∧ ps[i].2 + 7 ≤ k
  up : ∀ i (h : i + 1 < ps.length), ps[i].2 < ps[i + 1].2
  le : k ≤ l.length ∨ k = k0
  few : k0 + 7 * ps.length ≤ k
theorem Good.start (l : List UInt8) (b : Int) (k : Nat) : Good l b k [] k :=
  ⟨by simp, by simp, by simp, by simp, .inr rfl, by simp⟩
theorem Good.step {l : List UInt8} {b : Int} {k0 k j : Nat} {ps : List (Rec × Nat)} {r : Rec} (h : Good l b k0 ps k) (hok : Ok r) (ha : r.a = b + ps.length) (hj : 7 ≤ j) (hl : j ≤ (l.drop k).length) :
    Good l b k0 (ps ++ [(r, k)]) (k + j) := by
  rw [List.length_drop] at hl
  obtain ⟨h1, h2, h3, h4, h5, h6⟩ := h
  refine ⟨fun p hp => ?_, fun i hi => ?_, fun i hi => ?_, fun i hi => ?_, .inl (by omega), ?_⟩
  · rw [List.mem_append] at hp
    rcases hp with hp | hp
    · exact h1 p hp
    · rw [List.mem_singleton] at hp; subst hp; exact hok
  · rw [List.length_append, List.length_singleton] at hi
    rw [List.getElem_append]
    split
    · exact h2 i _
    · rw [List.getElem_singleton]
      have : i = ps.length := by omega
      rw [this]; exact ha
  · rw [List.length_append, List.length_singleton] at hi
    rw [List.getElem_append]
    split
    · have := h3 i (by assumption); omega
    · rw [List.getElem_singleton]
      exact ⟨by show _ ≤ k; omega, by show k + 7 ≤ _; omega⟩
  · rw [List.length_append, List.length_singleton] at hi
    rw [List.getElem_append_left (by omega)]
    rw [List.getElem_append]
    split
    · exact h4 i _
    · rw [List.getElem_singleton]
      have := (h3 i (by omega)).2
      show _ < k
      omega
  · rw [List.length_append, List.length_singleton]; omega

/-- Of bytes, whatever they are: what they come to is so. -/
theorem good_pls : ∀ (n : Nat) (l : List UInt8) (b : Int) (k0 k : Nat) (ps : List (Rec × Nat)), l.length - k ≤ n → PRel l b k0 ps k → Good l b k0 ps k →
    ∃ ps' k' e, pls (l.drop k0) b k0 = (ps', k', e) ∧ Good l b k0 ps' k' ∧ (e = 0 ∨ e = 2 ∨ e = 3 ∨ e = 4 ∨ e = 5 ∨ e = 6)
  | n, l, b, k0, k, ps, hn, h, hg => by
    by_cases hk : k < l.length
    · rcases nxt_cases (l.drop k) with ⟨e, he, h3⟩ | ⟨r, j, he, hok, h5, h6, _⟩
      · exact ⟨ps, k, e, h.stop hk he (by omega), hg, by omega⟩
      · by_cases ha : r.a = b + ps.length
        · cases n with
          | zero => omega
          | succ n =>
            have h6' := h6
            rw [List.length_drop] at h6'
            exact good_pls n l b k0 (k + j) (ps ++ [(r, k)]) (by omega) (h.step he (by omega) h6 ha) (hg.step hok ha h5 h6)
        · exact ⟨ps, k, 3, h.form hk he ha, hg, by omega⟩
    · exact ⟨ps, k, 0, h.done (by omega), hg, by omega⟩
theorem full_good (l : List UInt8) (b : Int) : ∃ ps k e, full l b = (ps, k, e) ∧ Good l b 0 ps k ∧ (ps ≠ [] → inB b = true) ∧ 0 ≤ e ∧ e ≤ 6 := by
  by_cases h : inB b = true
  · obtain ⟨ps, k, e, h1, h2, h3⟩ := good_pls l.length l b 0 0 [] (by omega) (PRel.start l b 0) (Good.start l b 0)
    exact ⟨ps, k, e, by rw [full_in h, h1], h2, fun _ => h, by omega, by omega⟩
  · exact ⟨[], 0, 1, full_out (by simpa using h), Good.start l b 0, fun h => absurd rfl h, by omega, by omega⟩

/-- The marks of the first k of them. -/
def ix (ps : List (Rec × Nat)) (b every : Int) : Nat → List Mp.Mk
  | 0 => []
  | k + 1 => Mp.add (ix ps b every k) b every ⟨b + k, (ps.getD k (zero, 0)).2⟩
/-- The one of an offset: its place among them. -/
def rd (ps : List (Rec × Nat)) (b off : Int) : Rec × Int :=
  if b ≤ off ∧ off < b + ps.length then ((ps.getD (off - b).toNat (zero, 0)).1, 0) else (zero, 6)

end Go.Proofs.Ytfodcgipdhppmaa.Gp

namespace Go.Proofs.Ytfodcgipdhppmaa.Gp
open Rp

def pz : Rec × Nat := (zero, 0)
theorem getD_ps {ps : List (Rec × Nat)} {i : Nat} (h : i < ps.length) : ps.getD i pz = ps[i] := by simp [List.getD_eq_getElem?_getD, h]
theorem ix_len (ps : List (Rec × Nat)) (b every : Int) : ∀ k, (ix ps b every k).length ≤ k
  | 0 => Nat.le_refl 0
  | k + 1 => by
    have := ix_len ps b every k
    unfold ix Mp.add
    split <;> simp <;> omega
/-- Each mark is one of the records'. -/
theorem ix_mem {ps : List (Rec × Nat)} {b every : Int} : ∀ {k : Nat} {m : Mp.Mk}, m ∈ ix ps b every k → ∃ i, i < k ∧ m = ⟨b + i, (ps.getD i pz).2⟩
  | k + 1, m, h => by
    unfold ix Mp.add at h
    split at h
    · rw [List.mem_append] at h
      rcases h with h | h
      · obtain ⟨i, hi, e⟩ := ix_mem h
        exact ⟨i, by omega, e⟩
      · rw [List.mem_singleton] at h
        exact ⟨k, by omega, h⟩
    · obtain ⟨i, hi, e⟩ := ix_mem h
      exact ⟨i, by omega, e⟩
/-- They rise, one by one. -/
theorem right_snoc {l : List Mp.Mk} {m : Mp.Mk} (h : Mp.Right l) (h0 : 0 ≤ m.o) (h1 : 0 ≤ m.p) (h2 : ∀ x ∈ l, x.o < m.o ∧ x.p < m.p) : Mp.Right (l ++ [m]) := by
  intro k hk
  rw [List.length_append, List.length_singleton] at hk
  have e1 : ∀ j, j < l.length → (l ++ [m]).getD j Mp.zero = l.getD j Mp.zero := fun j hj => by simp [List.getD_eq_getElem?_getD, List.getElem?_append_left hj]
  have e2 : (l ++ [m]).getD l.length Mp.zero = m := by simp [List.getD_eq_getElem?_getD]
  by_cases hl : k < l.length
  · obtain ⟨a1, a2, a3⟩ := h k hl
    unfold Mp.AtOk
    rw [e1 k hl]
    exact ⟨a1, a2, fun hp => by rw [e1 (k - 1) (by omega)]; exact a3 hp⟩
  · obtain rfl : k = l.length := by omega
    unfold Mp.AtOk
    rw [e2]
    refine ⟨h0, h1, fun hp => ?_⟩
    rw [e1 (l.length - 1) (by omega), Mp.getD_mk (show l.length - 1 < l.length by omega)]
    exact h2 _ (List.getElem_mem _)
theorem Good.rise {l : List UInt8} {b : Int} {k0 k : Nat} {ps : List (Rec × Nat)} (h : Good l b k0 ps k) : ∀ (d i : Nat) (hi : i + d + 1 < ps.length), ps[i].2 < ps[i + d + 1].2
  | 0, i, hi => h.up i hi
  | d + 1, i, hi => Nat.lt_trans (h.rise d i (by omega)) (h.up (i + d + 1) hi)
theorem ix_right {l : List UInt8} {b every : Int} {k : Nat} {ps : List (Rec × Nat)} (h : Good l b 0 ps k) (hb : 0 ≤ b) : ∀ n, n ≤ ps.length → Mp.Right (ix ps b every n)
  | 0, _ => fun k hk => absurd hk (Nat.not_lt_zero k)
  | n + 1, hn => by
    have ih := ix_right h hb (every := every) n (by omega)
    unfold ix Mp.add
    split
    · refine right_snoc ih (by show 0 ≤ b + (n : Int); omega) (by show 0 ≤ (((ps.getD n (zero, 0)).2 : Nat) : Int); omega) fun x hx => ?_
      obtain ⟨i, hi, rfl⟩ := ix_mem hx
      refine ⟨by show b + (i : Int) < b + (n : Int); omega, ?_⟩
      show (((ps.getD i pz).2 : Nat) : Int) < (((ps.getD n pz).2 : Nat) : Int)
      rw [getD_ps (show i < ps.length by omega), getD_ps (show n < ps.length by omega)]
      obtain ⟨d, rfl⟩ : ∃ d, n = i + d + 1 := ⟨n - i - 1, by omega⟩
      have := h.rise d i (by omega)
      omega
    · exact ih
/-- The first record is always marked. -/
theorem ix_head (ps : List (Rec × Nat)) (b every : Int) : ∀ n, 0 < n → ∃ m t, ix ps b every n = m :: t ∧ m.o = b
  | 1, _ => ⟨⟨b + (0 : Nat), (ps.getD 0 pz).2⟩, [], by
      show Mp.add [] b every ⟨b + (0 : Nat), (ps.getD 0 pz).2⟩ = _
      unfold Mp.add
      rw [if_pos (by show (b + ((0 : Nat) : Int) - b) % every = 0; rw [show b + ((0 : Nat) : Int) - b = 0 from by omega]; exact Int.zero_emod _)]
      rfl, by show b + ((0 : Nat) : Int) = b; omega⟩
  | n + 2, _ => by
    obtain ⟨m, t, e, h⟩ := ix_head ps b every (n + 1) (by omega)
    show ∃ m t, Mp.add (ix ps b every (n + 1)) b every _ = m :: t ∧ m.o = b
    unfold Mp.add
    split
    · exact ⟨m, t ++ [_], by rw [e]; rfl, h⟩
    · exact ⟨m, t, e, h⟩

/-- A walk from the i-th of them on comes to the rest. -/
theorem pls_from (L : List UInt8) : ∀ (i : Nat) (b : Int) (k0 : Nat) (ps : List (Rec × Nat)) (k : Nat) (e : Int), pls (L.drop k0) b k0 = (ps, k, e) → ∀ h : i < ps.length, pls (L.drop ps[i].2) (b + i) ps[i].2 = (ps.drop i, k, e)
  | i, b, k0, ps, k, e, hp, h => by
    have hne : L.drop k0 ≠ [] := fun h0 => by rw [h0, pls_nil] at hp; injection hp with h1; subst h1; simp at h
    rcases nxt_cases (L.drop k0) with ⟨er, he, h3⟩ | ⟨r, j, he, hok, h5, h6, _⟩
    · rw [pls_stop hne he (by omega)] at hp; injection hp with h1; subst h1; simp at h
    · by_cases ha : r.a = b
      · have hp0 := hp
        rw [pls_go he (by omega) h6 ha, List.drop_drop] at hp
        rcases hq : pls (L.drop (k0 + j)) (b + 1) (k0 + j) with ⟨ps', k', e'⟩
        rw [hq] at hp
        injection hp with h1 h2
        injection h2 with h2 h4
        subst h1 h2 h4
        cases i with
        | zero =>
          show pls (L.drop k0) (b + ((0 : Nat) : Int)) k0 = ((r, k0) :: ps', k', e')
          rw [show b + ((0 : Nat) : Int) = b from by omega]
          exact hp0
        | succ i =>
          have := pls_from L i (b + 1) (k0 + j) ps' k' e' hq (by simpa using h)
          rw [show b + 1 + (i : Int) = b + ((i + 1 : Nat) : Int) from by omega] at this
          exact this
      · rw [pls_form he hne ha] at hp; injection hp with h1; subst h1; simp at h

/-- What is told of an offset. -/
theorem rd_out {ps : List (Rec × Nat)} {b off : Int} (h : off < b ∨ b + ps.length ≤ off) : rd ps b off = (zero, 6) := by unfold rd; rw [if_neg (by omega)]
theorem rd_in (ps : List (Rec × Nat)) (b : Int) {i : Nat} (h : i < ps.length) : rd ps b (b + i) = (ps[i].1, 0) := by
  unfold rd
  rw [if_pos ⟨by omega, by omega⟩, show (b + (i : Int) - b).toNat = i from by omega]
  show ((ps.getD i pz).1, (0 : Int)) = _
  rw [getD_ps h]

/-- Records of offsets from b on, their places. -/
def withAt : List Rec → Nat → List (Rec × Nat)
  | [], _ => []
  | r :: l, k => (r, k) :: withAt l (k + (Fr.fr (body r)).length)
theorem withAt_fst : ∀ (l : List Rec) (k : Nat), (withAt l k).map Prod.fst = l
  | [], _ => rfl
  | r :: l, k => by rw [withAt, List.map_cons, withAt_fst l]
theorem withAt_len (l : List Rec) (k : Nat) : (withAt l k).length = l.length := by
  have := congrArg List.length (withAt_fst l k)
  rwa [List.length_map] at this
/-- They rise by one. -/
def Rise (b : Int) : List Rec → Prop
  | [] => True
  | r :: l => r.a = b ∧ Rise (b + 1) l
/-- Whole records, and behind them what is no record. -/
theorem pls_rows : ∀ (l : List Rec) (b : Int) (k : Nat) (rest : List UInt8) (e : Int), (∀ r ∈ l, Ok r) → Rise b l → (rest = [] ∧ e = 0 ∨ rest ≠ [] ∧ nxt rest = (zero, 0, e) ∧ e ≠ 0) →
    pls (rowB l ++ rest) b k = (withAt l k, k + (rowB l).length, e)
  | [], b, k, rest, e, _, _, h => by
    rw [rowB_nil, List.nil_append]
    rcases h with ⟨rfl, rfl⟩ | ⟨h1, h2, h3⟩
    · rw [pls_nil]; rfl
    · rw [pls_stop h1 h2 h3]; rfl
  | r :: l, b, k, rest, e, hok, hr, h => by
    have h1 := hok r List.mem_cons_self
    have h2 := nxt_fr h1 (rowB l ++ rest)
    rw [rowB_cons, List.append_assoc, pls_go h2 (by have := fr_le h1; omega) (by rw [List.length_append]; omega) hr.1, List.drop_left' rfl, pls_rows l (b + 1) _ rest e (fun x hx => hok x (List.mem_cons_of_mem _ hx)) hr.2 h]
    rw [withAt, List.length_append]
    congr 1
    rw [Nat.add_assoc]
theorem nxt_cut {r : Rec} (h : Ok r) {n : Nat} (hn : n < (Fr.fr (body r)).length) : nxt ((Fr.fr (body r)).take n) = (zero, 0, 2) :=
  nxt_no (Fr.nx_fr_cut _ _ (body_may h) hn) (by decide)

end Go.Proofs.Ytfodcgipdhppmaa.Gp
