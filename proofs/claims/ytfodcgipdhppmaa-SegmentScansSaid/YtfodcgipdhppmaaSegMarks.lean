/-
  The marks of a segment's records, in plain Lean: they rise, they split; a walk from one of them on; rows that are cut.
-/
import Derived.Test.YtfodcgipdhppmaaSegPlain
namespace Go.Proofs.Ytfodcgipdhppmaa.Gp
open Rp

def pz : Rec × Nat := (zero, 0)
theorem getD_ps {ps : List (Rec × Nat)} {i : Nat} (h : i < ps.length) : ps.getD i pz = ps[i] := by simp [List.getD_eq_getElem?_getD, h]
theorem ix_len (ps : List (Rec × Nat)) (b every : Int) : ∀ k, (ix ps b every k).length ≤ k
  | 0 => Nat.le_refl 0
  | k + 1 => by
    have := ix_len ps b every k
    unfold ix Mp.add
    split <;> simp <;> omega
/-- Each mark is one of the records'. -/
theorem ix_mem {ps : List (Rec × Nat)} {b every : Int} : ∀ {k : Nat} {m : Mp.Mk}, m ∈ ix ps b every k → ∃ i, i < k ∧ m = ⟨b + i, (ps.getD i pz).2⟩
  | k + 1, m, h => by
    unfold ix Mp.add at h
    split at h
    · rw [List.mem_append] at h
      rcases h with h | h
      · obtain ⟨i, hi, e⟩ := ix_mem h
        exact ⟨i, by omega, e⟩
      · rw [List.mem_singleton] at h
        exact ⟨k, by omega, h⟩
    · obtain ⟨i, hi, e⟩ := ix_mem h
      exact ⟨i, by omega, e⟩
/-- They rise, one by one. -/
theorem right_snoc {l : List Mp.Mk} {m : Mp.Mk} (h : Mp.Right l) (h0 : 0 ≤ m.o) (h1 : 0 ≤ m.p) (h2 : ∀ x ∈ l, x.o < m.o ∧ x.p < m.p) : Mp.Right (l ++ [m]) := by
  intro k hk
  rw [List.length_append, List.length_singleton] at hk
  have e1 : ∀ j, j < l.length → (l ++ [m]).getD j Mp.zero = l.getD j Mp.zero := fun j hj => by simp [List.getD_eq_getElem?_getD, List.getElem?_append_left hj]
  have e2 : (l ++ [m]).getD l.length Mp.zero = m := by simp [List.getD_eq_getElem?_getD]
  by_cases hl : k < l.length
  · obtain ⟨a1, a2, a3⟩ := h k hl
    unfold Mp.AtOk
    rw [e1 k hl]
    exact ⟨a1, a2, fun hp => by rw [e1 (k - 1) (by omega)]; exact a3 hp⟩
  · obtain rfl : k = l.length := by omega
    unfold Mp.AtOk
    rw [e2]
    refine ⟨h0, h1, fun hp => ?_⟩
    rw [e1 (l.length - 1) (by omega), Mp.getD_mk (show l.length - 1 < l.length by omega)]
    exact h2 _ (List.getElem_mem _)
theorem Good.rise {l : List UInt8} {b : Int} {k0 k : Nat} {ps : List (Rec × Nat)} (h : Good l b k0 ps k) : ∀ (d i : Nat) (hi : i + d + 1 < ps.length), ps[i].2 < ps[i + d + 1].2
  | 0, i, hi => h.up i hi
  | d + 1, i, hi => Nat.lt_trans (h.rise d i (by omega)) (h.up (i + d + 1) hi)
theorem ix_right {l : List UInt8} {b every : Int} {k : Nat} {ps : List (Rec × Nat)} (h : Good l b 0 ps k) (hb : 0 ≤ b) : ∀ n, n ≤ ps.length → Mp.Right (ix ps b every n)
  | 0, _ => fun k hk => absurd hk (Nat.not_lt_zero k)
  | n + 1, hn => by
    have ih := ix_right h hb (every := every) n (by omega)
    unfold ix Mp.add
    split
    · refine right_snoc ih (by show 0 ≤ b + (n : Int); omega) (by show 0 ≤ (((ps.getD n (zero, 0)).2 : Nat) : Int); omega) fun x hx => ?_
      obtain ⟨i, hi, rfl⟩ := ix_mem hx
      refine ⟨by show b + (i : Int) < b + (n : Int); omega, ?_⟩
      show (((ps.getD i pz).2 : Nat) : Int) < (((ps.getD n pz).2 : Nat) : Int)
      rw [getD_ps (show i < ps.length by omega), getD_ps (show n < ps.length by omega)]
      obtain ⟨d, rfl⟩ : ∃ d, n = i + d + 1 := ⟨n - i - 1, by omega⟩
      have := h.rise d i (by omega)
      omega
    · exact ih
/-- The first record is always marked. -/
theorem ix_head (ps : List (Rec × Nat)) (b every : Int) : ∀ n, 0 < n → ∃ m t, ix ps b every n = m :: t ∧ m.o = b
  | 1, _ => ⟨⟨b + (0 : Nat), (ps.getD 0 pz).2⟩, [], by
      show Mp.add [] b every ⟨b + (0 : Nat), (ps.getD 0 pz).2⟩ = _
      unfold Mp.add
      rw [if_pos (by show (b + ((0 : Nat) : Int) - b) % every = 0; rw [show b + ((0 : Nat) : Int) - b = 0 from by omega]; exact Int.zero_emod _)]
      rfl, by show b + ((0 : Nat) : Int) = b; omega⟩
  | n + 2, _ => by
    obtain ⟨m, t, e, h⟩ := ix_head ps b every (n + 1) (by omega)
    show ∃ m t, Mp.add (ix ps b every (n + 1)) b every _ = m :: t ∧ m.o = b
    unfold Mp.add
    split
    · exact ⟨m, t ++ [_], by rw [e]; rfl, h⟩
    · exact ⟨m, t, e, h⟩

/-- A walk from the i-th of them on comes to the rest. -/
theorem pls_from (L : List UInt8) : ∀ (i : Nat) (b : Int) (k0 : Nat) (ps : List (Rec × Nat)) (k : Nat) (e : Int), pls (L.drop k0) b k0 = (ps, k, e) → ∀ h : i < ps.length, pls (L.drop ps[i].2) (b + i) ps[i].2 = (ps.drop i, k, e)
  | i, b, k0, ps, k, e, hp, h => by
    have hne : L.drop k0 ≠ [] := fun h0 => by rw [h0, pls_nil] at hp; injection hp with h1; subst h1; simp at h
    rcases nxt_cases (L.drop k0) with ⟨er, he, h3⟩ | ⟨r, j, he, hok, h5, h6, _⟩
    · rw [pls_stop hne he (by omega)] at hp; injection hp with h1; subst h1; simp at h
    · by_cases ha : r.a = b
      · have hp0 := hp
        rw [pls_go he (by omega) h6 ha, List.drop_drop] at hp
        rcases hq : pls (L.drop (k0 + j)) (b + 1) (k0 + j) with ⟨ps', k', e'⟩
        rw [hq] at hp
        injection hp with h1 h2
        injection h2 with h2 h4
        subst h1 h2 h4
        cases i with
        | zero =>
          show pls (L.drop k0) (b + ((0 : Nat) : Int)) k0 = ((r, k0) :: ps', k', e')
          rw [show b + ((0 : Nat) : Int) = b from by omega]
          exact hp0
        | succ i =>
          have := pls_from L i (b + 1) (k0 + j) ps' k' e' hq (by simpa using h)
          rw [show b + 1 + (i : Int) = b + ((i + 1 : Nat) : Int) from by omega] at this
          exact this
      · rw [pls_form he hne ha] at hp; injection hp with h1; subst h1; simp at h

/-- What is told of an offset. -/
theorem rd_out {ps : List (Rec × Nat)} {b off : Int} (h : off < b ∨ b + ps.length ≤ off) : rd ps b off = (zero, 6) := by unfold rd; rw [if_neg (by omega)]
theorem rd_in (ps : List (Rec × Nat)) (b : Int) {i : Nat} (h : i < ps.length) : rd ps b (b + i) = (ps[i].1, 0) := by
  unfold rd
  rw [if_pos ⟨by omega, by omega⟩, show (b + (i : Int) - b).toNat = i from by omega]
  show ((ps.getD i pz).1, (0 : Int)) = _
  rw [getD_ps h]

/-- Records of offsets from b on, their places. -/
def withAt : List Rec → Nat → List (Rec × Nat)
  | [], _ => []
  | r :: l, k => (r, k) :: withAt l (k + (Fr.fr (body r)).length)
theorem withAt_fst : ∀ (l : List Rec) (k : Nat), (withAt l k).map Prod.fst = l
  | [], _ => rfl
  | r :: l, k => by rw [withAt, List.map_cons, withAt_fst l]
theorem withAt_len (l : List Rec) (k : Nat) : (withAt l k).length = l.length := by
  have := congrArg List.length (withAt_fst l k)
  rwa [List.length_map] at this
/-- They rise by one. -/
def Rise (b : Int) : List Rec → Prop
  | [] => True
  | r :: l => r.a = b ∧ Rise (b + 1) l
/-- Whole records, and behind them what is no record. -/
theorem pls_rows : ∀ (l : List Rec) (b : Int) (k : Nat) (rest : List UInt8) (e : Int), (∀ r ∈ l, Ok r) → Rise b l → (rest = [] ∧ e = 0 ∨ rest ≠ [] ∧ nxt rest = (zero, 0, e) ∧ e ≠ 0) →
    pls (rowB l ++ rest) b k = (withAt l k, k + (rowB l).length, e)
  | [], b, k, rest, e, _, _, h => by
    rw [rowB_nil, List.nil_append]
    rcases h with ⟨rfl, rfl⟩ | ⟨h1, h2, h3⟩
    · rw [pls_nil]; rfl
    · rw [pls_stop h1 h2 h3]; rfl
  | r :: l, b, k, rest, e, hok, hr, h => by
    have h1 := hok r List.mem_cons_self
    have h2 := nxt_fr h1 (rowB l ++ rest)
    rw [rowB_cons, List.append_assoc, pls_go h2 (by have := fr_le h1; omega) (by rw [List.length_append]; omega) hr.1, List.drop_left' rfl, pls_rows l (b + 1) _ rest e (fun x hx => hok x (List.mem_cons_of_mem _ hx)) hr.2 h]
    rw [withAt, List.length_append]
    congr 1
    rw [Nat.add_assoc]
theorem nxt_cut {r : Rec} (h : Ok r) {n : Nat} (hn : n < (Fr.fr (body r)).length) : nxt ((Fr.fr (body r)).take n) = (zero, 0, 2) :=
  nxt_no (Fr.nx_fr_cut _ _ (body_may h) hn) (by decide)

end Go.Proofs.Ytfodcgipdhppmaa.Gp
