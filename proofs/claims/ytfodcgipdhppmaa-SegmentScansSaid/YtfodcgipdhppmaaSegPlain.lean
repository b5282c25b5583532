/-
  Segments, in plain Lean: the records that stand one behind the other, of offsets from a base on, and where; their marks; the one of an offset.
-/
import Derived.Test.YtfodcgipdhppmaaRecPlain
import Derived.Test.YtfodcgipdhppmaaMarkPlain
namespace Go.Proofs.Ytfodcgipdhppmaa.Gp
open Rp

/-- The records from place k on, of offsets from b on, each with its place; where they end, and why. -/
def pl : Nat → List UInt8 → Int → Nat → List (Rec × Nat) × Nat × Int
  | 0, _, _, k => ([], k, 0)
  | n + 1, l, b, k =>
    if l = [] then ([], k, 0)
    else if (nxt l).2.2 = 0 then
      (if (nxt l).1.a = b then (((nxt l).1, k) :: (pl n (l.drop (nxt l).2.1) (b + 1) (k + (nxt l).2.1)).1, (pl n (l.drop (nxt l).2.1) (b + 1) (k + (nxt l).2.1)).2) else ([], k, 3))
    else ([], k, (nxt l).2.2)
theorem pl_fuel : ∀ (n : Nat) (l : List UInt8) (b : Int) (k : Nat), l.length ≤ n → pl n l b k = pl l.length l b k := by
  intro n
  induction n using Nat.strongRecOn with
  | ind n ih =>
    intro l b k hl
    by_cases hk : l.length = n
    · rw [hk]
    · obtain ⟨n, rfl⟩ : ∃ n', n = n' + 1 := ⟨n - 1, by omega⟩
      by_cases h0 : l = []
      · subst h0; simp [pl]
      · obtain ⟨m, hm⟩ : ∃ m, l.length = m + 1 := ⟨l.length - 1, by have := List.length_pos_iff.2 h0; omega⟩
        rw [hm, pl, pl, if_neg h0, if_neg h0]
        rcases nxt_cases l with ⟨e, h, h3⟩ | ⟨r, j, h, _, h5, h6, _⟩
        · rw [h]; dsimp only; rw [if_neg (by omega), if_neg (by omega)]
        · rw [h]; dsimp only; rw [if_pos rfl, if_pos rfl, ih n (by omega) (l.drop j) _ _ (by rw [List.length_drop]; omega), ih m (by omega) (l.drop j) _ _ (by rw [List.length_drop]; omega)]
def pls (l : List UInt8) (b : Int) (k : Nat) : List (Rec × Nat) × Nat × Int := pl l.length l b k
theorem pls_nil (b : Int) (k : Nat) : pls [] b k = ([], k, 0) := rfl
theorem pls_stop {l : List UInt8} {b : Int} {k : Nat} {e : Int} (hne : l ≠ []) (h : nxt l = (zero, 0, e)) (he : e ≠ 0) : pls l b k = ([], k, e) := by
  obtain ⟨m, hm⟩ : ∃ m, l.length = m + 1 := ⟨l.length - 1, by have := List.length_pos_iff.2 hne; omega⟩
  unfold pls
  rw [hm, pl, if_neg hne, h]
  dsimp only
  rw [if_neg he]
theorem pls_form {l : List UInt8} {b : Int} {k j : Nat} {r : Rec} (h : nxt l = (r, j, 0)) (hl : l ≠ []) (ha : r.a ≠ b) : pls l b k = ([], k, 3) := by
  obtain ⟨m, hm⟩ : ∃ m, l.length = m + 1 := ⟨l.length - 1, by have := List.length_pos_iff.2 hl; omega⟩
  unfold pls
  rw [hm, pl, if_neg hl, h]
  dsimp only
  rw [if_pos rfl, if_neg ha]
theorem pls_go {l : List UInt8} {b : Int} {k j : Nat} {r : Rec} (h : nxt l = (r, j, 0)) (hj : 0 < j) (hl : j ≤ l.length) (ha : r.a = b) :
    pls l b k = ((r, k) :: (pls (l.drop j) (b + 1) (k + j)).1, (pls (l.drop j) (b + 1) (k + j)).2) := by
  obtain ⟨m, hm⟩ : ∃ m, l.length = m + 1 := ⟨l.length - 1, by omega⟩
  have hne : l ≠ [] := by rw [← List.length_pos_iff]; omega
  unfold pls
  rw [hm, pl, if_neg hne, h]
  dsimp only
  rw [if_pos rfl, if_pos ha, pl_fuel m (l.drop j) _ _ (by rw [List.length_drop]; omega)]

/-- What a walk knows that began at place k0 with offset b, and has come to k with ps. -/
def PRel (l : List UInt8) (b : Int) (k0 : Nat) (ps : List (Rec × Nat)) (k : Nat) : Prop :=
  pls (l.drop k0) b k0 = (ps ++ (pls (l.drop k) (b + ps.length) k).1, (pls (l.drop k) (b + ps.length) k).2)
theorem PRel.start (l : List UInt8) (b : Int) (k : Nat) : PRel l b k [] k := by unfold PRel; simp
theorem PRel.step {l : List UInt8} {b : Int} {k0 k j : Nat} {ps : List (Rec × Nat)} {r : Rec} (h : PRel l b k0 ps k) (hn : nxt (l.drop k) = (r, j, 0)) (hj : 0 < j) (hl : j ≤ (l.drop k).length) (ha : r.a = b + ps.length) :
    PRel l b k0 (ps ++ [(r, k)]) (k + j) := by
  unfold PRel at *
  rw [h, pls_go hn hj hl ha, List.drop_drop]
  have e : b + (ps.length : Int) + 1 = b + ((ps ++ [(r, k)]).length : Int) := by rw [List.length_append, List.length_singleton]; omega
  rw [e]
  simp
theorem PRel.stop {l : List UInt8} {b : Int} {k0 k : Nat} {ps : List (Rec × Nat)} {e : Int} (h : PRel l b k0 ps k) (hk : k < l.length) (hn : nxt (l.drop k) = (zero, 0, e)) (he : e ≠ 0) : pls (l.drop k0) b k0 = (ps, k, e) := by
  unfold PRel at h
  rw [h, pls_stop (by rw [← List.length_pos_iff, List.length_drop]; omega) hn he]
  simp
theorem PRel.form {l : List UInt8} {b : Int} {k0 k j : Nat} {ps : List (Rec × Nat)} {r : Rec} (h : PRel l b k0 ps k) (hk : k < l.length) (hn : nxt (l.drop k) = (r, j, 0)) (ha : r.a ≠ b + ps.length) : pls (l.drop k0) b k0 = (ps, k, 3) := by
  unfold PRel at h
  rw [h, pls_form hn (by rw [← List.length_pos_iff, List.length_drop]; omega) ha]
  simp
theorem PRel.done {l : List UInt8} {b : Int} {k0 k : Nat} {ps : List (Rec × Nat)} (h : PRel l b k0 ps k) (hk : l.length ≤ k) : pls (l.drop k0) b k0 = (ps, k, 0) := by
  unfold PRel at h
  rw [h, List.drop_eq_nil_of_le hk, pls_nil]
  simp

/-- Of any base. -/
def full (l : List UInt8) (b : Int) : List (Rec × Nat) × Nat × Int := if inB b = true then pls l b 0 else ([], 0, 1)
theorem full_in {l : List UInt8} {b : Int} (h : inB b = true) : full l b = pls (l.drop 0) b 0 := by unfold full; rw [if_pos h]; rfl
theorem full_out {l : List UInt8} {b : Int} (h : inB b = false) : full l b = ([], 0, 1) := by unfold full; rw [if_neg (by simp [h])]

/-- What is known of them. -/
structure Good (l : List UInt8) (b : Int) (k0 : Nat) (ps : List (Rec × Nat)) (k : Nat) : Prop where
  ok : ∀ p ∈ ps, Ok p.1
  at_ : ∀ i (h : i < ps.length), ps[i].1.a = b + i
  lo : ∀ i (h : i < ps.length), k0 + 7 * i ≤ ps[i].2 ∧ ps[i].2 + 7 ≤ k
  up : ∀ i (h : i + 1 < ps.length), ps[i].2 < ps[i + 1].2
  le : k ≤ l.length ∨ k = k0
  few : k0 + 7 * ps.length ≤ k
theorem Good.start (l : List UInt8) (b : Int) (k : Nat) : Good l b k [] k :=
  ⟨by simp, by simp, by simp, by simp, .inr rfl, by simp⟩
theorem Good.step {l : List UInt8} {b : Int} {k0 k j : Nat} {ps : List (Rec × Nat)} {r : Rec} (h : Good l b k0 ps k) (hok : Ok r) (ha : r.a = b + ps.length) (hj : 7 ≤ j) (hl : j ≤ (l.drop k).length) :
    Good l b k0 (ps ++ [(r, k)]) (k + j) := by
  rw [List.length_drop] at hl
  obtain ⟨h1, h2, h3, h4, h5, h6⟩ := h
  refine ⟨fun p hp => ?_, fun i hi => ?_, fun i hi => ?_, fun i hi => ?_, .inl (by omega), ?_⟩
  · rw [List.mem_append] at hp
    rcases hp with hp | hp
    · exact h1 p hp
    · rw [List.mem_singleton] at hp; subst hp; exact hok
  · rw [List.length_append, List.length_singleton] at hi
    rw [List.getElem_append]
    split
    · exact h2 i _
    · rw [List.getElem_singleton]
      have : i = ps.length := by omega
      rw [this]; exact ha
  · rw [List.length_append, List.length_singleton] at hi
    rw [List.getElem_append]
    split
    · have := h3 i (by assumption); omega
    · rw [List.getElem_singleton]
      exact ⟨by show _ ≤ k; omega, by show k + 7 ≤ _; omega⟩
  · rw [List.length_append, List.length_singleton] at hi
    rw [List.getElem_append_left (by omega)]
    rw [List.getElem_append]
    split
    · exact h4 i _
    · rw [List.getElem_singleton]
      have := (h3 i (by omega)).2
      show _ < k
      omega
  · rw [List.length_append, List.length_singleton]; omega

/-- Of bytes, whatever they are: what they come to is so. -/
theorem good_pls : ∀ (n : Nat) (l : List UInt8) (b : Int) (k0 k : Nat) (ps : List (Rec × Nat)), l.length - k ≤ n → PRel l b k0 ps k → Good l b k0 ps k →
    ∃ ps' k' e, pls (l.drop k0) b k0 = (ps', k', e) ∧ Good l b k0 ps' k' ∧ (e = 0 ∨ e = 2 ∨ e = 3 ∨ e = 4 ∨ e = 5 ∨ e = 6)
  | n, l, b, k0, k, ps, hn, h, hg => by
    by_cases hk : k < l.length
    · rcases nxt_cases (l.drop k) with ⟨e, he, h3⟩ | ⟨r, j, he, hok, h5, h6, _⟩
      · exact ⟨ps, k, e, h.stop hk he (by omega), hg, by omega⟩
      · by_cases ha : r.a = b + ps.length
        · cases n with
          | zero => omega
          | succ n =>
            have h6' := h6
            rw [List.length_drop] at h6'
            exact good_pls n l b k0 (k + j) (ps ++ [(r, k)]) (by omega) (h.step he (by omega) h6 ha) (hg.step hok ha h5 h6)
        · exact ⟨ps, k, 3, h.form hk he ha, hg, by omega⟩
    · exact ⟨ps, k, 0, h.done (by omega), hg, by omega⟩
theorem full_good (l : List UInt8) (b : Int) : ∃ ps k e, full l b = (ps, k, e) ∧ Good l b 0 ps k ∧ (ps ≠ [] → inB b = true) ∧ 0 ≤ e ∧ e ≤ 6 := by
  by_cases h : inB b = true
  · obtain ⟨ps, k, e, h1, h2, h3⟩ := good_pls l.length l b 0 0 [] (by omega) (PRel.start l b 0) (Good.start l b 0)
    exact ⟨ps, k, e, by rw [full_in h, h1], h2, fun _ => h, by omega, by omega⟩
  · exact ⟨[], 0, 1, full_out (by simpa using h), Good.start l b 0, fun h => absurd rfl h, by omega, by omega⟩

/-- The marks of the first k of them. -/
def ix (ps : List (Rec × Nat)) (b every : Int) : Nat → List Mp.Mk
  | 0 => []
  | k + 1 => Mp.add (ix ps b every k) b every ⟨b + k, (ps.getD k (zero, 0)).2⟩
/-- The one of an offset: its place among them. -/
def rd (ps : List (Rec × Nat)) (b off : Int) : Rec × Int :=
  if b ≤ off ∧ off < b + ps.length then ((ps.getD (off - b).toNat (zero, 0)).1, 0) else (zero, 6)

end Go.Proofs.Ytfodcgipdhppmaa.Gp
