/-
  Alarms of unlike Ids, armed at once, in plain words: each rings at its tick, in the order of their Ids. No function of the program.
-/
import Derived.Test.YtpbpkeifehobjaaTimPlain
namespace Go.Proofs.Ytpbpkeifehobjaa.Tp

def due (z : Nat → Int) (j : Nat) : Int := max (z j % 16) 1
theorem due_pos (z : Nat → Int) (j : Nat) : 1 ≤ due z j ∧ due z j ≤ 15 := by unfold due; omega

/-- Of the first n, those from lo on are armed, and what was due by now has rung. -/
structure Od (z : Nat → Int) (n lo : Nat) (now : Int) (L : List Al) : Prop where
  r : Right L
  m : ∀ x, x ∈ L ↔ ∃ j : Nat, lo ≤ j ∧ j < n ∧ x = ⟨(j : Int), due z j⟩ ∧ now < due z j
theorem Od.start (z : Nat → Int) (n : Nat) : Od z n n 0 [] := ⟨Right.nil, fun x => ⟨fun h => (by cases h), fun ⟨j, h1, h2, _⟩ => (by omega)⟩⟩
theorem Od.arm {z : Nat → Int} {n i : Nat} {L : List Al} (h : Od z n (i + 1) 0 L) (hi : i < n) : Od z n i 0 (arm 0 L i (z i % 16)) ∧ (arm 0 L i (z i % 16)).length = L.length + 1 := by
  have hc : cancel L i = L := by
    unfold cancel
    rw [List.filter_eq_self]
    intro b hb
    obtain ⟨j, h1, _, rfl, _⟩ := (h.m b).1 hb
    simp
    omega
  have he : armA 0 i (z i % 16) = ⟨(i : Int), due z i⟩ := by unfold armA due; simp
  refine ⟨⟨h.r.arm _ _ _, fun x => ?_⟩, by unfold Tp.arm; rw [ins_len, hc]⟩
  unfold Tp.arm
  rw [mem_ins, hc, he, h.m]
  constructor
  · rintro (rfl | ⟨j, h1, h2, h3, h4⟩)
    · exact ⟨i, Nat.le_refl _, hi, rfl, by have := (due_pos z i).1; omega⟩
    · exact ⟨j, by omega, h2, h3, h4⟩
  · rintro ⟨j, h1, h2, h3, h4⟩
    by_cases e : j = i
    · subst e; exact .inl h3
    · exact .inr ⟨j, by omega, h2, h3, h4⟩
theorem Od.tick {z : Nat → Int} {n : Nat} {now : Int} {L : List Al} (h : Od z n 0 now L) : Od z n 0 (now + 1) (rest L (now + 1)) := by
  refine ⟨h.r.rest _, fun x => ?_⟩
  unfold rest
  rw [List.mem_filter, h.m]
  constructor
  · rintro ⟨⟨j, h1, h2, rfl, h4⟩, h5⟩
    simp at h5
    exact ⟨j, h1, h2, rfl, h5⟩
  · rintro ⟨j, h1, h2, rfl, h4⟩
    exact ⟨⟨j, h1, h2, rfl, by omega⟩, by simp; exact h4⟩
theorem ring_at {L : List Al} {t : Int} {j : Nat} (hj : j < (rings L t).length) : ∃ x, (L.filter fun b => decide (b.t ≤ t))[j]? = some x ∧ (rings L t).getD j 0 = x.i ∧ x ∈ L ∧ x.t ≤ t := by
  unfold rings at hj ⊢
  rw [List.length_map] at hj
  refine ⟨_, List.getElem?_eq_getElem hj, ?_, ?_⟩
  · rw [List.getD_eq_getElem?_getD, List.getElem?_map, List.getElem?_eq_getElem hj]; rfl
  · have := List.mem_filter.1 (List.getElem_mem hj)
    exact ⟨this.1, by simpa using this.2⟩
/-- What rings is due. -/
theorem Od.ring {z : Nat → Int} {n : Nat} {now : Int} {L : List Al} (h : Od z n 0 now L) {j : Nat} (hj : j < (rings L (now + 1)).length) : ∃ a : Nat, a < n ∧ (rings L (now + 1)).getD j 0 = a ∧ due z a = now + 1 := by
  obtain ⟨x, _, h2, h3, h4⟩ := ring_at hj
  obtain ⟨a, _, h6, rfl, h8⟩ := (h.m x).1 h3
  exact ⟨a, h6, h2, by simp only at h4; omega⟩
/-- In the order of their Ids. -/
theorem Od.rise {z : Nat → Int} {n : Nat} {now : Int} {L : List Al} (h : Od z n 0 now L) {j : Nat} (hj : j + 1 < (rings L (now + 1)).length) : (rings L (now + 1)).getD j 0 < (rings L (now + 1)).getD (j + 1) 0 := by
  obtain ⟨x, e1, e2, e3, e4⟩ := ring_at (Nat.lt_of_succ_lt hj)
  obtain ⟨y, f1, f2, f3, f4⟩ := ring_at hj
  rw [e2, f2]
  have hp := List.pairwise_iff_getElem.1 (h.r.s.filter fun b => decide (b.t ≤ now + 1))
  obtain ⟨hx, ex⟩ := List.getElem?_eq_some_iff.1 e1
  obtain ⟨hy, ey⟩ := List.getElem?_eq_some_iff.1 f1
  have := hp j (j + 1) hx hy (Nat.lt_succ_self j)
  rw [ex, ey] at this
  obtain ⟨a, _, _, rfl, a4⟩ := (h.m x).1 e3
  obtain ⟨b, _, _, rfl, b4⟩ := (h.m y).1 f3
  unfold Lt at this
  simp only at this e4 f4 ⊢
  omega
theorem part_len (L : List Al) (t : Int) : (rings L t).length + (rest L t).length = L.length := by
  unfold rings rest
  rw [List.length_map]
  induction L with
  | nil => rfl
  | cons a L ih =>
    by_cases h : a.t ≤ t
    · rw [List.filter_cons_of_pos (by simpa using h), List.filter_cons_of_neg (by simpa using h)]
      simp only [List.length_cons]
      omega
    · rw [List.filter_cons_of_neg (by simpa using h), List.filter_cons_of_pos (by simpa using h)]
      simp only [List.length_cons]
      omega
theorem Od.last {z : Nat → Int} {n : Nat} {L : List Al} (h : Od z n 0 16 L) : L = [] := by
  cases L with
  | nil => rfl
  | cons a L =>
    obtain ⟨j, _, _, _, h4⟩ := (h.m a).1 List.mem_cons_self
    have := due_pos z j
    omega

end Go.Proofs.Ytpbpkeifehobjaa.Tp
