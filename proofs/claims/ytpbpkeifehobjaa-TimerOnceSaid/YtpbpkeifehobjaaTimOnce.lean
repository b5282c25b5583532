/-
  One alarm among others, in plain words: it rings once. No function of the program.
-/
import Derived.Test.YtpbpkeifehobjaaTimPlain
namespace Go.Proofs.Ytpbpkeifehobjaa.Tp

/-- Alarm 0 was armed for time n; ticks are what has gone by. -/
structure On (n t : Int) (L : List Al) : Prop where
  r : Right L
  a : t < n → (⟨0, n⟩ : Al) ∈ L
  b : ∀ x ∈ L, x.i = 0 → x = ⟨0, n⟩ ∧ t < n
theorem On.start {n : Int} (hn : 1 ≤ n) : On n 0 (arm 0 [] 0 n) := by
  have e : arm 0 [] 0 n = [⟨0, n⟩] := by unfold arm armA cancel ins; simp; omega
  rw [e]
  exact ⟨⟨List.pairwise_singleton _ _, List.pairwise_singleton _ _⟩, fun _ => List.mem_singleton.2 rfl, fun x hx _ => ⟨List.mem_singleton.1 hx, by omega⟩⟩
theorem On.cancel {n t : Int} {L : List Al} (h : On n t L) {i : Int} (hi : i ≠ 0) : On n t (cancel L i) :=
  ⟨h.r.cancel i, fun ht => mem_cancel.2 ⟨h.a ht, fun e => hi e.symm⟩, fun x hx hx0 => h.b x (mem_cancel.1 hx).1 hx0⟩
theorem On.arm {n t : Int} {L : List Al} (h : On n t L) {i after : Int} (hi : i ≠ 0) : On n t (arm t L i after) := by
  have hc := h.cancel hi
  refine ⟨h.r.arm t i after, fun ht => mem_ins.2 (.inr (hc.a ht)), fun x hx hx0 => ?_⟩
  rcases mem_ins.1 hx with rfl | hx
  · exact absurd hx0 hi
  · exact hc.b x hx hx0
theorem On.armed {n t : Int} {L : List Al} (h : On n t L) : armed L 0 = decide (t < n) := by
  by_cases ht : t < n
  · rw [decide_eq_true ht]
    exact armed_iff.2 ⟨_, h.a ht, rfl⟩
  · rw [decide_eq_false ht, ← Bool.not_eq_true, armed_iff]
    rintro ⟨b, hb, e⟩
    exact ht (h.b b hb e).2
theorem On.tick {n t : Int} {L : List Al} (h : On n t L) : On n (t + 1) (rest L (t + 1)) := by
  refine ⟨h.r.rest _, fun ht => ?_, fun x hx hx0 => ?_⟩
  · unfold rest
    rw [List.mem_filter]
    exact ⟨h.a (by omega), by simp; omega⟩
  · unfold rest at hx
    rw [List.mem_filter] at hx
    obtain ⟨h1, h2⟩ := h.b x hx.1 hx0
    subst h1
    have := hx.2
    simp at this
    exact ⟨rfl, by omega⟩
/-- How often it rings in a tick. -/
theorem On.count {n t : Int} {L : List Al} (h : On n t L) : (rings L (t + 1)).count 0 = if t + 1 = n then 1 else 0 := by
  have key : ∀ (M : List Al), M.Pairwise (fun a b => a.i ≠ b.i) → (∀ x ∈ M, x.i = 0 → x = ⟨0, n⟩) → (M.map (·.i)).count 0 = if (⟨0, n⟩ : Al) ∈ M then 1 else 0 := by
    intro M
    induction M with
    | nil => intro _ _; simp
    | cons c M ih =>
      intro hp hx
      have hp' := List.pairwise_cons.1 hp
      have ih' := ih hp'.2 (fun x hx' => hx x (List.mem_cons_of_mem _ hx'))
      rw [List.map_cons, List.count_cons, ih']
      by_cases hc : c.i = 0
      · have e := hx c List.mem_cons_self hc
        subst e
        have hn : (⟨0, n⟩ : Al) ∉ M := fun hm => hp'.1 _ hm rfl
        rw [if_neg hn, if_pos List.mem_cons_self]
        simp
      · have hne : (⟨0, n⟩ : Al) ≠ c := fun e => hc (by rw [← e])
        have e2 : ((⟨0, n⟩ : Al) ∈ c :: M) ↔ ((⟨0, n⟩ : Al) ∈ M) := by rw [List.mem_cons]; exact ⟨fun q => q.resolve_left hne, .inr⟩
        by_cases hm : (⟨0, n⟩ : Al) ∈ M
        · rw [if_pos hm, if_pos (e2.2 hm)]; simp [hc]
        · rw [if_neg hm, if_neg (fun q => hm (e2.1 q))]; simp [hc]
  unfold rings
  rw [key _ (h.r.u.filter _) (fun x hx hx0 => (h.b x (List.mem_filter.1 hx).1 hx0).1)]
  by_cases ht : t + 1 = n
  · rw [if_pos ht, if_pos]
    rw [List.mem_filter]
    exact ⟨h.a (by omega), by simp; omega⟩
  · rw [if_neg ht, if_neg]
    intro hm
    rw [List.mem_filter] at hm
    have h1 := (h.b _ hm.1 rfl).2
    have h2 := hm.2
    simp at h2
    omega

end Go.Proofs.Ytpbpkeifehobjaa.Tp
