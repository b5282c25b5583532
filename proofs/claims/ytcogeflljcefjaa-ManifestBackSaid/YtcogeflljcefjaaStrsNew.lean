/-
  A slice of strings that a call made.
-/
import Derived.Test.YtcogeflljcefjaaCrcFour
import Derived.Test.YtcogeflljcefjaaBase
namespace Go.Proofs.Ytcogeflljcefjaa
open Go.RowKit Go.Lib

/-- A new slice of these strings. -/
theorem IsStrs.lits (w : World) (ss : List ByteArray) (hl : ss.length ≤ maxLen) (hs : ∀ s ∈ ss, s.size ≤ maxLen) :
    IsStrs (w.alloc (.cells (ss.map Value.string).toArray 9)) (.slice (some ⟨w.heap.size, 0, none⟩) ss.length ss.length) ss := by
  refine ⟨_, _, rfl, hl, hs, .inr ⟨_, _, rfl, fun i hi => ?_⟩⟩
  have h := cells_new w (ss.map Value.string) 9 i (.string (ss.getD i ByteArray.empty)) (by simp [List.getD_eq_getElem?_getD, hi])
  have e : (⟨w.heap.size, 0, none⟩ : Addr).add i = ⟨w.heap.size, 0 + i, none⟩ := by unfold Addr.add; split <;> simp_all
  rw [e] at h
  exact h

end Go.Proofs.Ytcogeflljcefjaa
