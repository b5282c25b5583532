/-
  A slice of strings that a call made.
-/
import Derived.Test.YtjcokcnlbofbkaaCrcFour
namespace Go.Proofs.Ytjcokcnlbofbkaa
open Go.RowKit Go.Lib

theorem bel_trans2 {w w1 w2 : World} (h : Below w.heap.size w w1) (k : Below w1.heap.size w1 w2) : Below w.heap.size w w2 := h.trans (k.mono h.size)

theorem bel_of_alloc {w w' : World} {o : Obj} (h : Below (w.alloc o).heap.size (w.alloc o) w') : Below w.heap.size w w' :=
  ((Below.refl _ _).alloc (Nat.le_refl _) _).trans (h.mono (by simp))

/-- A new slice of these strings. -/
theorem IsStrs.lits (w : World) (ss : List ByteArray) (hl : ss.length ≤ maxLen) (hs : ∀ s ∈ ss, s.size ≤ maxLen) :
    IsStrs (w.alloc (.cells (ss.map Value.string).toArray 9)) (.slice (some ⟨w.heap.size, 0, none⟩) ss.length ss.length) ss := by
  refine ⟨_, _, rfl, hl, hs, .inr ⟨_, _, rfl, fun i hi => ?_⟩⟩
  have h := cells_new w (ss.map Value.string) 9 i (.string (ss.getD i ByteArray.empty)) (by simp [List.getD_eq_getElem?_getD, hi])
  have e : (⟨w.heap.size, 0, none⟩ : Addr).add i = ⟨w.heap.size, 0 + i, none⟩ := by unfold Addr.add; split <;> simp_all
  rw [e] at h
  exact h

end Go.Proofs.Ytjcokcnlbofbkaa
