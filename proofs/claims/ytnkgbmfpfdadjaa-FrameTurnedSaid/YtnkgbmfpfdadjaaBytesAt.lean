/-
  Bytes that a call made for itself, out of a string and back.
-/
import Derived.Test.YtnkgbmfpfdadjaaProg
import Derived.WalkKit
import Derived.WalkSpells
import Derived.Lib.Hide
import Derived.Laws.IdiomStrings
import Derived.Laws.NewBlocks
import Derived.Laws.Rows
namespace Go.Proofs.Ytnkgbmfpfdadjaa
open Go.RowKit Go.Lib

/-- Block B holds these bytes, from its beginning on, and they may be written. -/
def BytesAt (w : World) (B : Nat) (l : List UInt8) : Prop :=
  ∀ j (h : j < l.length), w.cell? ⟨B, j, none⟩ = some (.int .u8 (l[j].toNat : Int)) ∧ w.frozen? ⟨B, j, none⟩ = false

theorem BytesAt.set {w : World} {B : Nat} {l : List UInt8} (h : BytesAt w B l) {j : Nat} (hj : j < l.length) (c : UInt8) :
    BytesAt (w.setCell ⟨B, j, none⟩ (.int .u8 (c.toNat : Int))) B (l.set j c) := by
  intro i hi
  have hi' : i < l.length := by simpa using hi
  refine ⟨?_, by rw [World.frozen?_setCell]; exact (h i hi').2⟩
  by_cases e : j = i
  · subst e
    rw [World.cell?_setCell_same _ _ _ (h j hj).1]
    simp
  · rw [World.cell?_setCell_other _ _ _ _ (by intro hh; exact e (by injection hh)), (h i hi').1, List.getElem_set_ne e]

theorem BytesAt.below {B C : Nat} {w w' : World} {l : List UInt8} (h : BytesAt w B l) (hb : Below C w w') (hB : B < C) : BytesAt w' B l := by
  intro j hj
  exact ⟨by rw [hb.cell (p := ⟨B, j, none⟩) hB]; exact (h j hj).1, by rw [hb.frozen (p := ⟨B, j, none⟩) hB]; exact (h j hj).2⟩

theorem BytesAt.conv {w : World} {B : Nat} {l : List UInt8} (h : BytesAt w B l) (cap : Nat) :
    (convert 41 9 (.slice (some ⟨B, 0, none⟩) l.length cap)).run Try.prog w = .ok (.string ⟨l.toArray⟩) w := by
  refine run_convert_bytes_back w 41 9 5 ⟨B, 0, none⟩ cap l Try.underlying41 Try.underlying5 Try.underlying9 (fun j hj => ?_)
  have e : (⟨B, 0, none⟩ : Addr).add j = ⟨B, j, none⟩ := by unfold Addr.add; split <;> simp_all
  rw [e]
  exact (h j hj).1

/-- '[]byte(s)'. -/
theorem bytes_of (w : World) (s : ByteArray) : ∃ cap W, (convert 9 41 (.string s)).run Try.prog w = .ok (.slice (some ⟨w.heap.size, 0, none⟩) s.size cap) W ∧
    BytesAt W w.heap.size s.data.toList ∧ Below w.heap.size w W ∧ w.heap.size < W.heap.size := by
  refine ⟨_, _, run_bytes_of_string w 9 41 5 s Try.underlying9 Try.underlying41 Try.underlying5, ?_, ?_, ?_⟩
  · intro j hj
    have hj' : j < s.data.size := by simpa using hj
    refine ⟨?_, ?_⟩
    · exact (World.cell?_alloc_mark w.drew _ _ _ j).trans (by rw [bytesRow_at s _ j hj']; simp)
    · refine (World.frozen?_alloc_mark w.drew _ _ _ _ j).trans ?_
      have : j < (bytesRow s (grownCap w s.size 0 5)).size := by unfold bytesRow; rw [Array.size_append, Array.size_map]; omega
      rw [decide_eq_false (by omega)]; rfl
  · exact (Below.drew (Below.refl _ _)).alloc (Nat.le_refl _) _
  · simp

end Go.Proofs.Ytnkgbmfpfdadjaa
