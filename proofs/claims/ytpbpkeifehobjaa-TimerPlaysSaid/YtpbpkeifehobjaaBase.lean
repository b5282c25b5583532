/-
  Small lemmas of worlds and of texts, which all texts use; no function of the program.
-/
import Derived.Test.YtpbpkeifehobjaaProg
import Derived.WalkKit
import Derived.WalkSpells
import Derived.Lib.Hide
import Derived.Laws.NewBlocks
import Derived.Laws.Rows
import Derived.Below
import Derived.Deep.QuietTactic
namespace Go.Proofs.Ytpbpkeifehobjaa
open Go.RowKit

theorem bel_drewN {w : World} (n : Nat) : Below w.heap.size w (w.drewN n) := by
  induction n generalizing w with
  | zero => exact Below.refl _ _
  | succ n ih => exact ih.drew

theorem bel_trans2 {w w1 w2 : World} (h : Below w.heap.size w w1) (k : Below w1.heap.size w1 w2) : Below w.heap.size w w2 := h.trans (k.mono h.size)

theorem bel_of_alloc {w w' : World} {o : Obj} (h : Below (w.alloc o).heap.size (w.alloc o) w') : Below w.heap.size w w' :=
  ((Below.refl _ _).alloc (Nat.le_refl _) _).trans (h.mono (by simp))

/-- A row of the call's own stays while all old blocks do. -/
theorem own_below {w w' : World} {base : Nat} {e : TypeId} {size : Nat} {v : Value} {n : Nat} {xs : List Value} (h : w.ownsRow base e size v n xs) (b : Below w.heap.size w w') : w'.ownsRow base e size v n xs := by
  refine h.kept (row := none) ⟨b.os, b.tape, b.output, b.size, fun k hk _ => b.block k hk⟩ ?_
  cases v.ownBlock with
  | none => exact .inl rfl
  | some k => exact .inr (by simp)

theorem ext_list (s : ByteArray) (a b : Nat) : (s.extract a b).data.toList = (s.data.toList.drop a).take (b - a) := by
  simp

theorem mk_ext (s : ByteArray) (k j m : Nat) : s.extract (k + j) (k + j + m) = ⟨(((s.data.toList.drop k).drop j).take m).toArray⟩ := by
  apply ByteArray.ext
  apply Array.ext'
  rw [ext_list]
  simp [List.drop_drop]

/-- 'len' of a text made of a list. -/
theorem size_mk_list (l : List UInt8) : (ByteArray.mk l.toArray).size = l.length := by simp [ByteArray.size]

theorem ext_drop (s : ByteArray) (q : Nat) : (⟨(s.data.toList.drop q).toArray⟩ : ByteArray) = s.extract q s.size := by
  apply ByteArray.ext
  apply Array.ext'
  rw [ext_list, List.take_of_length_le (by simp)]

/-- What was there reads as before, and so do its marks. -/
theorem bcell {W w1 : World} (hb : Below W.heap.size W w1) : (∀ b o, b < W.heap.size → w1.cell? ⟨b, o, none⟩ = W.cell? ⟨b, o, none⟩) ∧ (∀ b o, b < W.heap.size → w1.frozen? ⟨b, o, none⟩ = W.frozen? ⟨b, o, none⟩) :=
  ⟨fun b o h => hb.cell (p := ⟨b, o, none⟩) h, fun b o h => hb.frozen (p := ⟨b, o, none⟩) h⟩

theorem addr_plain (b off j : Nat) : (⟨b, off, none⟩ : Addr).add j = ⟨b, off + j, none⟩ := by
  unfold Addr.add
  split <;> simp_all

/-- What a world keeps of a boxed struct: its three cells. -/
theorem box_keep {w w1 w2 : World} {x y z : Value} (h : w1.cell? ⟨w.heap.size, 0, none⟩ = some x ∧ w1.cell? ⟨w.heap.size, 1, none⟩ = some y ∧ w1.cell? ⟨w.heap.size, 2, none⟩ = some z ∧ Below w.heap.size w w1)
    (b : Below w1.heap.size w1 w2) : w2.cell? ⟨w.heap.size, 0, none⟩ = some x ∧ w2.cell? ⟨w.heap.size, 1, none⟩ = some y ∧ w2.cell? ⟨w.heap.size, 2, none⟩ = some z ∧ Below w.heap.size w w2 := by
  obtain ⟨h0, h1, h2, hb⟩ := h
  have hl := block_lt_of_cell h0
  exact ⟨(b.cell (p := ⟨w.heap.size, 0, none⟩) hl).trans h0, (b.cell (p := ⟨w.heap.size, 1, none⟩) hl).trans h1, (b.cell (p := ⟨w.heap.size, 2, none⟩) hl).trans h2, hb.trans (b.mono hb.size)⟩
theorem box_new (w : World) (x y z : Value) (T : TypeId) : (w.alloc (.cells #[x, y, z] T)).cell? ⟨w.heap.size, 0, none⟩ = some x ∧ (w.alloc (.cells #[x, y, z] T)).cell? ⟨w.heap.size, 1, none⟩ = some y ∧ (w.alloc (.cells #[x, y, z] T)).cell? ⟨w.heap.size, 2, none⟩ = some z ∧ Below w.heap.size w (w.alloc (.cells #[x, y, z] T)) :=
  ⟨by unfold World.cell?; rw [heap_alloc_new]; rfl, by unfold World.cell?; rw [heap_alloc_new]; rfl, by unfold World.cell?; rw [heap_alloc_new]; rfl, (Below.refl _ _).alloc (Nat.le_refl _) _⟩

/-- A slice that is no longer than it may be. -/
def CapOk (v : Value) : Prop := ∀ a n c, v = .slice a n c → n ≤ c
theorem CapOk.mk {a : Option Addr} {n c : Nat} (h : n ≤ c) : CapOk (.slice a n c) := by
  intro a' n' c' he
  injection he with _ h1 h2
  subst h1; subst h2; exact h

end Go.Proofs.Ytpbpkeifehobjaa
