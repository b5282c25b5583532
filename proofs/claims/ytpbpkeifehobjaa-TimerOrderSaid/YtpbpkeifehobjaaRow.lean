/-
  Rows of a call's own that are written in place: copies and clearings of elements of more than one cell.
-/
import Derived.Test.YtpbpkeifehobjaaBase
import Derived.Laws.IdiomCopy
import Derived.Laws.CopyRow
namespace Go.Proofs.Ytpbpkeifehobjaa
open Go.RowKit

/-- A row with other cells in place of some. -/
def splice (cur : Array Value) (o : Nat) (vs : List Value) : Array Value := (cur.toList.take o ++ vs ++ cur.toList.drop (o + vs.length)).toArray
theorem splice_size {cur : Array Value} {o : Nat} {vs : List Value} (h : o + vs.length ≤ cur.size) : (splice cur o vs).size = cur.size := by
  unfold splice
  simp only [List.size_toArray, List.length_append, List.length_take, List.length_drop, Array.length_toList]
  omega
theorem splice_take {cur : Array Value} {o : Nat} {vs : List Value} (h : o ≤ cur.size) (n : Nat) (hn : n = o + vs.length) : (splice cur o vs).toList.take n = cur.toList.take o ++ vs := by
  subst hn
  unfold splice
  rw [List.take_left']
  simp only [List.length_append, List.length_take, Array.length_toList]
  omega
theorem splice_front {cur : Array Value} {o : Nat} {vs : List Value} (h : o ≤ cur.size) (n : Nat) (hn : n ≤ o) : (splice cur o vs).toList.take n = cur.toList.take n := by
  unfold splice
  show (cur.toList.take o ++ vs ++ cur.toList.drop (o + vs.length)).take n = _
  rw [List.append_assoc, List.take_append_of_le_length (by rw [List.length_take, Array.length_toList]; omega), List.take_take, Nat.min_eq_left hn]
theorem setCells_row (g : Nat) (t : TypeId) : ∀ (vs : List Value) (o : Nat) (cur : Array Value) (w : World), w.heap[g]? = some (.cells cur t (0, 0)) → o + vs.length ≤ cur.size → w.setCells g o vs = w.setRow g (splice cur o vs)
  | [], o, cur, w, hg, _ => by
    unfold splice
    simp only [World.setCells, List.append_nil, List.length_nil, Nat.add_zero, List.take_append_drop, Array.toArray_toList]
    rw [setRow_self w g cur t (0, 0) hg]
  | v :: rest, o, cur, w, hg, hl => by
    have hi : o < cur.size := by simp at hl; omega
    have ih := setCells_row g t rest (o + 1) (cur.setIfInBounds o v) (w.setRow g (cur.setIfInBounds o v)) (setRow_heap w g cur _ t _ hg) (by simp at hl ⊢; omega)
    rw [World.setCells, setCell_eq_setRow w g o cur t (0, 0) v hg, ih, setRow_setRow]
    congr 1
    unfold splice
    congr 1
    have e := list_seg_step cur.toList o v rest (by simp at hl ⊢; omega)
    simpa [Array.toList_setIfInBounds, Nat.add_assoc] using e
theorem setCells_heap {w : World} {g : Nat} {t : TypeId} {cur : Array Value} {o : Nat} {vs : List Value} (hg : w.heap[g]? = some (.cells cur t (0, 0))) (h : o + vs.length ≤ cur.size) : (w.setCells g o vs).heap[g]? = some (.cells (splice cur o vs) t (0, 0)) := by
  rw [setCells_row g t vs o cur w hg h]
  exact setRow_heap w g cur _ t _ hg
theorem bel_setCells {base g : Nat} (hb : base ≤ g) : ∀ (vs : List Value) (o : Nat) (w : World), Below base w (w.setCells g o vs)
  | [], _, _ => Below.refl _ _
  | v :: r, o, _ => ((Below.refl _ _).setCell (p := ⟨g, o, none⟩) hb v).trans (bel_setCells hb r (o + 1) _)
theorem row_cell {w : World} {g : Nat} {t : TypeId} {cur : Array Value} (hg : w.heap[g]? = some (.cells cur t (0, 0))) (j : Nat) : w.cell? ⟨g, j, none⟩ = cur.toList[j]? := by
  rw [cell_of_row w g j cur t (0, 0) hg, Array.getElem?_toList]
theorem row_some {w : World} {g : Nat} {t : TypeId} {cur : Array Value} (hg : w.heap[g]? = some (.cells cur t (0, 0))) (j : Nat) (h : j < cur.size) : (w.cell? ⟨g, j, none⟩).isSome = true ∧ w.frozen? ⟨g, j, none⟩ = false := by
  refine ⟨?_, frozen_of_row w g j cur t hg⟩
  rw [cell_of_row w g j cur t (0, 0) hg, Array.getElem?_eq_getElem h]
  rfl
/-- What stands from a place on within the first n cells. -/
theorem row_part {w : World} {g : Nat} {t : TypeId} {cur : Array Value} {n o : Nat} {xs : List Value} (hg : w.heap[g]? = some (.cells cur t (0, 0))) (ht : cur.toList.take n = xs) (j : Nat) (u : Value) (h : (xs.drop o)[j]? = some u) : w.cell? ⟨g, o + j, none⟩ = some u := by
  rw [row_cell hg]
  rw [List.getElem?_drop, ← ht, List.getElem?_take] at h
  split at h
  · exact h
  · cases h

/-- Copies of two runs of cells, one behind the other. -/
theorem splice_two {cur : Array Value} {a b : Nat} {vs D : List Value} (hab : a + vs.length = b) (hf : b + D.length ≤ cur.size) (n : Nat) (hn : n = b + D.length) : (splice (splice cur b D) a vs).toList.take n = cur.toList.take a ++ vs ++ D := by
  subst hn
  have e1 : (splice cur b D).toList.take a = cur.toList.take a := splice_front (by omega) a (by omega)
  have e2 : (splice cur b D).toList.drop (a + vs.length) = D ++ cur.toList.drop (b + D.length) := by
    rw [hab]
    unfold splice
    show (cur.toList.take b ++ D ++ cur.toList.drop (b + D.length)).drop b = _
    rw [List.append_assoc, List.drop_left' (by rw [List.length_take, Array.length_toList]; omega)]
  unfold splice at *
  show ((cur.toList.take b ++ D ++ cur.toList.drop (b + D.length)).toArray.toList.take a ++ vs ++ (cur.toList.take b ++ D ++ cur.toList.drop (b + D.length)).toArray.toList.drop (a + vs.length)).take (b + D.length) = _
  rw [e1, e2, ← List.append_assoc, List.take_left']
  simp only [List.length_append, List.length_take, Array.length_toList]
  omega
/-- .. the other way round. -/
theorem splice_two' {cur : Array Value} {a b : Nat} {vs D : List Value} (hab : a + vs.length = b) (hf : b + D.length ≤ cur.size) (n : Nat) (hn : n = b + D.length) : (splice (splice cur a vs) b D).toList.take n = cur.toList.take a ++ vs ++ D := by
  rw [splice_take (by rw [splice_size (by omega)]; omega) n hn, splice_take (by omega) b hab.symm]

theorem shape_row {w : World} {g : Nat} {cur : Array Value} {t : TypeId} (hg : w.heap[g]? = some (.cells cur t (0, 0))) : w.shape? g = some (t, cur.size) := by unfold World.shape?; rw [hg]
theorem bel_setRow {w : World} {base g : Nat} (hb : base ≤ g) (cs : Array Value) : Below base w (w.setRow g cs) :=
  ⟨rfl, rfl, rfl, by simp, fun k hk => setRow_other w g k cs (by omega)⟩

variable {P : Program}
/-- 'copy' of elements of some cells each: all is read before anything is written. -/
theorem run_copy_wide (w : World) (dT sT ty elem : TypeId) (size : Nat) (b o dLen dCap : Nat) (a : Addr) (sLen sCap : Nat) (cs : List Value)
    (hu : P.underlying dT = some (.slice elem)) (hs : (P.info? elem).map (·.size) = some size) (hn : cs.length = Nat.min sLen dLen * size)
    (hsrc : ∀ j v, cs[j]? = some v → w.cell? (a.add j) = some v) (hc : ∀ j, j < cs.length → (w.cell? ⟨b, o + j, none⟩).isSome = true ∧ w.frozen? ⟨b, o + j, none⟩ = false) (h1 : ∀ v ∈ cs, v.oneCell' = true) :
    (Builtin.copy_ #[dT, sT] ty #[.slice (some ⟨b, o, none⟩) dLen dCap, .slice (some a) sLen sCap]).run P w = .ok (goInt (Nat.min sLen dLen)) (w.setCells b o cs) := by
  have hl := run_firstCells_some (P := P) w size (Nat.min sLen dLen) a sLen sCap cs hn hsrc
  have hst := run_storeCells_cells (P := P) b o cs 0 w (by simpa using fun j hj => (hc j hj).1) (by simpa using fun j hj => (hc j hj).2) h1
  cases hq : P.info? elem with
  | none => simp [hq] at hs
  | some i =>
    have hi : i.size = size := by simpa [hq] using hs
    subst hi
    simp [Builtin.copy_, run_underlying hu, Builtin.lenOf, sizeOf, typeInfo, hq, hl, hst]
/-- 'clear' of one element of some cells. -/
theorem run_clear_one (w : World) (t e ty : TypeId) (z : Value) (zs : List Value) (ht : P.underlying t = some (.slice e)) (hv : ∀ w, (zeroValue e).run P w = .ok z w) (hz : (Builtin.zeroCells z.cells 1).toList = zs) (h1 : ∀ v ∈ zs, v.oneCell' = true) (b o c : Nat)
    (hc : ∀ j, j < zs.length → (w.cell? ⟨b, o + j, none⟩).isSome = true ∧ w.frozen? ⟨b, o + j, none⟩ = false) :
    (Builtin.clear_ #[t] ty #[.slice (some ⟨b, o, none⟩) 1 c]).run P w = .ok (.tuple #[]) (w.setCells b o zs) := by
  have hst := run_storeCells_cells (P := P) b o zs 0 w (by simpa using fun j hj => (hc j hj).1) (by simpa using fun j hj => (hc j hj).2) h1
  simp only [Nat.add_zero] at hst
  simp [Builtin.clear_, run_underlying ht, hv, hz, hst]

end Go.Proofs.Ytpbpkeifehobjaa
