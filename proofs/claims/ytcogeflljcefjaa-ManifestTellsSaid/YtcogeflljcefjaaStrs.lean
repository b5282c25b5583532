/-
  A slice of strings in memory, as a list.
-/
import Derived.Test.YtcogeflljcefjaaBase
import Derived.WalkKit
import Derived.WalkSpells
import Derived.Lib.Hide
namespace Go.Proofs.Ytcogeflljcefjaa
open Go.RowKit Go.Lib

/-- The value v is a slice whose elements are these strings. -/
def IsStrs (w : World) (v : Value) (ss : List ByteArray) : Prop :=
  ∃ a cap, v = .slice a ss.length cap ∧ ss.length ≤ maxLen ∧ (∀ s ∈ ss, s.size ≤ maxLen) ∧
    (ss = [] ∨ ∃ b off, a = some ⟨b, off, none⟩ ∧ ∀ i, i < ss.length → w.cell? ⟨b, off + i, none⟩ = some (.string (ss.getD i ByteArray.empty)))

theorem IsStrs.below {B : Nat} {w w' : World} {v : Value} {ss : List ByteArray} (h : IsStrs w v ss) (hb : Below B w w') (hB : w.heap.size ≤ B) : IsStrs w' v ss := by
  obtain ⟨a, cap, rfl, h1, h2, h3⟩ := h
  refine ⟨a, cap, rfl, h1, h2, ?_⟩
  rcases h3 with h3 | ⟨b, off, rfl, h4⟩
  · exact .inl h3
  · refine .inr ⟨b, off, rfl, fun i hi => ?_⟩
    have h5 := h4 i hi
    rw [hb.cell (p := ⟨b, off + i, none⟩) (Nat.lt_of_lt_of_le (block_lt_of_cell h5) hB)]
    exact h5

/-- All bytes, one behind the other. -/
def cat (ss : List ByteArray) : List UInt8 := (ss.map (·.data.toList)).flatten
theorem cat_snoc {ss : List ByteArray} {k : Nat} (h : k < ss.length) : cat (ss.take (k + 1)) = cat (ss.take k) ++ (ss.getD k ByteArray.empty).data.toList := by
  unfold cat
  have e : ss.getD k ByteArray.empty = ss[k] := by simp [List.getD_eq_getElem?_getD, h]
  rw [List.take_succ_eq_append_getElem h, List.map_append, List.flatten_append, e]
  simp
theorem getD_mem {ss : List ByteArray} {k : Nat} (h : k < ss.length) : ss.getD k ByteArray.empty ∈ ss := by
  rw [List.getD_eq_getElem?_getD, List.getElem?_eq_getElem h]
  exact List.getElem_mem _

/-- A slice of strings that came in. -/
theorem IsStrs.of_cells {w : World} {x : Addr} {len cap : Nat} {ss : List ByteArray} (hl : len ≤ cap) (hm : cap ≤ maxLen) (hz : ss.length = cap)
    (hcell : ∀ i, i < ss.length → w.cell? (x.add i) = some (.string (ss.getD i ByteArray.empty))) (hs : ∀ s ∈ ss, s.size ≤ maxLen) : IsStrs w (.slice (some x) len cap) (ss.take len) := by
  have e : (ss.take len).length = len := by rw [List.length_take]; omega
  refine ⟨some x, cap, by rw [e], by omega, fun s h => hs s (List.mem_of_mem_take h), ?_⟩
  rcases Nat.eq_zero_or_pos len with h0 | h0
  · left; subst h0; simp
  · right
    obtain ⟨b, off, spot⟩ := x
    have hc := hcell 0 (by omega)
    have hspot : spot = none := by simpa [Addr.add] using World.cell?_spot hc
    subst hspot
    refine ⟨b, off, rfl, fun i hi => ?_⟩
    rw [e] at hi
    have e2 : (ss.take len).getD i ByteArray.empty = ss.getD i ByteArray.empty := by
      rw [List.getD_eq_getElem?_getD, List.getD_eq_getElem?_getD, List.getElem?_take_of_lt hi]
    rw [e2]
    have := hcell i (by omega)
    unfold Addr.add at this
    by_cases h1 : i = 0
    · subst h1; exact this
    · rw [if_neg h1] at this; exact this

theorem IsStrs.nil (w : World) (a : Option Addr) (cap : Nat) : IsStrs w (.slice a 0 cap) [] := ⟨a, cap, rfl, by simp [maxLen], by simp, .inl rfl⟩

theorem IsStrs.cut {w : World} {a : Option Addr} {len cap k : Nat} {ss : List ByteArray} (h : IsStrs w (.slice a len cap) ss) (hk : k ≤ len) : IsStrs w (.slice a k cap) (ss.take k) := by
  obtain ⟨a', cap', he, h1, h2, h3⟩ := h
  injection he with ha hl hc
  subst ha; subst hl; subst hc
  have e : (ss.take k).length = k := by rw [List.length_take]; omega
  refine ⟨a, cap, by rw [e], by rw [e]; omega, fun s hs => h2 s (List.mem_of_mem_take hs), ?_⟩
  rcases h3 with rfl | ⟨b, off, rfl, h4⟩
  · exact .inl (by simp)
  · refine .inr ⟨b, off, rfl, fun i hi => ?_⟩
    rw [e] at hi
    rw [h4 i (by omega), List.getD_eq_getElem?_getD, List.getD_eq_getElem?_getD, List.getElem?_take_of_lt hi]

end Go.Proofs.Ytcogeflljcefjaa
