/-
  What the two All functions answer; nothing that was there is changed.
-/
import Derived.Test.YtfodcgipdhppmaaFrameRnext
namespace Go.Proofs.Ytfodcgipdhppmaa
open Go.RowKit

/-- Texts as strings. -/
def strs (bs : List (List UInt8)) : List ByteArray := bs.map fun b => ⟨b.toArray⟩
/-- Texts as cells. -/
def strVals (bs : List (List UInt8)) : List Value := bs.map fun b => .string ⟨b.toArray⟩
theorem strVals_len (bs : List (List UInt8)) : (strVals bs).length = bs.length := by simp [strVals]
theorem strs_len (bs : List (List UInt8)) : (strs bs).length = bs.length := by simp [strs]

theorem info_str : (Try.prog.info? 9).map (fun i => (i.zero, i.size, i.bytes)) = some (some (.string ByteArray.empty), 1, 16) := by kernel_rfl

theorem IsStrs.own {w : World} {base n : Nat} {v : Value} {bs : List (List UInt8)} (h : w.ownsRow base 9 1 v n (strVals bs)) (hm : n ≤ maxLen) (hb : ∀ b ∈ bs, b.length ≤ maxLen) : IsStrs w v (strs bs) := by
  have hn : n = bs.length := by have := h.1; rw [strVals_len] at this; omega
  subst hn
  have hs : ∀ s ∈ strs bs, s.size ≤ maxLen := by
    intro s hs
    unfold strs at hs
    rw [List.mem_map] at hs
    obtain ⟨b, hb1, rfl⟩ := hs
    rw [size_mk_list]
    exact hb b hb1
  rcases h.2 with ⟨rfl, h0⟩ | ⟨g, cap, cur, rfl, h1⟩
  · have : bs = [] := by simpa [strVals] using h0
    subst this
    exact IsStrs.nil w none 0
  · refine ⟨some ⟨g, 0, none⟩, cap, by rw [strs_len], by rw [strs_len]; exact hm, hs, .inr ⟨g, 0, rfl, fun i hi => ?_⟩⟩
    rw [strs_len] at hi
    have hc := h.cells (g := g) rfl i (.string ⟨bs[i].toArray⟩) (by simp [strVals, hi])
    have e : (⟨g, 0, none⟩ : Addr).add i = ⟨g, 0 + i, none⟩ := by unfold Addr.add; split <;> simp_all
    rw [e] at hc
    rw [hc]
    simp [strs, List.getD_eq_getElem?_getD, hi]

/-- What All answers: the bodies, how far they go, why there is no more. -/
def AllOut (w : World) (l : List UInt8) (e : Ending) (w' : World) : Prop :=
  ∃ v, e = .returned (.tuple #[v, .int .i64 ((Fr.all l).2.1 : Nat), .int .i64 ((Fr.all l).2.2 : Nat)]) ∧ IsStrs w' v (strs (Fr.all l).1) ∧ Below w.heap.size w w'
theorem AllOut.mk {w w' : World} {l : List UInt8} {bs : List (List UInt8)} {k er : Nat} {v : Value} (h : Fr.all l = (bs, k, er)) (hv : IsStrs w' v (strs bs)) (hb : Below w.heap.size w w') :
    AllOut w l (.returned (.tuple #[v, .int .i64 (k : Int), .int .i64 (er : Int)])) w' := by
  unfold AllOut
  rw [h]
  exact ⟨v, rfl, hv, hb⟩

theorem strVals_snoc (bs : List (List UInt8)) (b : List UInt8) : strVals (bs ++ [b]) = strVals bs ++ [.string ⟨b.toArray⟩] := by simp [strVals]
theorem own_str_snoc {w : World} {base : Nat} {v : Value} {bs : List (List UInt8)} {b : List UInt8} (h : w.ownsRow base 9 1 v (bs.length + 1) (strVals bs ++ [.string ⟨b.toArray⟩])) :
    w.ownsRow base 9 1 v (bs ++ [b]).length (strVals (bs ++ [b])) := by
  rw [strVals_snoc, List.length_append]
  exact h

theorem short_snoc {bs : List (List UInt8)} {b : List UInt8} {B : Nat} (h : ∀ x ∈ bs, x.length ≤ B) (hb : b.length ≤ B) : ∀ x ∈ bs ++ [b], x.length ≤ B := by
  intro x hx
  rcases List.mem_append.1 hx with h1 | h1
  · exact h x h1
  · rw [List.mem_singleton] at h1; subst h1; exact hb

end Go.Proofs.Ytfodcgipdhppmaa
