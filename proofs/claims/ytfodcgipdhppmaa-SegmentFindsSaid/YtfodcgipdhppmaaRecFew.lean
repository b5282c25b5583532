/-
  What the document's Few answers of records.
-/
import Derived.Test.YtfodcgipdhppmaaRecOpen
import Derived.Outline
namespace Go.Proofs.Ytfodcgipdhppmaa
open Go.RowKit

/-- Are they few, of few bytes? -/
def fewB (rs : List Rp.Rec) (most : Int) : Bool := decide ((rs.length : Int) ≤ most) && rs.all fun r => decide (r.d.size ≤ 300)
theorem fewB_long {rs : List Rp.Rec} {most : Int} (h : most < (rs.length : Int)) : fewB rs most = false := by
  unfold fewB
  rw [Bool.and_eq_false_iff]
  exact .inl (decide_eq_false (by omega))
theorem fewB_big {rs : List Rp.Rec} {most : Int} {r : Rp.Rec} (hr : r ∈ rs) (h : 300 < r.d.size) : fewB rs most = false := by
  unfold fewB
  rw [Bool.and_eq_false_iff, List.all_eq_false]
  exact .inr ⟨r, hr, by simpa using h⟩
theorem fewB_yes {rs : List Rp.Rec} {most : Int} (h : (rs.length : Int) ≤ most) (hs : ∀ r ∈ rs, r.d.size ≤ 300) : fewB rs most = true := by
  unfold fewB
  rw [Bool.and_eq_true, List.all_eq_true]
  exact ⟨decide_eq_true h, fun r hr => decide_eq_true (hs r hr)⟩
theorem fewB_le {rs : List Rp.Rec} {most : Int} (h : fewB rs most = true) : (rs.length : Int) ≤ most := by
  unfold fewB at h
  rw [Bool.and_eq_true] at h
  exact of_decide_eq_true h.1


theorem small_take {rs : List Rp.Rec} {k : Nat} (hk : k < rs.length) (h : ∀ r ∈ rs.take k, r.d.size ≤ 300) (h1 : (rs.getD k Rp.zero).d.size ≤ 300) : ∀ r ∈ rs.take (k + 1), r.d.size ≤ 300 := by
  intro r hr
  rw [List.take_succ_eq_append_getElem hk] at hr
  rcases List.mem_append.1 hr with hr | hr
  · exact h r hr
  · rw [List.mem_singleton] at hr
    have e : rs.getD k Rp.zero = rs[k] := by simp [List.getD_eq_getElem?_getD, hk]
    rw [hr, ← e]; exact h1



end Go.Proofs.Ytfodcgipdhppmaa
