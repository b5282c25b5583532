/-
  What record's Row and the document's answer; nothing that was there is changed.
-/
import Derived.Test.YtfodcgipdhppmaaRecRef
import Derived.Test.YtfodcgipdhppmaaRecOpen
import Derived.Test.YtfodcgipdhppmaaBuilder
namespace Go.Proofs.Ytfodcgipdhppmaa
open Go.RowKit

/-- What Row answers. -/
def rowVal (rs : List Rp.Rec) : Value := .tuple #[.string ⟨(Rp.row rs).1.toArray⟩, .int .i64 (Rp.row rs).2]
theorem rowVal_ok {rs : List Rp.Rec} (h : ∀ r ∈ rs, Rp.Ok r) : rowVal rs = .tuple #[.string ⟨(Rp.rowB rs).toArray⟩, .int .i64 0] := by
  unfold rowVal
  rw [Rp.row_ok rs h]
theorem getD_eq {rs : List Rp.Rec} {k : Nat} (h : k < rs.length) : rs.getD k Rp.zero = rs[k] := by simp [List.getD_eq_getElem?_getD, h]
theorem getD_in {rs : List Rp.Rec} {k : Nat} (h : k < rs.length) : rs.getD k Rp.zero ∈ rs := by rw [getD_eq h]; exact List.getElem_mem _
theorem rowVal_bad {rs : List Rp.Rec} {k : Nat} {e : Int} (hk : k < rs.length) (h : ∀ r ∈ rs.take k, Rp.Ok r) (hr : ¬ Rp.Ok (rs.getD k Rp.zero)) (he : Rp.fault (rs.getD k Rp.zero) = e) : rowVal rs = .tuple #[.string ⟨#[]⟩, .int .i64 e] := by
  have h1 := Rp.row_bad (rs.take k) (rs.getD k Rp.zero) (rs.drop (k + 1)) h hr
  have h2 : rs.take k ++ rs.getD k Rp.zero :: rs.drop (k + 1) = rs := by rw [getD_eq hk, ← List.drop_eq_getElem_cons hk, List.take_append_drop]
  rw [h2] at h1
  unfold rowVal
  rw [h1, he]
theorem rowB_take {rs : List Rp.Rec} {k : Nat} (hk : k < rs.length) : Rp.rowB (rs.take (k + 1)) = Rp.rowB (rs.take k) ++ Fr.fr (Rp.body (rs.getD k Rp.zero)) := by
  rw [List.take_succ_eq_append_getElem hk, Rp.rowB_snoc, getD_eq hk]
theorem ok_take {rs : List Rp.Rec} {k : Nat} (hk : k < rs.length) (h : ∀ r ∈ rs.take k, Rp.Ok r) (h1 : Rp.Ok (rs.getD k Rp.zero)) : ∀ r ∈ rs.take (k + 1), Rp.Ok r := by
  intro r hr
  rw [List.take_succ_eq_append_getElem hk] at hr
  rcases List.mem_append.1 hr with hr | hr
  · exact h r hr
  · rw [List.mem_singleton] at hr; rw [hr, ← getD_eq hk]; exact h1
theorem rowB_take_le {rs : List Rp.Rec} {k : Nat} (h : ∀ r ∈ rs.take k, Rp.Ok r) : (Rp.rowB (rs.take k)).length ≤ 81 * k := by
  have h1 := Rp.rowB_le (rs.take k) h
  have h2 : (rs.take k).length ≤ k := List.length_take_le _ _
  omega





end Go.Proofs.Ytfodcgipdhppmaa
