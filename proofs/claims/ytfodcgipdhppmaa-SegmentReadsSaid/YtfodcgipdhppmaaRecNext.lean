/-
  What record's next answers; nothing that was there is changed.
-/
import Derived.Test.YtfodcgipdhppmaaRecGetC
namespace Go.Proofs.Ytfodcgipdhppmaa
open Go.RowKit

/-- What next answers. -/
def nextVal (s : ByteArray) (k : Nat) : Value :=
  .tuple #[recVal (Rp.nxt (s.data.toList.drop k)).1, .int .i64 (if (Rp.nxt (s.data.toList.drop k)).2.2 = 0 then ((k + (Rp.nxt (s.data.toList.drop k)).2.1 : Nat) : Int) else 0), .int .i64 (Rp.nxt (s.data.toList.drop k)).2.2]
theorem nextVal_no {s : ByteArray} {k : Nat} {e : Int} (h : Rp.nxt (s.data.toList.drop k) = (Rp.zero, 0, e)) (he : e ≠ 0) : nextVal s k = .tuple #[.agg #[.int .i64 0, .int .i64 0, .string ⟨#[]⟩], .int .i64 0, .int .i64 e] := by
  unfold nextVal
  rw [h]
  dsimp only
  rw [if_neg he]
  rfl
theorem nextVal_yes {s : ByteArray} {k j q : Nat} {r : Rp.Rec} (h : Rp.nxt (s.data.toList.drop k) = (r, j, 0)) (hq : k + j = q) : nextVal s k = .tuple #[recVal r, .int .i64 (q : Int), .int .i64 0] := by
  unfold nextVal
  rw [h]
  dsimp only
  rw [if_pos rfl, hq]





end Go.Proofs.Ytfodcgipdhppmaa
