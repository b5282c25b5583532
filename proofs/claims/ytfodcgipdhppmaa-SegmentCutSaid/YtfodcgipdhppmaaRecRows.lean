/-
  What the two Rows functions answer; nothing that was there is changed.
-/
import Derived.Test.YtfodcgipdhppmaaRecNext
import Derived.Test.YtfodcgipdhppmaaRecOwn
import Derived.Test.YtfodcgipdhppmaaFrameAlls
import Derived.Test.YtfodcgipdhppmaaFrameRnext
import Derived.Lib.Builder
namespace Go.Proofs.Ytfodcgipdhppmaa
open Go.RowKit

/-- What Rows answers: the records, how far they go, why there is no more. -/
def RowsOut (w : World) (l : List UInt8) (e : Ending) (w' : World) : Prop :=
  ∃ v, e = .returned (.tuple #[v, .int .i64 ((Rp.rows l).2.1 : Nat), .int .i64 (Rp.rows l).2.2]) ∧ IsRecs w' v (Rp.rows l).1 ∧ Below w.heap.size w w'
theorem RowsOut.mk {w w' : World} {l : List UInt8} {rs : List Rp.Rec} {k : Nat} {er : Int} {v : Value} (h : Rp.rows l = (rs, k, er)) (hv : IsRecs w' v rs) (hb : Below w.heap.size w w') :
    RowsOut w l (.returned (.tuple #[v, .int .i64 (k : Int), .int .i64 er])) w' := by
  unfold RowsOut
  rw [h]
  exact ⟨v, rfl, hv, hb⟩


end Go.Proofs.Ytfodcgipdhppmaa
