/-
  What the two Len functions answer: how many bytes Put's answer has; varint.Len changes nothing at all.
-/
import Derived.Test.YtcogeflljcefjaaVarPut
import Derived.Test.YtcogeflljcefjaaBase
import Derived.Test.YtcogeflljcefjaaBits
import Derived.Lib.Hide
namespace Go.Proofs.Ytcogeflljcefjaa
open Go.RowKit

theorem ret_int {k : IntKind} {a b : Int} (h : a = b) : Ending.returned (.int k a) = .returned (.int k b) := by rw [h]



end Go.Proofs.Ytcogeflljcefjaa
