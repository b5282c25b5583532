/-
  The library's contracts of math/bits.Len, Len32 and Len64, laid at this translation.
-/
import Derived.Test.YtcogeflljcefjaaProg
namespace Go.Proofs
end Go.Proofs
