/-
  Records as values; what within, fault and Right answer, and the document's within, why and Right; nothing that was there is changed.
-/
import Derived.Test.YtndfpbolneofmaaRecPlain
import Derived.Test.YtndfpbolneofmaaBase
namespace Go.Proofs.Ytndfpbolneofmaa
open Go.RowKit

/-- A record as a value. -/
def recVal (r : Rp.Rec) : Value := .agg #[.int .i64 r.a, .int .i64 r.t, .string r.d]
/-- A record that memory holds: its numbers are ints, its data a string. -/
structure RecOk (r : Rp.Rec) : Prop where
  a0 : -9223372036854775808 ≤ r.a
  a1 : r.a ≤ 9223372036854775807
  t0 : -9223372036854775808 ≤ r.t
  t1 : r.t ≤ 9223372036854775807
  d1 : r.d.size ≤ 9223372036854775807

end Go.Proofs.Ytndfpbolneofmaa
