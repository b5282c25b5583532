/-
  When two marks are one, as the program asks it.
-/
import Derived.Test.YtailajcepjklaaaMarkVal
import Derived.Laws.StructEq
namespace Go.Proofs.Ytailajcepjklaaa.Mks
open Go.RowKit Go.Proofs.Ytailajcepjklaaa.Mp

theorem mk_eql (w : World) (a b c d : Int) : (binOp .eql 24 (.agg #[.int .i64 a, .int .i64 b]) (.agg #[.int .i64 c, .int .i64 d])).run Try.prog w = .ok (.bool (a == c && b == d)) w := by
  by_cases h : a = c
  · have e1 : (a == c) = true := by simpa using h
    by_cases h2 : b = d
    · have e2 : (b == d) = true := by simpa using h2
      rw [e1, e2]
      simp [go_sem, e1, e2]
    · have e2 : (b == d) = false := by simpa using h2
      rw [e1, e2]
      simp [go_sem, e1, e2]
  · have e1 : (a == c) = false := by simpa using h
    rw [e1]
    simp [go_sem, e1]

end Go.Proofs.Ytailajcepjklaaa.Mks
