/-
  What the statements' example of layer 18 answers.
-/
import Derived.Test.YtpbpkeifehobjaaTimTri
namespace Go.Proofs.Ytpbpkeifehobjaa.Tm
open Go.RowKit Go.Proofs.Ytpbpkeifehobjaa.Tp Go.Proofs.Ytpbpkeifehobjaa.Aps

set_option maxRecDepth 100000 in
set_option maxHeartbeats 1600000 in
theorem awake18 (w : World) : Calls Try.prog 6 #[] w fun e w' => e = .returned (.bool true) ∧ Below w.heap.size w w' := by
  have AR := arm18_any 0 5 2 (.slice none 0 0) [] w (IsL.nil w none 0) (by simp) (by decide) (by decide) (by decide) Right.nil
  rw [show arm 0 [] 5 2 = [⟨5, 2⟩] from by decide] at AR
  replace AR := Lib.hid AR
  go_enter Try.func6, Try.ntmps6
  go_wp2_with fail
  refine AR.out.mono ?_
  rintro e w1 ⟨a, n, c, rfl, hi, hn, hr, b⟩
  have B1 := Lib.hid b
  have TK := tick18_any 0 (.slice a n c) _ w1 hi (by simp) (by decide) (by decide) ⟨List.pairwise_singleton _ _, List.pairwise_singleton _ _⟩ hn
  rw [show rest [⟨5, 2⟩] (0 + 1) = [⟨5, 2⟩] from by decide, show rings [⟨5, 2⟩] (0 + 1) = [] from by decide] at TK
  replace TK := Lib.hid TK
  clear hi hn hr b AR
  go_wp2_with fail
  refine TK.out.mono ?_
  rintro e w2 ⟨a2, n2, c2, x2, m2, d2, rfl, hi, hn, hr, ho, _, b⟩
  obtain rfl : m2 = 0 := ho.len.1
  have B2 := Lib.hid (B1.out.trans (b.mono B1.out.size))
  have BX := Lib.hid ((Bs.start w2).new #[.int .i64 (0 + 1), .slice a2 n2 c2] 26)
  have HI := Lib.hid (hi.keep BX.out.w)
  have TK2 := tick18_any (0 + 1) (.slice a2 n2 c2) _ _ HI.out (by simp) (by decide) (by decide) ⟨List.pairwise_singleton _ _, List.pairwise_singleton _ _⟩ hn
  rw [show rest [⟨5, 2⟩] (0 + 1 + 1) = [] from by decide, show rings [⟨5, 2⟩] (0 + 1 + 1) = [5] from by decide] at TK2
  replace TK2 := Lib.hid TK2
  obtain ⟨x0, x1⟩ := BX.out.at2 (.head _)
  clear hi hn hr ho b TK
  rw [show (0 : Int) + 1 = 1 from rfl] at *
  go_wp2_with fail
  refine TK2.out.mono ?_
  rintro e w3 ⟨a3, n3, c3, x3, m3, d3, rfl, hi, hn, hr, ho, _, b⟩
  obtain rfl : m3 = 1 := ho.len.1
  have B3 := Lib.hid (BX.out.keep b)
  have BY := Lib.hid ((Bs.start w3).new #[.int .i64 2, .slice a3 n3 c3] 26)
  obtain ⟨g, off, rfl, c0⟩ := nl_at (ho.keep BY.out.w) (i := 0) (by decide)
  rw [Nat.add_zero, show ([5] : List Int).getD 0 0 = 5 from rfl] at c0
  obtain ⟨y0, y1⟩ := (B3.out.keep BY.out.w).at2 (.head _)
  have HI3 := Lib.hid ((HI.out.keep b).keep BY.out.w)
  have AM := Lib.hid (armed18_any 1 5 (.slice a2 n2 c2) _ _ HI3.out)
  rw [show armed [⟨5, 2⟩] 5 = true from by decide] at AM
  have B4 := Lib.hid (B2.out.trans ((B3.out.w.trans (BY.out.w.mono B3.out.w.size)).mono B2.out.size))
  clear hi hn hr ho b TK2
  go_wp2_with fail
  refine AM.out.mono ?_
  rintro e w5 ⟨rfl, b5⟩
  have B5 := Lib.hid (B4.out.trans (b5.mono B4.out.size))
  clear b5
  go_wp2_with fail
  go_ret
  exact ⟨by first | rfl | simp, B5.out⟩

end Go.Proofs.Ytpbpkeifehobjaa.Tm
