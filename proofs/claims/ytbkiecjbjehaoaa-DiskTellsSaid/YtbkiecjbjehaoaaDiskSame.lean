/-
  What the document's Same answers of the same disk twice.
-/
import Derived.Test.YtbkiecjbjehaoaaDiskRef2
import Derived.Laws.StructEq
namespace Go.Proofs.Ytbkiecjbjehaoaa.Dsk
open Go.RowKit Go.Proofs.Ytbkiecjbjehaoaa.Dp

set_option maxRecDepth 100000 in
set_option maxHeartbeats 3200000 in
theorem rsame_yes (v1 v2 : Value) (D : Dk) (w : World) (h1 : IsL FL w v1 D.f) (h2 : IsL FL w v2 D.f) :
    Calls Try.prog 17 #[dkVal v1 D, dkVal v2 D] w fun e w' => e = .returned (.bool true) ∧ Below w.heap.size w w' := by
  obtain ⟨fa, fn, fc, rfl⟩ : ∃ a n c, v1 = .slice a n c := by obtain ⟨a, c, h, _⟩ := h1; exact ⟨a, _, c, h⟩
  obtain ⟨ga, gn, gc, rfl⟩ : ∃ a n c, v2 = .slice a n c := by obtain ⟨a, c, h, _⟩ := h2; exact ⟨a, _, c, h⟩
  obtain rfl : gn = fn := by rw [h1.len.1, h2.len.1]
  have hl : gn ≤ 9223372036854775807 := by have := h1.len; unfold maxLen at this; omega
  have H1 := Lib.hid h1
  have H2 := Lib.hid h2
  clear h1 h2
  obtain ⟨fl, dc, da, dl, dx⟩ := D
  unfold dkVal
  dsimp only at *
  obtain ⟨g0, g1, gb, gs⟩ := boxes2 w #[.slice fa gn fc, .int .i64 dc, .bool da, .int .i64 dl, .bool dx] #[.slice ga gn gc, .int .i64 dc, .bool da, .int .i64 dl, .bool dx] 24 24
  obtain ⟨p0, p1, p2, p3, p4⟩ := cells5 g0
  obtain ⟨q0, q1, q2, q3, q4⟩ := cells5 g1
  have GB := Lib.hid gb
  clear g0 g1 gb gs
  cases da
  all_goals cases dx
  all_goals
    go_enter Try.func17, Try.ntmps17
    go_wp2_with fail
    generalize World.alloc (World.alloc w _) _ = w0 at p0 p1 p2 p3 p4 q0 q1 q2 q3 q4 GB ⊢
    go_loopw [5] (fun i wr => ∃ k n : Nat, k ≤ gn ∧ i = .int .i64 k ∧ wr = w0.drewN n) (fun i _ => gn - (intOf i).toNat)
    case atStart => exact ⟨0, 0, Nat.zero_le _, rfl, rfl⟩
    case round =>
      obtain ⟨k, n, hk, rfl, rfl⟩ := hrel
      by_cases hlt : k < gn
      · obtain ⟨b, off, rfl, c0, c1, c2⟩ := isL_at (H1.out.keep GB.out) hlt
        obtain ⟨b', off', rfl, d0, d1, d2⟩ := isL_at (H2.out.keep GB.out) hlt
        generalize fl.getD k zero = f at *
        go_wp2_with fail
        go_quiet (fail)
        go_wp2_with fail
        go_roundw
        case rel => exact ⟨k + 1, _, by omega, by go_num, rfl⟩
        case measure => simp [intOf]; omega
      · go_wp2_with fail
        go_ret
        exact ⟨rfl, GB.out.trans ((bel_drewN n).mono GB.out.size)⟩

end Go.Proofs.Ytbkiecjbjehaoaa.Dsk
