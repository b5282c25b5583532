/-
  What the document's Same of layer 10 answers of one manifest twice.
-/
import Derived.Test.YtcogeflljcefjaaManVal
namespace Go.Proofs.Ytcogeflljcefjaa.Mfs
open Go.RowKit Go.Proofs.Ytcogeflljcefjaa.Qm

set_option maxRecDepth 100000 in
set_option maxHeartbeats 1600000 in
theorem rsame10_yes (fa ga : Option Addr) (fn fc gn gc : Nat) (m : Mn) (w : World) (h1 : IsL IL w (.slice fa fn fc) m.l) (h2 : IsL IL w (.slice ga gn gc) m.l) :
    Calls Try.prog 13 #[mnVal fa fn fc m, mnVal ga gn gc m] w fun e w' => e = .returned (.bool true) ∧ Below w.heap.size w w' := by
  obtain rfl : gn = fn := by rw [h1.len.1, h2.len.1]
  have hl : gn ≤ 9223372036854775807 := by have := h1.len; unfold maxLen at this; omega
  have HB := Lib.hid (((Below.refl w.heap.size w).alloc (Nat.le_refl _) (.cells #[.int .i64 m.v, .slice fa gn fc, .int .i64 m.z, .int .u32 m.c] 25)).alloc (by simp) (.cells #[.int .i64 m.v, .slice ga gn gc, .int .i64 m.z, .int .u32 m.c] 25))
  have G1 : ((w.alloc (.cells #[.int .i64 m.v, .slice fa gn fc, .int .i64 m.z, .int .u32 m.c] 25)).alloc (.cells #[.int .i64 m.v, .slice ga gn gc, .int .i64 m.z, .int .u32 m.c] 25)).heap[w.heap.size]? = some (.cells #[.int .i64 m.v, .slice fa gn fc, .int .i64 m.z, .int .u32 m.c] 25 (0, 0)) :=
    ((World.grownBy_alloc (w.alloc (.cells #[.int .i64 m.v, .slice fa gn fc, .int .i64 m.z, .int .u32 m.c] 25)) (.cells #[.int .i64 m.v, .slice ga gn gc, .int .i64 m.z, .int .u32 m.c] 25) none).block w.heap.size (by simp) (by simp)).trans (heap_alloc_new w _)
  have G2 := heap_alloc_new (w.alloc (.cells #[.int .i64 m.v, .slice fa gn fc, .int .i64 m.z, .int .u32 m.c] 25)) (.cells #[.int .i64 m.v, .slice ga gn gc, .int .i64 m.z, .int .u32 m.c] 25)
  rw [show (w.alloc (.cells #[.int .i64 m.v, .slice fa gn fc, .int .i64 m.z, .int .u32 m.c] 25)).heap.size = w.heap.size + 1 by simp] at G2
  obtain ⟨x0, x1, x2, x3⟩ := cells4 G1
  obtain ⟨y0, y1, y2, y3⟩ := cells4 G2
  have H1 := Lib.hid (h1.keep HB.out)
  have H2 := Lib.hid (h2.keep HB.out)
  clear h1 h2 G1 G2
  unfold mnVal
  go_enter Try.func13, Try.ntmps13
  go_wp2_with fail
  generalize World.alloc _ _ = w0 at HB H1 H2 x0 x1 x2 x3 y0 y1 y2 y3 ⊢
  go_loopw [5] (fun i wr => ∃ k n : Nat, k ≤ gn ∧ i = .int .i64 k ∧ wr = w0.drewN n) (fun i _ => gn - (intOf i).toNat)
  case atStart => exact ⟨0, 0, Nat.zero_le _, rfl, rfl⟩
  case round =>
    obtain ⟨k, n, hk, rfl, rfl⟩ := hrel
    by_cases hlt : k < gn
    · obtain ⟨g, off, rfl, c0⟩ := il_at H1.out hlt
      obtain ⟨g', off', rfl, d0⟩ := il_at H2.out hlt
      generalize m.l.getD k 0 = f at *
      go_wp2_with fail
      go_quiet (fail)
      go_wp2_with fail
      go_roundw
      case rel => exact ⟨k + 1, _, by omega, by go_num, rfl⟩
      case measure => simp [intOf]; omega
    · go_wp2_with fail
      go_ret
      exact ⟨rfl, HB.out.trans ((bel_drewN n).mono HB.out.size)⟩

end Go.Proofs.Ytcogeflljcefjaa.Mfs
