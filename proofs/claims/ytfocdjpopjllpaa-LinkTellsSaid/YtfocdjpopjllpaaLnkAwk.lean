/-
  What the statements' example of layer 17 answers.
-/
import Derived.Test.YtfocdjpopjllpaaLnkProg3
namespace Go.Proofs.Ytfocdjpopjllpaa.Lk
open Go.RowKit

/-- A list of two texts that was just laid. -/
theorem two_new (w : World) (s t : ByteArray) : IsL LS (w.alloc (.cells #[.string s, .string t] 9)) (.slice (some ⟨w.heap.size, 0, none⟩) 2 2) [s, t] := by
  refine ⟨_, 2, rfl, ⟨by unfold maxLen; simp, by simp⟩, fun _ _ => trivial, .inr ⟨w.heap.size, 0, rfl, fun j u hj => ?_⟩⟩
  have h : (LS.vals [s, t])[j]? = [Value.string s, Value.string t][j]? := by simp [Lay.vals, LS]
  rw [h] at hj
  have := news_new w w.heap.size [Value.string s, Value.string t] 9 rfl j u hj
  rwa [addr_plain] at this

set_option maxRecDepth 100000 in
set_option maxHeartbeats 1600000 in
theorem awake17 (w : World) : Calls Try.prog 6 #[] w fun e w' => e = .returned (.bool true) ∧ Below w.heap.size w w' := by
  have B0 := Lib.hid ((Below.refl w.heap.size w).alloc (Nat.le_refl _) (.cells #[.string ⟨#[97]⟩, .string ⟨#[98]⟩] 9))
  have TK := take17_any 0 0 0 _ _ _ (two_new w ⟨#[97]⟩ ⟨#[98]⟩) (nil_some _ _ _) (by simp)
  rw [show takeL [(⟨#[97]⟩ : ByteArray), ⟨#[98]⟩] 0 = [⟨#[98]⟩] from rfl, show takeS [(⟨#[97]⟩ : ByteArray), ⟨#[98]⟩] 0 = ⟨#[97]⟩ from rfl, show hasB [(⟨#[97]⟩ : ByteArray), ⟨#[98]⟩] 0 = true from rfl] at TK
  replace TK := Lib.hid TK
  go_enter Try.func6, Try.ntmps6
  go_wp2_with fail
  refine TK.out.mono ?_
  rintro e w1 ⟨a, n, c, rfl, hi, hn, hr, b⟩
  have B1 := Lib.hid (B0.out.trans (b.mono B0.out.size))
  obtain rfl : n = 1 := hi.len.1
  obtain ⟨g, off, rfl, c0⟩ := ls_at (hi.keep ((Below.refl _ _).alloc (Nat.le_refl _) (.cells #[.int .i64 0, .int .i64 0, .slice a 1 c] 24))) (i := 0) (by decide)
  rw [Nat.add_zero, show [(⟨#[98]⟩ : ByteArray)].getD 0 ⟨#[]⟩ = ⟨#[98]⟩ from rfl] at c0
  clear hi hn hr b
  go_wp2_with fail
  go_ret
  exact ⟨by first | rfl | simp, B1.out.alloc B1.out.size _⟩

end Go.Proofs.Ytfocdjpopjllpaa.Lk
