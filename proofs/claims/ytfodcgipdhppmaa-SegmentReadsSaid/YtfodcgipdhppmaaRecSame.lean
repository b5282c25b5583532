/-
  What the document's Same answers of the same records twice, and what its Few answers.
-/
import Derived.Test.YtfodcgipdhppmaaRecRows
import Derived.Test.YtfodcgipdhppmaaRecFew
import Derived.Laws.StructEq
import Derived.Deep.QuietTactic
import Derived.BigQuiet
namespace Go.Proofs.Ytfodcgipdhppmaa
open Go.RowKit

set_option maxRecDepth 100000 in
set_option maxHeartbeats 800000 in
theorem recsame_none (a b : Option Addr) (c d : Nat) (w : World) :
    Calls Try.prog 10 #[.slice a 0 c, .slice b 0 d] w fun e w' => e = .returned (.bool true) ∧ ∃ n, w' = w.drewN n := by
  go_enter Try.func10, Try.ntmps10
  go_wp2_with fail
  refine wp_loop_rounds 1 ?_
  rw [rounds_succ]
  go_wp2_with fail
  go_ret
  exact ⟨rfl, 0, rfl⟩

set_option maxRecDepth 100000 in
set_option maxHeartbeats 1600000 in
theorem recsame_some (rs : List Rp.Rec) (a b o1 o2 c d : Nat) (w : World) (hm : rs.length ≤ maxLen)
    (hc1 : ∀ i, i < rs.length → w.cell? ⟨a, o1 + i * 3, none⟩ = some (.int .i64 (rs.getD i Rp.zero).a) ∧ w.cell? ⟨a, o1 + i * 3 + 1, none⟩ = some (.int .i64 (rs.getD i Rp.zero).t) ∧ w.cell? ⟨a, o1 + i * 3 + 2, none⟩ = some (.string (rs.getD i Rp.zero).d))
    (hc2 : ∀ i, i < rs.length → w.cell? ⟨b, o2 + i * 3, none⟩ = some (.int .i64 (rs.getD i Rp.zero).a) ∧ w.cell? ⟨b, o2 + i * 3 + 1, none⟩ = some (.int .i64 (rs.getD i Rp.zero).t) ∧ w.cell? ⟨b, o2 + i * 3 + 2, none⟩ = some (.string (rs.getD i Rp.zero).d)) :
    Calls Try.prog 10 #[.slice (some ⟨a, o1, none⟩) rs.length c, .slice (some ⟨b, o2, none⟩) rs.length d] w fun e w' => e = .returned (.bool true) ∧ ∃ n, w' = w.drewN n := by
  unfold maxLen at hm
  have HC1 := Lib.hid hc1
  have HC2 := Lib.hid hc2
  clear hc1 hc2
  generalize rs.length = len at *
  go_enter Try.func10, Try.ntmps10
  go_wp2_with fail
  go_loopw [5] (fun i wr => ∃ k n : Nat, k ≤ len ∧ i = .int .i64 k ∧ wr = w.drewN n) (fun i _ => len - (intOf i).toNat)
  case atStart => exact ⟨0, 0, Nat.zero_le _, rfl, rfl⟩
  case round =>
    obtain ⟨k, n, hk, rfl, rfl⟩ := hrel
    by_cases hlt : k < len
    · obtain ⟨c0, c1, c2⟩ := HC1.out k hlt
      obtain ⟨d0, d1, d2⟩ := HC2.out k hlt
      generalize rs.getD k Rp.zero = r at *
      go_wp2_with fail
      go_quiet (fail)
      go_wp2_with fail
      go_roundw
      case rel => exact ⟨k + 1, _, by omega, by go_num, rfl⟩
      case measure => simp [intOf]; omega
    · go_wp2_with fail
      go_ret
      exact ⟨rfl, _, rfl⟩

/-- Of the same records Same tells so. -/
theorem recsame_yes (v1 v2 : Value) (rs : List Rp.Rec) (w : World) (h1 : IsRecs w v1 rs) (h2 : IsRecs w v2 rs) :
    Calls Try.prog 10 #[v1, v2] w fun e w' => e = .returned (.bool true) ∧ ∃ n, w' = w.drewN n := by
  obtain ⟨a, c, rfl, m1, _, h3⟩ := h1
  obtain ⟨b, d, rfl, _, _, h4⟩ := h2
  rcases h3 with rfl | ⟨a', o1, rfl, h3⟩
  · exact recsame_none a b c d w
  · rcases h4 with rfl | ⟨b', o2, rfl, h4⟩
    · exact recsame_none _ b c d w
    · exact recsame_some rs a' b' o1 o2 c d w m1 h3 h4

end Go.Proofs.Ytfodcgipdhppmaa
