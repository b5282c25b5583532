/-
  Marks in memory; what the document's functions of layer 8 answer.
-/
import Derived.Test.YtfodcgipdhppmaaMarkPlain
import Derived.Test.YtfodcgipdhppmaaList
import Derived.BigQuiet
import Derived.IntWalk
import Derived.Lib.Strings
import Derived.Laws.StructEq
namespace Go.Proofs.Ytfodcgipdhppmaa.Mks
open Go.RowKit Go.Proofs.Ytfodcgipdhppmaa.Mp

def mkCells (m : Mk) : List Value := [.int .i64 m.o, .int .i64 m.p]
def mkVal (m : Mk) : Value := .agg #[.int .i64 m.o, .int .i64 m.p]
def MkB (m : Mk) : Prop := (-9223372036854775808 ≤ m.o ∧ m.o ≤ 9223372036854775807) ∧ (-9223372036854775808 ≤ m.p ∧ m.p ≤ 9223372036854775807)
/-- How marks lie in memory. -/
def ML : Lay Mk where
  enc := mkCells
  k := 2
  len := fun _ => rfl
  one := by intro f u hu; simp [mkCells] at hu; rcases hu with rfl | rfl <;> rfl
  pos := by decide
  T := 58
  ok := MkB
  z := zero
theorem info_mk : (Try.prog.info? 58).map (fun i => (i.zero, i.size, i.bytes)) = some (some (.agg #[.int .i64 0, .int .i64 0]), 2, 16) := by kernel_rfl
theorem mk_at {w : World} {fa : Option Addr} {fn fc : Nat} {l : List Mk} (h : IsL ML w (.slice fa fn fc) l) {i : Nat} (hi : i < fn) :
    ∃ b off, fa = some ⟨b, off, none⟩ ∧ w.cell? ⟨b, off + i * 2, none⟩ = some (.int .i64 (l.getD i zero).o) ∧ w.cell? ⟨b, off + i * 2 + 1, none⟩ = some (.int .i64 (l.getD i zero).p) := by
  have h' := h
  obtain ⟨a', cap', e, _, _, h3⟩ := h
  injection e with e1 e2 e3
  rcases h3 with h3 | ⟨b, off, h4, _⟩
  · rw [h3] at e2; simp at e2; omega
  · subst e1
    subst h4
    exact ⟨b, off, rfl, h'.at_ hi 0 _ rfl, h'.at_ hi 1 _ rfl⟩

theorem drewN_two (w : World) (a b : Nat) : (w.drewN a).drewN b = w.drewN (a + b) := by unfold World.drewN; simp [Nat.add_assoc]


set_option maxRecDepth 100000 in
set_option maxHeartbeats 3200000 in
theorem rsame08_yes (v1 v2 : Value) (l : List Mk) (w : World) (h1 : IsL ML w v1 l) (h2 : IsL ML w v2 l) :
    Calls Try.prog 11 #[v1, v2] w fun e w' => e = .returned (.bool true) ∧ ∃ n, w' = w.drewN n := by
  obtain ⟨fa, fn, fc, rfl⟩ : ∃ a n c, v1 = .slice a n c := by obtain ⟨a, c, h, _⟩ := h1; exact ⟨a, _, c, h⟩
  obtain ⟨ga, gn, gc, rfl⟩ : ∃ a n c, v2 = .slice a n c := by obtain ⟨a, c, h, _⟩ := h2; exact ⟨a, _, c, h⟩
  obtain rfl : gn = fn := by rw [h1.len.1, h2.len.1]
  have hl : gn ≤ 9223372036854775807 := by have := h1.len; unfold maxLen at this; omega
  have H1 := Lib.hid h1
  have H2 := Lib.hid h2
  clear h1 h2
  go_enter Try.func11, Try.ntmps11
  go_wp2_with fail
  go_loopw [5] (fun i wr => ∃ k n : Nat, k ≤ gn ∧ i = .int .i64 k ∧ wr = w.drewN n) (fun i _ => gn - (intOf i).toNat)
  case atStart => exact ⟨0, 0, Nat.zero_le _, rfl, rfl⟩
  case round =>
    obtain ⟨k, n, hk, rfl, rfl⟩ := hrel
    by_cases hlt : k < gn
    · obtain ⟨b, off, rfl, c0, c1⟩ := mk_at H1.out hlt
      obtain ⟨b', off', rfl, d0, d1⟩ := mk_at H2.out hlt
      generalize l.getD k zero = f at *
      go_wp2_with fail
      go_quiet (fail)
      go_wp2_with fail
      go_roundw
      case rel => exact ⟨k + 1, _, by omega, by go_num, rfl⟩
      case measure => simp [intOf]; omega
    · go_wp2_with fail
      go_ret
      exact ⟨rfl, _, rfl⟩

end Go.Proofs.Ytfodcgipdhppmaa.Mks
