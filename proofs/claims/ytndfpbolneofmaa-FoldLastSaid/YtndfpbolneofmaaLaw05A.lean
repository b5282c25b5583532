/-
  What the laws' own example answers: true; nothing that was there is changed.
-/
import Derived.Test.YtndfpbolneofmaaFoldStep
import Derived.Test.YtndfpbolneofmaaFoldBytes
namespace Go.Proofs.Ytndfpbolneofmaa
open Go.RowKit

/-- The example's records, and the state they come to. -/
def exRecs : List Rp.Rec := [⟨0, 0, ⟨#[107, 49]⟩⟩, ⟨0, 0, ⟨#[107, 50]⟩⟩]
theorem ex_fold : Fp.fold [] (exRecs.map (·.d)) = [⟨107, ⟨#[50]⟩⟩] := by kernel_rfl
theorem ex_step : Fp.step [⟨107, ⟨#[50]⟩⟩] ⟨#[107]⟩ = [] := by kernel_rfl
theorem ex_bytes : Fp.bytes [] = [0] := by kernel_rfl
theorem ex_recs (w : World) : IsRecs (w.alloc (.cells #[.int .i64 0, .int .i64 0, .string ⟨#[107, 49]⟩, .int .i64 0, .int .i64 0, .string ⟨#[107, 50]⟩] 35)) (.slice (some ⟨w.heap.size, 0, none⟩) 2 2) exRecs := by
  refine ⟨_, 2, rfl, by decide, ?_, .inr ⟨w.heap.size, 0, rfl, fun i hi => ?_⟩⟩
  · intro r hr
    simp [exRecs] at hr
    rcases hr with rfl | rfl <;> exact ⟨by decide, by decide, by decide, by decide, by decide⟩
  · have h := heap_alloc_new w (.cells #[.int .i64 0, .int .i64 0, .string ⟨#[107, 49]⟩, .int .i64 0, .int .i64 0, .string ⟨#[107, 50]⟩] 35)
    have hi2 : i < 2 := hi
    rw [cell_of_row _ _ _ _ _ (0, 0) h, cell_of_row _ _ _ _ _ (0, 0) h, cell_of_row _ _ _ _ _ (0, 0) h]
    rcases (show i = 0 ∨ i = 1 by omega) with rfl | rfl <;> exact ⟨rfl, rfl, rfl⟩
theorem ex_prs (w : World) : IsPrs (w.alloc (.cells #[.int .u8 107, .string ⟨#[50]⟩] 40)) (.slice (some ⟨w.heap.size, 0, none⟩) 1 1) [⟨107, ⟨#[50]⟩⟩] := by
  refine ⟨_, 1, rfl, by decide, ?_, .inr ⟨w.heap.size, 0, rfl, fun i hi => ?_⟩⟩
  · intro r hr
    simp at hr
    subst hr
    decide
  · have h := heap_alloc_new w (.cells #[.int .u8 107, .string ⟨#[50]⟩] 40)
    have hi2 : i = 0 := by simpa using hi
    subst hi2
    rw [cell_of_row _ _ _ _ _ (0, 0) h, cell_of_row _ _ _ _ _ (0, 0) h]
    exact ⟨rfl, rfl⟩
theorem own_is {w : World} {base : Nat} {v : Value} {l : List Fp.Pr} (h : Own w base v l) (hu : Fp.Up l) (hb : ∀ p ∈ l, p.v.size ≤ 9223372036854775807) : IsPrs w v l := h.is (by have := hu.len; unfold maxLen; omega) hb
theorem own_nil {w : World} {base : Nat} {v : Value} (h : Own w base v []) : ∃ a cap, v = .slice a 0 cap := by
  rcases h.2 with ⟨rfl, _⟩ | ⟨g, cap, cur, rfl, _⟩
  · exact ⟨_, _, rfl⟩
  · exact ⟨_, _, rfl⟩

set_option maxRecDepth 100000 in
set_option maxHeartbeats 1600000 in
theorem awake05 (w : World) : Calls Try.prog 8 #[] w fun e w' => e = .returned (.bool true) ∧ Below w.heap.size w w' := by
  have F := fun (W : World) (v : Value) (h : IsRecs W v exRecs) => fold_any (.slice none 0 0) [] v exRecs W (IsPrs.nil W none 0) Fp.Up.nil h
  rw [ex_fold] at F
  have F := Lib.hid F
  have HU : Hid (Fp.Up [⟨107, ⟨#[50]⟩⟩]) := List.pairwise_singleton _ _
  have HB : Hid (∀ p ∈ ([⟨107, ⟨#[50]⟩⟩] : List Fp.Pr), p.v.size ≤ 9223372036854775807) := by intro p hp; simp at hp; subst hp; decide
  have S := fun (W : World) (v : Value) (h : IsPrs W v [⟨107, ⟨#[50]⟩⟩]) => step_any v [⟨107, ⟨#[50]⟩⟩] ⟨#[107]⟩ W h HU.out
  rw [ex_step] at S
  have S := Lib.hid S
  have B := fun (W : World) => fbytes_any (.slice none 0 0) [] W (IsPrs.nil W none 0) (by decide)
  rw [ex_bytes] at B
  have B : ∀ (W : World), Calls Try.prog 14 #[.slice none 0 0] W fun e w' => e = .returned (.string ⟨#[0]⟩) ∧ Below W.heap.size W w' := B
  have B := Lib.hid B
  go_enter Try.func8, Try.ntmps8
  go_wp2_with fail
  refine (F.out _ _ (ex_recs w)).mono ?_
  rintro e w1 ⟨v1, rfl, o1, b1⟩
  have B1 := Lib.hid (bel_of_alloc b1)
  have I1 := Lib.hid (own_is o1 HU.out HB.out)
  clear o1 b1
  go_wp2_with fail
  refine (fsame_yes v1 _ _ _ (I1.out.below ((Below.refl _ w1).alloc (Nat.le_refl _) _) (Nat.le_refl _)) (ex_prs w1)).mono ?_
  rintro e w2 ⟨rfl, b2⟩
  have B2 := Lib.hid (bel_of_alloc b2)
  clear b2
  go_wp2_with fail
  refine (S.out w2 v1 (I1.out.below B2.out (Nat.le_refl _))).mono ?_
  rintro e w3 ⟨v3, rfl, o3, b3⟩
  have B3 := Lib.hid (bel_trans2 B2.out b3)
  obtain ⟨a3, cap3, rfl⟩ := own_nil o3
  clear o3 b3
  go_wp2_with fail
  refine (B.out w3).mono ?_
  rintro e w4 ⟨rfl, b4⟩
  have B4 := Lib.hid (bel_trans2 B1.out (bel_trans2 B3.out b4))
  clear b4
  go_wp2_with fail
  go_ret
  exact ⟨rfl, B4.out⟩

end Go.Proofs.Ytndfpbolneofmaa
