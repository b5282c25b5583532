/-
  The table of crc: for each value of four bits what goes out with them.
-/
import Derived.Test.YtcogeflljcefjaaCrcRef
import Derived.Laws.NewBlocks
import Derived.Laws.Rows
namespace Go.Proofs.Ytcogeflljcefjaa
open Go.RowKit Go.Lib

/-- The table when k of its sixteen are there. -/
def tabV (k : Nat) : Array Value := ((List.range 16).map fun i => Value.int .u32 ((if i < k then Cp.bitN 4 i else 0 : Nat) : Int)).toArray
theorem tabV_size (k : Nat) : (tabV k).size = 16 := by simp [tabV]
theorem tabV_zero : tabV 0 = #[.int .u32 0, .int .u32 0, .int .u32 0, .int .u32 0, .int .u32 0, .int .u32 0, .int .u32 0, .int .u32 0, .int .u32 0, .int .u32 0, .int .u32 0, .int .u32 0, .int .u32 0, .int .u32 0, .int .u32 0, .int .u32 0] := by rfl
theorem tabV_at {k i : Nat} (hi : i < 16) : (tabV k)[i]? = some (.int .u32 ((if i < k then Cp.bitN 4 i else 0 : Nat) : Int)) := by
  unfold tabV
  rw [List.getElem?_toArray, List.getElem?_map, List.getElem?_range hi]; rfl
theorem tabV_step {k : Nat} (hk : k < 16) : (tabV k).setIfInBounds k (.int .u32 (Cp.bitN 4 k : Nat)) = tabV (k + 1) := by
  apply Array.ext_getElem?
  intro i
  rcases Nat.lt_or_ge i 16 with hi | hi
  · rw [tabV_at hi, Array.getElem?_setIfInBounds, tabV_size]
    by_cases e : k = i
    · subst e
      rw [if_pos rfl, if_pos hk, if_pos (by omega)]
    · rw [if_neg e, tabV_at hi]
      by_cases h2 : i < k
      · rw [if_pos h2, if_pos (by omega)]
      · rw [if_neg h2, if_neg (by omega)]
  · rw [Array.getElem?_eq_none (by rw [Array.size_setIfInBounds, tabV_size]; exact hi), Array.getElem?_eq_none (by rw [tabV_size]; exact hi)]
theorem tabV_one (k : Nat) : (tabV k).all (·.oneCell') = true := by
  rw [Array.all_eq_true_iff_forall_mem]
  intro v hv
  unfold tabV at hv
  rw [List.mem_toArray, List.mem_map] at hv
  obtain ⟨i, _, rfl⟩ := hv
  rfl

theorem bit_any {x : Nat} (h : x < 4294967296) : bits .xor .u32 ((x : Int) / 2) ((x : Int) % 2 * 2197175160) = (Cp.bit x : Nat) := by
  unfold Cp.bit
  have h1 : x % 2 * Cp.poly < 4294967296 := by
    rcases Nat.mod_two_eq_zero_or_one x with a | a <;> rw [a] <;> decide
  have h2 := u32_xor_nat (x / 2) (x % 2 * Cp.poly) (by omega) h1
  have e : ((x % 2 * Cp.poly : Nat) : Int) = (x : Int) % 2 * 2197175160 := by
    rw [Int.natCast_mul]; rfl
  rw [e] at h2
  exact h2

theorem Below.setRow {B : Nat} {a w : World} (h : Below B a w) {g : Nat} (cs : Array Value) (hg : B ≤ g) : Below B a (w.setRow g cs) :=
  h.trans ⟨rfl, rfl, rfl, by simp, fun k hk => setRow_other w g k cs (by omega)⟩

/-- The world behind the table's making. -/
def tabW (w : World) (k : Nat) : World := (w.alloc (.cells (tabV 0) 64)).alloc (.cells (tabV k) 64)

theorem info16 (k : Nat) : (Try.prog.info? 64).map (·.size) = some (tabV k).size := by rw [tabV_size]; kernel_rfl

set_option maxRecDepth 100000 in
set_option maxHeartbeats 400000 in
theorem table_any (w : World) :
    Calls Try.prog 37 #[] w fun e w' => e = .returned (.agg (tabV 16)) ∧ Below w.heap.size w w' := by
  go_enter Try.func37, Try.ntmps37
  go_wp2
  go_loopw [4] (fun i wr => ∃ k : Nat, k ≤ 16 ∧ i = .int .i64 k ∧ wr = tabW w k) (fun i _ => 16 - (intOf i).toNat)
  case atStart => exact ⟨0, Nat.zero_le _, rfl, rfl⟩
  case round =>
    obtain ⟨k, hk, rfl, rfl⟩ := hrel
    unfold tabW
    by_cases hlt : k < 16
    · have hget := tabV_at (k := k) hlt
      rw [if_neg (by omega)] at hget
      go_wp2
      go_loop [3, 9] (fun a j => ∃ i : Nat, i ≤ 4 ∧ j = .int .i64 i ∧ a = .int .u32 (Cp.bitN i k : Nat)) (fun _ j => 4 - (intOf j).toNat)
      case atStart => exact ⟨0, Nat.zero_le _, rfl, rfl⟩
      case round =>
        obtain ⟨i, hi, rfl, rfl⟩ := hrel
        have hZ := Cp.bitN_lt i (x := k) (by omega)
        have HN := Lib.hid (Cp.bitN_succ' i k)
        by_cases hi4 : i < 4
        · obtain ⟨Z, hZe⟩ : ∃ Z, Cp.bitN i k = Z := ⟨_, rfl⟩
          rw [hZe] at hZ HN ⊢
          clear hZe
          have hbit := bit_any hZ
          go_wp2
          go_round
          case rel => exact ⟨i + 1, by omega, by go_num, by rw [HN.out]⟩
          case measure => simp [intOf]; omega
        · have hi' : i = 4 := by omega
          subst hi'
          have HT := Lib.hid (tabV_step hlt)
          go_wp2
          go_roundw
          case rel => exact ⟨k + 1, by omega, by go_num, by rw [HT.out]⟩
          case measure => simp [intOf]; omega
    · have hk' : k = 16 := by omega
      subst hk'
      have F1 := Lib.hid (heap_alloc2_new w (.cells (tabV 0) 64) (.cells (tabV 16) 64))
      have F2 := Lib.hid (heap_alloc2_old w (.cells (tabV 0) 64) (.cells (tabV 16) 64))
      have F3 := Lib.hid (((Below.refl w.heap.size w).alloc (Nat.le_refl _) (.cells (tabV 0) 64)).alloc (by simp) (.cells (tabV 16) 64))
      generalize (w.alloc (.cells (tabV 0) 64)).alloc (.cells (tabV 16) 64) = W at F1 F2 F3 ⊢
      go_wp2_with (first
        | (refine wpList_load_row rfl 64 _ rfl (w.heap.size + 1) rfl _ (tabV 16) (0, 0) _ F1.out Try.underlying64 rfl (info16 16) ?_)
        | (refine wpList_store_row rfl 64 _ _ rfl w.heap.size (tabV 16) rfl rfl _ (tabV 0) F2.out (info16 16) (by rw [tabV_size, tabV_size]) (tabV_one 16) ?_))
      refine bodyPost_ret (v := .agg (tabV 16)) (results_cell_row rfl _ _ w.heap.size _ (tabV 16) _ _ rfl (setRow_heap _ _ _ _ _ _ F2.out) Try.underlying64 rfl (info16 16)) rfl ⟨rfl, Below.setRow F3.out _ (Nat.le_refl _)⟩

end Go.Proofs.Ytcogeflljcefjaa
