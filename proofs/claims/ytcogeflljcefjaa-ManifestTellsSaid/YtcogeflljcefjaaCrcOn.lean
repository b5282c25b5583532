/-
  What crc's behind, On and Sum answer; what the document's Sum answers.
-/
import Derived.Test.YtcogeflljcefjaaCrcTab
import Derived.Test.YtcogeflljcefjaaStrs
namespace Go.Proofs.Ytcogeflljcefjaa
open Go.RowKit Go.Lib

theorem tab_cell {W : World} {B j : Nat} (h : W.heap[B]? = some (.cells (tabV 16) 64 (0, 0))) (hj : j < 16) : W.cell? ⟨B, j, none⟩ = some (.int .u32 (Cp.bitN 4 j : Nat)) := by
  rw [cell_of_row W B j _ _ _ h, tabV_at hj, if_pos hj]

theorem four_bits {x : Nat} (h : x < 4294967296) : bits .xor .u32 ((x : Int) / 16) (Cp.bitN 4 (x % 16) : Nat) = (Cp.bitN 4 x : Nat) := by
  rw [Cp.four x]
  exact u32_xor_nat (x / 16) (Cp.bitN 4 (x % 16)) (by omega) (Cp.bitN_lt 4 (by omega))

set_option maxRecDepth 100000 in
set_option maxHeartbeats 800000 in
theorem behind_some (x : Nat) (ss : List ByteArray) (b off cap : Nat) (w : World) (hx : x < 4294967296) (hl : ss.length ≤ maxLen) (hs : ∀ s ∈ ss, s.size ≤ maxLen)
    (hc : ∀ i, i < ss.length → w.cell? ⟨b, off + i, none⟩ = some (.string (ss.getD i ByteArray.empty))) :
    Calls Try.prog 36 #[.int .u32 (x : Int), .slice (some ⟨b, off, none⟩) ss.length cap] w fun e w' => e = .returned (.int .u32 (Cp.sum x (cat ss) : Nat)) ∧ Below w.heap.size w w' := by
  unfold maxLen at hl
  have HS := Lib.hid hs
  have HC := Lib.hid hc
  clear hs hc
  have htl := Cp.turn_lt x
  have HB := Lib.hid (turn_bits hx)
  obtain ⟨T, hT⟩ : ∃ T, Cp.turn x = T := ⟨_, rfl⟩
  rw [hT] at HB htl
  have HT := Lib.hid hT
  clear hT
  obtain ⟨len, hlen⟩ : ∃ len, ss.length = len := ⟨_, rfl⟩
  rw [hlen] at hl HC ⊢
  have HL := Lib.hid hlen
  clear hlen
  go_enter Try.func36, Try.ntmps36
  go_wp2_with fail
  refine (table_any _).mono ?_
  rintro e w1 ⟨rfl, hb1⟩
  have F0 := Lib.hid (heap_alloc_new w1 (.cells (tabV 0) 64))
  rw [tabV_zero] at F0
  go_wp2_with (refine wpList_store_row rfl 64 _ _ rfl w1.heap.size (tabV 16) rfl rfl _ _ F0.out (info16 16) (by rw [tabV_size]; rfl) (tabV_one 16) ?_)
  have FT := Lib.hid (setRow_heap _ w1.heap.size _ (tabV 16) _ _ F0.out)
  have FB := Below.setRow (hb1.alloc hb1.size (.cells #[.int .u32 0, .int .u32 0, .int .u32 0, .int .u32 0, .int .u32 0, .int .u32 0, .int .u32 0, .int .u32 0, .int .u32 0, .int .u32 0, .int .u32 0, .int .u32 0, .int .u32 0, .int .u32 0, .int .u32 0, .int .u32 0] 64)) (tabV 16) hb1.size
  generalize (w1.alloc (.cells #[.int .u32 0, .int .u32 0, .int .u32 0, .int .u32 0, .int .u32 0, .int .u32 0, .int .u32 0, .int .u32 0, .int .u32 0, .int .u32 0, .int .u32 0, .int .u32 0, .int .u32 0, .int .u32 0, .int .u32 0, .int .u32 0] 64)).setRow w1.heap.size (tabV 16) = W at FT FB ⊢
  clear F0
  obtain ⟨B, hB⟩ : ∃ B, w1.heap.size = B := ⟨_, rfl⟩
  rw [hB] at FT ⊢
  clear hB hb1
  go_loop [6, 15] (fun a i => ∃ k : Nat, k ≤ len ∧ i = .int .i64 k ∧ a = .int .u32 (Cp.on T (cat (ss.take k)) : Nat)) (fun _ i => len - (intOf i).toNat)
  case atStart => exact ⟨0, Nat.zero_le _, rfl, congrArg (Value.int .u32) HB.out⟩
  case round =>
    obtain ⟨k, hk, rfl, rfl⟩ := hrel
    have hX := Cp.on_lt (cat (ss.take k)) htl
    by_cases hlt : k < len
    · have hlt' : k < ss.length := by rw [HL.out]; exact hlt
      have hcell : W.cell? ⟨b, off + k, none⟩ = some (.string (ss.getD k ByteArray.empty)) := by
        have h5 := HC.out k hlt
        rw [FB.cell (p := ⟨b, off + k, none⟩) (block_lt_of_cell h5)]; exact h5
      have hsz := HS.out _ (getD_mem hlt')
      have HN := Lib.hid (cat_snoc hlt')
      obtain ⟨s, hse⟩ : ∃ s, ss.getD k ByteArray.empty = s := ⟨_, rfl⟩
      rw [hse] at hcell hsz HN
      unfold maxLen at hsz
      clear hse hlt'
      obtain ⟨X, hXe⟩ : ∃ X, Cp.on T (cat (ss.take k)) = X := ⟨_, rfl⟩
      have HX := Lib.hid hXe
      rw [hXe] at hX ⊢
      clear hXe
      go_wp2
      go_loop [6, 21] (fun a i => ∃ j : Nat, j ≤ s.size ∧ i = .int .i64 j ∧ a = .int .u32 (Cp.on X (s.data.toList.take j) : Nat)) (fun _ i => s.size - (intOf i).toNat)
      case atStart => exact ⟨0, Nat.zero_le _, rfl, rfl⟩
      case round =>
        obtain ⟨j, hj, rfl, rfl⟩ := hrel
        have hY := Cp.on_lt (s.data.toList.take j) hX
        by_cases hjl : j < s.size
        · have HJ := Lib.hid (on_snoc X s j hjl)
          obtain ⟨Y, hYe⟩ : ∃ Y, Cp.on X (s.data.toList.take j) = Y := ⟨_, rfl⟩
          rw [hYe] at hY HJ ⊢
          clear hYe
          have hb := s[j].toNat_lt
          have hxor := u32_xor_nat Y s[j].toNat (by omega) (by omega)
          obtain ⟨Z, hZe⟩ : ∃ Z, Y ^^^ s[j].toNat = Z := ⟨_, rfl⟩
          have hZ : Z < 4294967296 := by rw [← hZe]; exact Nat.xor_lt_two_pow (show Y < 2 ^ 32 from hY) (by omega)
          have HZ := Lib.hid (Cp.byte_fours Y s[j])
          rw [hZe] at hxor HZ
          clear hZe
          have c1 := tab_cell FT.out (j := Z % 16) (by omega)
          have x1 := four_bits hZ
          have hV := Cp.bitN_lt 4 hZ
          obtain ⟨V, hVe⟩ : ∃ V, Cp.bitN 4 Z = V := ⟨_, rfl⟩
          rw [hVe] at x1 HZ hV
          clear hVe
          have c2 := tab_cell FT.out (j := V % 16) (by omega)
          have x2 := four_bits hV
          go_wp2
          go_round
          case rel => exact ⟨j + 1, by omega, by go_num, by rw [HJ.out, HZ.out]⟩
          case measure => simp [intOf]; omega
        · have hj' : j = s.size := by omega
          have HR := Lib.hid hj'
          clear hj'
          go_wp2
          go_round
          case rel => exact ⟨k + 1, by omega, by go_num, by rw [HN.out, Cp.on_append, HX.out, HR.out, List.take_of_length_le (by simp)]⟩
          case measure => simp [intOf]; omega
    · have hk' : k = len := by omega
      subst hk'
      go_wp2
      go_ret
      refine ⟨?_, FB⟩
      refine congrArg (fun z => Ending.returned (.int .u32 z)) ?_
      rw [turn_bits hX, ← HT.out]
      unfold Cp.sum
      rw [List.take_of_length_le (Nat.le_of_eq HL.out)]

set_option maxRecDepth 100000 in
set_option maxHeartbeats 800000 in
theorem behind_none (x : Nat) (a : Option Addr) (cap : Nat) (w : World) (hx : x < 4294967296) :
    Calls Try.prog 36 #[.int .u32 (x : Int), .slice a 0 cap] w fun e w' => e = .returned (.int .u32 (x : Int)) ∧ Below w.heap.size w w' := by
  have htl := Cp.turn_lt x
  have HB := Lib.hid (turn_bits hx)
  have HTT := Lib.hid (Cp.turn_turn hx)
  obtain ⟨T, hT⟩ : ∃ T, Cp.turn x = T := ⟨_, rfl⟩
  rw [hT] at HB htl HTT
  clear hT
  go_enter Try.func36, Try.ntmps36
  go_wp2_with fail
  refine (table_any _).mono ?_
  rintro e w1 ⟨rfl, hb1⟩
  have F0 := Lib.hid (heap_alloc_new w1 (.cells (tabV 0) 64))
  rw [tabV_zero] at F0
  go_wp2_with (refine wpList_store_row rfl 64 _ _ rfl w1.heap.size (tabV 16) rfl rfl _ _ F0.out (info16 16) (by rw [tabV_size]; rfl) (tabV_one 16) ?_)
  have FB := Below.setRow (hb1.alloc hb1.size (.cells #[.int .u32 0, .int .u32 0, .int .u32 0, .int .u32 0, .int .u32 0, .int .u32 0, .int .u32 0, .int .u32 0, .int .u32 0, .int .u32 0, .int .u32 0, .int .u32 0, .int .u32 0, .int .u32 0, .int .u32 0, .int .u32 0] 64)) (tabV 16) hb1.size
  generalize (w1.alloc (.cells #[.int .u32 0, .int .u32 0, .int .u32 0, .int .u32 0, .int .u32 0, .int .u32 0, .int .u32 0, .int .u32 0, .int .u32 0, .int .u32 0, .int .u32 0, .int .u32 0, .int .u32 0, .int .u32 0, .int .u32 0, .int .u32 0] 64)).setRow w1.heap.size (tabV 16) = W at FB ⊢
  clear F0
  refine wp_loop_rounds 1 ?_
  rw [rounds_succ]
  go_wp2_with fail
  go_ret
  refine ⟨?_, FB⟩
  refine congrArg (fun z => Ending.returned (.int .u32 z)) ?_
  rw [HB.out, turn_bits htl, HTT.out]

/-- What stands behind bytes whose sum is x. -/
theorem behind_any (x : Nat) (v : Value) (ss : List ByteArray) (w : World) (hx : x < 4294967296) (h : IsStrs w v ss) :
    Calls Try.prog 36 #[.int .u32 (x : Int), v] w fun e w' => e = .returned (.int .u32 (Cp.sum x (cat ss) : Nat)) ∧ Below w.heap.size w w' := by
  obtain ⟨a, cap, rfl, h1, h2, h3⟩ := h
  rcases h3 with rfl | ⟨b, off, rfl, h4⟩
  · show Calls Try.prog 36 #[.int .u32 (x : Int), .slice a 0 cap] w _
    have e : Cp.sum x (cat []) = x := Cp.sum_nil hx
    rw [e]
    exact behind_none x a cap w hx
  · exact behind_some x ss b off cap w hx h1 h2 h4

set_option maxRecDepth 100000 in
set_option maxHeartbeats 800000 in
theorem sum_any (v : Value) (ss : List ByteArray) (w : World) (h : IsStrs w v ss) :
    Calls Try.prog 28 #[v] w fun e w' => e = .returned (.int .u32 (Cp.sum 0 (cat ss) : Nat)) ∧ Below w.heap.size w w' := by
  have C := Lib.hid (behind_any 0 v ss w (by omega) h)
  generalize Cp.sum 0 (cat ss) = y at C ⊢
  obtain ⟨a, cap, rfl, _⟩ := h
  generalize ss.length = len at C ⊢
  go_enter Try.func28, Try.ntmps28
  go_wp2_with fail
  refine C.out.mono ?_
  rintro e w1 ⟨rfl, hb1⟩
  go_wp2_with fail
  go_ret
  exact ⟨rfl, hb1⟩

theorem IsStrs.one (w : World) (s : ByteArray) (hs : s.size ≤ maxLen) : IsStrs (w.alloc (.cells #[.string s] 9)) (.slice (some ⟨w.heap.size, 0, none⟩) 1 1) [s] := by
  refine ⟨some ⟨w.heap.size, 0, none⟩, 1, rfl, by simp [maxLen], by simpa using hs, .inr ⟨_, _, rfl, fun i hi => ?_⟩⟩
  simp at hi
  subst hi
  exact cell_one_new w _ _ 0 _ rfl
theorem cat_one (s : ByteArray) : cat [s] = s.data.toList := by simp [cat]

end Go.Proofs.Ytcogeflljcefjaa
