/-
  What the statements of layer 1 answer: true, whatever they are given; nothing that was there is changed.
-/
import Derived.Test.YtebjpiihapiklaaVarRref
import Derived.Deep.RegionHeld3
namespace Go.Proofs.Ytebjpiihapiklaa
open Go.RowKit

theorem aw_read1 : rdAt ⟨#[120, 172, 2, 121]⟩ 1 = .tuple #[.int .i64 300, .int .i64 3, .bool true] := by rfl
theorem aw_read2 : rdAt ⟨#[128, 0]⟩ 0 = .tuple #[.int .i64 0, .int .i64 0, .bool false] := by rfl
theorem aw_put : putI 300 = [172, 2] := by rfl

theorem below_drewN {B : Nat} {a w : World} (h : Below B a w) (n : Nat) : Below B a (w.drewN n) := ⟨h.os, h.tape, h.output, h.size, h.block⟩

theorem bel_trans {w w1 w2 : World} (h : Below w.heap.size w w1) (k : Below w1.heap.size w1 w2) : Below w.heap.size w w2 := h.trans (k.mono h.size)

set_option maxRecDepth 100000 in
set_option maxHeartbeats 400000 in
theorem awake01 (w : World) : Calls Try.prog 8 #[] w fun e w' => e = .returned (.bool true) ∧ Below w.heap.size w w' := by
  have c1 := fun W : World => read_any ⟨#[120, 172, 2, 121]⟩ 1 W (by decide)
  have c2 := fun W : World => read_any ⟨#[128, 0]⟩ 0 W (by decide)
  have c3 := fun W : World => put_any 300 W (by omega) (by omega)
  rw [aw_read1] at c1
  rw [aw_read2] at c2
  rw [aw_put] at c3
  have C1 := Lib.hid c1
  have C2 := Lib.hid c2
  have C3 := Lib.hid c3
  clear c1 c2 c3
  go_enter Try.func8, Try.ntmps8
  go_wp2_with fail
  refine (C1.out _).mono ?_
  rintro e w1 ⟨rfl, n1, rfl⟩
  go_wp2_with fail
  refine (C2.out _).mono ?_
  rintro e w2 ⟨rfl, n2, rfl⟩
  go_wp2_with fail
  refine (C3.out _).mono ?_
  rintro e w3 ⟨rfl, hb⟩
  go_wp2_with fail
  go_ret
  exact ⟨rfl, (below_drewN (Below.refl _ _) _).trans hb⟩

theorem putI_le (a : Int) : (putI a).length ≤ 9 := by
  unfold putI; split
  · simp
  · exact Vp.put_len_le _
theorem putI_pos {a : Int} (h : 0 ≤ a) : 1 ≤ (putI a).length := by
  unfold putI; rw [if_neg (by omega)]; exact Vp.put_len_pos _
theorem putI_mono {a b : Int} (h : a ≤ b) : (putI a).length ≤ (putI b).length := by
  unfold putI
  by_cases ha : a < 0
  · rw [if_pos ha]; simp
  · rw [if_neg ha, if_neg (by omega)]; exact Vp.put_mono (by omega)

set_option maxRecDepth 100000 in
set_option maxHeartbeats 800000 in
theorem rises (a b : Int) (w : World) (ha : -9223372036854775808 ≤ a ∧ a ≤ 9223372036854775807) (hb : -9223372036854775808 ≤ b ∧ b ≤ 9223372036854775807) :
    Calls Try.prog 6 #[.int .i64 a, .int .i64 b] w fun e w' => e = .returned (.bool true) ∧ Below w.heap.size w w' := by
  have m1 := putI_mono (a := min a b) (b := max a b) (by omega)
  have m2 := putI_le (max a b)
  have m3 : ¬ a < 0 → ¬ b < 0 → 1 ≤ (putI (min a b)).length := fun h1 h2 => putI_pos (by omega)
  have C1 := Lib.hid (fun W : World => len_any (min a b) W (by omega) (by omega))
  have C2 := Lib.hid (fun W : World => len_any (max a b) W (by omega) (by omega))
  obtain ⟨x, hx⟩ : ∃ x, (putI (min a b)).length = x := ⟨_, rfl⟩
  obtain ⟨y, hy⟩ : ∃ y, (putI (max a b)).length = y := ⟨_, rfl⟩
  rw [hx] at m1 m3 C1
  rw [hy] at m1 m2 C2
  clear hx hy
  have hxy : (x : Int) ≤ (y : Int) := by omega
  have hy9 : (y : Int) ≤ 9 := by omega
  clear m1 m2
  go_enter Try.func6, Try.ntmps6
  go_wp2_with fail
  refine (C1.out _).mono ?_
  rintro e w1 ⟨rfl, rfl⟩
  go_wp2_with fail
  refine (C2.out _).mono ?_
  rintro e w2 ⟨rfl, rfl⟩
  go_wp2_with fail
  refine (awake01 _).mono ?_
  rintro e w3 ⟨rfl, hbel⟩
  by_cases h1 : a < 0
  · clear m3
    go_wp2_with fail
    go_ret
    exact ⟨rfl, hbel⟩
  · by_cases h2 : b < 0
    · clear m3
      go_wp2_with fail
      go_ret
      exact ⟨rfl, hbel⟩
    · have hx1 : 1 ≤ (x : Int) := by have := m3 (by omega) (by omega); omega
      clear m3
      go_wp2_with fail
      go_ret
      exact ⟨rfl, hbel⟩

theorem rdAt_form (s : ByteArray) (i : Int) : ∃ (x y : Int) (c : Bool), rdAt s i = .tuple #[.int .i64 x, .int .i64 y, .bool c] := by
  unfold rdAt
  split
  · exact ⟨0, 0, false, rfl⟩
  · unfold rdVal
    cases Vp.take (s.data.toList.drop i.toNat) with
    | none => exact ⟨0, 0, false, rfl⟩
    | some p => exact ⟨p.1, _, true, rfl⟩

set_option maxRecDepth 100000 in
set_option maxHeartbeats 800000 in
theorem tells_long (n i : Int) (s : ByteArray) (w : World) (hl : 300 < (s.size : Int)) :
    Calls Try.prog 3 #[.int .i64 n, .string s, .int .i64 i] w fun e w' => e = .returned (.bool true) ∧ Below w.heap.size w w' := by
  go_enter Try.func3, Try.ntmps3
  go_wp2_with fail
  refine (awake01 _).mono ?_
  rintro e w3 ⟨rfl, hbel⟩
  go_wp2_with fail
  go_ret
  exact ⟨rfl, hbel⟩

set_option maxRecDepth 100000 in
set_option maxHeartbeats 800000 in
theorem tells_short (n i : Int) (s : ByteArray) (w : World) (hl : (s.size : Int) ≤ 300) (hn : -9223372036854775808 ≤ n ∧ n ≤ 9223372036854775807) :
    Calls Try.prog 3 #[.int .i64 n, .string s, .int .i64 i] w fun e w' => e = .returned (.bool true) ∧ Below w.heap.size w w' := by
  obtain ⟨x, y, c, hx⟩ := rdAt_form s i
  have C1 := Lib.hid (fun W : World => read_any s i W (by omega))
  have C2 := Lib.hid (fun W : World => rread_any s i W (by omega))
  rw [hx] at C1 C2
  clear hx
  have C3 := Lib.hid (fun W : World => put_any n W hn.1 hn.2)
  have C4 := Lib.hid (fun W : World => rput_any n W hn.1 hn.2)
  have C5 := Lib.hid (fun W : World => len_any n W hn.1 hn.2)
  have C6 := Lib.hid (fun W : World => rlen_any n W hn.1 hn.2)
  generalize putI n = p at *
  go_enter Try.func3, Try.ntmps3
  go_wp2_with fail
  refine (C1.out _).mono ?_
  rintro e w1 ⟨rfl, n1, rfl⟩
  go_wp2_with fail
  refine (C2.out _).mono ?_
  rintro e w2 ⟨rfl, b1⟩
  go_wp2_with fail
  refine (awake01 _).mono ?_
  rintro e w3 ⟨rfl, b2⟩
  go_wp2_with fail
  refine (C3.out _).mono ?_
  rintro e w4 ⟨rfl, b3⟩
  go_wp2_with fail
  refine (C4.out _).mono ?_
  rintro e w5 ⟨rfl, b4⟩
  go_wp2_with fail
  refine (C5.out _).mono ?_
  rintro e w6 ⟨rfl, rfl⟩
  go_wp2_with fail
  refine (C6.out _).mono ?_
  rintro e w7 ⟨rfl, b5⟩
  go_wp2_with fail
  go_ret
  exact ⟨rfl, bel_trans (bel_trans (bel_trans (bel_trans (bel_trans (below_drewN (Below.refl _ _) n1) b1) b2) b3) b4) b5⟩

set_option maxRecDepth 100000 in
set_option maxHeartbeats 800000 in
theorem back_long (n : Int) (s t : ByteArray) (w : World) (hl : 300 < (s.size : Int) ∨ 300 < (t.size : Int)) :
    Calls Try.prog 4 #[.int .i64 n, .string s, .string t] w fun e w' => e = .returned (.bool true) ∧ Below w.heap.size w w' := by
  by_cases h1 : 300 < (s.size : Int)
  · clear hl
    go_enter Try.func4, Try.ntmps4
    go_wp2_with fail
    refine (awake01 _).mono ?_
    rintro e w3 ⟨rfl, hbel⟩
    go_wp2_with fail
    go_ret
    exact ⟨rfl, hbel⟩
  · have h2 : 300 < (t.size : Int) := by omega
    clear hl
    go_enter Try.func4, Try.ntmps4
    go_wp2_with fail
    refine (awake01 _).mono ?_
    rintro e w3 ⟨rfl, hbel⟩
    go_wp2_with fail
    go_ret
    exact ⟨rfl, hbel⟩

set_option maxRecDepth 100000 in
set_option maxHeartbeats 800000 in
theorem back_neg (n : Int) (s t : ByteArray) (w : World) (h1 : (s.size : Int) ≤ 300) (h2 : (t.size : Int) ≤ 300) (hn : -9223372036854775808 ≤ n) (h0 : n < 0) :
    Calls Try.prog 4 #[.int .i64 n, .string s, .string t] w fun e w' => e = .returned (.bool true) ∧ Below w.heap.size w w' := by
  have e0 : putI n = [] := by unfold putI; rw [if_pos h0]
  have C3 := Lib.hid (fun W : World => put_any n W hn (by omega))
  have C5 := Lib.hid (fun W : World => len_any n W hn (by omega))
  rw [e0] at C3 C5
  clear e0
  go_enter Try.func4, Try.ntmps4
  go_wp2_with fail
  refine (C3.out _).mono ?_
  rintro e w4 ⟨rfl, b3⟩
  go_wp2_with fail
  refine (awake01 _).mono ?_
  rintro e w3 ⟨rfl, b1⟩
  go_wp2_with fail
  refine (C5.out _).mono ?_
  rintro e w6 ⟨rfl, rfl⟩
  go_wp2_with fail
  go_ret
  exact ⟨rfl, bel_trans b3 b1⟩

set_option maxRecDepth 100000 in
set_option maxHeartbeats 800000 in
theorem back_yes (n : Nat) (s t : ByteArray) (w : World) (h1 : (s.size : Int) ≤ 300) (h2 : (t.size : Int) ≤ 300) (hn : n ≤ 9223372036854775807) :
    Calls Try.prog 4 #[.int .i64 n, .string s, .string t] w fun e w' => e = .returned (.bool true) ∧ Below w.heap.size w w' := by
  have C3 := Lib.hid (fun W : World => put_any n W (by omega) (by omega))
  have C5 := Lib.hid (fun W : World => len_any n W (by omega) (by omega))
  rw [putI_nat] at C3 C5
  obtain ⟨p, hp⟩ : ∃ p, Vp.put n = p := ⟨_, rfl⟩
  have hpl := Vp.put_len_le n
  rw [hp] at hpl C3 C5
  have hrd : rdAt (s ++ ⟨p.toArray⟩ ++ t) (s.size : Int) = .tuple #[.int .i64 (n : Int), .int .i64 ((s.size : Int) + (p.length : Int)), .bool true] := by
    unfold rdAt
    rw [if_neg (by omega)]
    have e : (s ++ ⟨p.toArray⟩ ++ t).data.toList.drop ((s.size : Int)).toNat = p ++ t.data.toList := by
      have hs : s.size = s.data.toList.length := rfl
      rw [Int.toNat_natCast, ByteArray.data_append, ByteArray.data_append, Array.toList_append, Array.toList_append, hs]
      simp
    rw [e, ← hp]
    have := Vp.take_put n t.data.toList (by omega)
    rw [rdVal_some _ this, Int.toNat_natCast]
  have hsz : (s ++ ⟨p.toArray⟩ ++ t).size = s.size + p.length + t.size := by rw [ByteArray.size_append, ByteArray.size_append, size_mk_list p]
  have C1 := Lib.hid (fun W : World => read_any (s ++ ⟨p.toArray⟩ ++ t) (s.size : Int) W (by rw [hsz]; omega))
  rw [hrd] at C1
  clear hrd hp hsz
  go_enter Try.func4, Try.ntmps4
  go_wp2_with fail
  refine (C3.out _).mono ?_
  rintro e w4 ⟨rfl, b3⟩
  go_wp2_with fail
  refine (C1.out _).mono ?_
  rintro e w1 ⟨rfl, n1, rfl⟩
  go_wp2_with fail
  refine (awake01 _).mono ?_
  rintro e w3 ⟨rfl, b1⟩
  go_wp2_with fail
  refine (C5.out _).mono ?_
  rintro e w6 ⟨rfl, rfl⟩
  go_wp2_with fail
  go_ret
  exact ⟨rfl, bel_trans (below_drewN b3 n1) b1⟩

set_option maxRecDepth 100000 in
set_option maxHeartbeats 800000 in
theorem once_long (i : Int) (s : ByteArray) (w : World) (hl : 300 < (s.size : Int)) :
    Calls Try.prog 5 #[.string s, .int .i64 i] w fun e w' => e = .returned (.bool true) ∧ Below w.heap.size w w' := by
  go_enter Try.func5, Try.ntmps5
  go_wp2_with fail
  refine (awake01 _).mono ?_
  rintro e w3 ⟨rfl, hbel⟩
  go_wp2_with fail
  go_ret
  exact ⟨rfl, hbel⟩

set_option maxRecDepth 100000 in
set_option maxHeartbeats 800000 in
theorem once_no (i : Int) (s : ByteArray) (w : World) (hl : (s.size : Int) ≤ 300) (h : rdAt s i = .tuple #[.int .i64 0, .int .i64 0, .bool false]) :
    Calls Try.prog 5 #[.string s, .int .i64 i] w fun e w' => e = .returned (.bool true) ∧ Below w.heap.size w w' := by
  have C1 := Lib.hid (fun W : World => read_any s i W (by omega))
  rw [h] at C1
  clear h
  go_enter Try.func5, Try.ntmps5
  go_wp2_with fail
  refine (C1.out _).mono ?_
  rintro e w1 ⟨rfl, n1, rfl⟩
  go_wp2_with fail
  refine (awake01 _).mono ?_
  rintro e w3 ⟨rfl, b1⟩
  go_wp2_with fail
  go_ret
  exact ⟨rfl, bel_trans (below_drewN (Below.refl _ _) n1) b1⟩

set_option maxRecDepth 100000 in
set_option maxHeartbeats 800000 in
theorem once_yes (k m j : Nat) (s : ByteArray) (w : World) (hl : (s.size : Int) ≤ 300) (hk : k < s.size) (ht : Vp.take (s.data.toList.drop k) = some (m, j)) :
    Calls Try.prog 5 #[.string s, .int .i64 k] w fun e w' => e = .returned (.bool true) ∧ Below w.heap.size w w' := by
  have C1 := Lib.hid (fun W : World => read_any s k W (by omega))
  obtain ⟨q1, q2, q3, q4⟩ := Vp.take_some ht
  have hlen : (s.data.toList.drop k).length = s.size - k := by rw [List.length_drop]; rfl
  rw [hlen] at q3
  clear hlen
  have h : rdAt s (k : Int) = .tuple #[.int .i64 (m : Int), .int .i64 ((k : Int) + (j : Int)), .bool true] := by
    unfold rdAt
    rw [if_neg (by omega), Int.toNat_natCast, rdVal_some _ ht]
  rw [h] at C1
  clear h
  have hb := Vp.put_take ht
  have C3 := Lib.hid (fun W : World => put_any m W (by omega) (by omega))
  rw [putI_nat] at C3
  obtain ⟨p, hp⟩ : ∃ p, Vp.put m = p := ⟨_, rfl⟩
  rw [hp] at C3 hb
  clear hp ht
  have hq : (p == (s.extract k (k + j)).toList) = true := by
    rw [Lib.toList_data, Lib.extract_data, show k + j - k = j from by omega, hb]
    simp
  clear hb
  have hsl : ∀ w : World, (Instr.slice 9 (.string s) (some (.int .i64 (k : Int))) (some (.int .i64 ((k : Int) + (j : Int)))) none).run Try.prog w = .ok (.string (s.extract k (k + j))) w := by
    intro w
    rw [run_slice_string (P := Try.prog) w 9 s .i64 .i64 (k : Int) ((k : Int) + (j : Int)) Try.underlying9 (by omega) (by omega) (by omega)]
    congr 3
  have hb1 : (k : Int) ≤ (k : Int) + (j : Int) := by omega
  have hb2 : (k : Int) + (j : Int) ≤ (s.size : Int) := by omega
  have hb3 : 0 ≤ (k : Int) + (j : Int) := by omega
  have hb4 : (k : Int) < (k : Int) + (j : Int) := by omega
  go_enter Try.func5, Try.ntmps5
  go_wp2_with fail
  refine (C1.out _).mono ?_
  rintro e w1 ⟨rfl, n1, rfl⟩
  go_wp2_with fail
  go_region_held3 (fun _ => True) (trivial) (first | (go_at_call 8; refine (awake01 _).mono ?_; rintro e w3 ⟨rfl, b1⟩) | (go_at_call 11; refine (C3.out _).mono ?_; rintro e w4 ⟨rfl, b2⟩))
  go_wp2_with fail
  go_ret
  exact ⟨rfl, bel_trans (bel_trans (below_drewN (Below.refl _ _) n1) (below_of_drew b1)) b2⟩

end Go.Proofs.Ytebjpiihapiklaa
