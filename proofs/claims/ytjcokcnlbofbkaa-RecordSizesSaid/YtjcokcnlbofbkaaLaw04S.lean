/-
  What RecordSizes answers: true, whatever it is given; nothing that was there is changed.
-/
import Derived.Test.YtjcokcnlbofbkaaLaw04T
namespace Go.Proofs.Ytjcokcnlbofbkaa
open Go.RowKit

set_option maxRecDepth 100000 in
set_option maxHeartbeats 800000 in
theorem sizes4_long (r : Rp.Rec) (n : Int) (w : World) (h : 300 < (r.d.size : Int)) :
    Calls Try.prog 7 #[recVal r, .int .u8 n] w fun e w' => e = .returned (.bool true) ∧ Below w.heap.size w w' := by
  unfold recVal
  go_enter Try.func7, Try.ntmps7
  go_wp2_with fail
  refine (awake04 _).mono ?_
  rintro e w3 ⟨rfl, hbel⟩
  go_wp2_with fail
  go_ret
  exact ⟨rfl, bel_of_alloc hbel⟩

/-- The sizes of a record and of one with more data. -/
theorem more_yes {r : Rp.Rec} (h : Rp.Ok r) (d : ByteArray) (k : Nat) (hd : d.size = r.d.size + k) : (Rp.putB ⟨r.a, r.t, d⟩).length = 0 ∨ (Rp.putB ⟨r.a, r.t, d⟩).length = (Rp.putB r).length + k := by
  by_cases h2 : Rp.Ok ⟨r.a, r.t, d⟩
  · exact .inr (Rp.size_more (r := r) (r2 := ⟨r.a, r.t, d⟩) rfl rfl h h2 hd)
  · exact .inl (by rw [Rp.putB_no (Rp.fault_pos h2)]; rfl)
theorem more_no {r : Rp.Rec} (h : ¬ Rp.Ok r) (d : ByteArray) (k : Nat) (hd : d.size = r.d.size + k) : (Rp.putB ⟨r.a, r.t, d⟩).length = 0 := by
  have h2 : ¬ Rp.Ok ⟨r.a, r.t, d⟩ := by
    intro h3
    obtain ⟨a0, a1, t0, t1, dl⟩ := h3
    refine h ⟨a0, a1, t0, t1, ?_⟩
    have : d.size ≤ 64 := dl
    omega
  rw [Rp.putB_no (Rp.fault_pos h2)]
  rfl
/-- What the loop keeps: the copy's cells, its data so many bytes longer. -/
def Grow (w : World) (c : Nat) (r : Rp.Rec) (k : Nat) (wr : World) : Prop :=
  ∃ d : ByteArray, d.size = r.d.size + k ∧ wr.heap[c]? = some (.cells #[.int .i64 r.a, .int .i64 r.t, .string d] 23 (0, 0)) ∧ Below w.heap.size w wr
theorem x_len (d : ByteArray) : (d ++ ⟨#[120]⟩ : ByteArray).size = d.size + 1 := by rw [ByteArray.size_append]; rfl
theorem set_two {w : World} {c : Nat} {x y z : Value} {T : TypeId} (h : w.heap[c]? = some (.cells #[x, y, z] T (0, 0))) (u : Value) : (w.setCell ⟨c, 2, none⟩ u).heap[c]? = some (.cells #[x, y, u] T (0, 0)) :=
  heap_setCell_same w c 2 #[x, y, z] T u h

set_option maxRecDepth 100000 in
set_option maxHeartbeats 1600000 in
theorem sizes4_yes (r : Rp.Rec) (n : Int) (w : World) (h : (r.d.size : Int) ≤ 300) (n0 : 0 ≤ n) (n1 : n ≤ 255) (hok : Rp.Ok r) :
    Calls Try.prog 7 #[recVal r, .int .u8 n] w fun e w' => e = .returned (.bool true) ∧ Below w.heap.size w w' := by
  have P := fun W : World => recput_any r W (by omega)
  have S := fun W : World => recsize_any r W (by omega)
  have X := Lib.hid fun (d : ByteArray) (hd : d.size ≤ 400) (W : World) => recsize_any ⟨r.a, r.t, d⟩ W (by show d.size ≤ _; omega)
  have hm := Lib.hid (more_yes hok)
  have b1 := Rp.putB_le r
  have b2 := Rp.putB_pos hok
  unfold putVal at P
  rw [Rp.fault_zero hok] at P
  generalize Rp.putB r = B at *
  have q0 : 0 ≤ n % 4 := by omega
  have q1 : n % 4 < 4 := by omega
  have g1 : (0 : Int) < (B.length : Int) := by omega
  have g2 : (B.length : Int) ≤ 82 := by omega
  have hd1 : decide (300 < (r.d.size : Int)) = false := by simp; omega
  have hd2 : decide (82 < (B.length : Int)) = false := by simp; omega
  have P := Lib.hid P
  have S := Lib.hid S
  clear hok b1 b2
  unfold recVal at *
  go_enter Try.func7, Try.ntmps7
  go_wp2_with fail
  refine (P.out _).mono ?_
  rintro e w1 ⟨rfl, b1⟩
  obtain ⟨x0, x1, x2, bb1⟩ := box_keep (box_new w _ _ _ _) b1
  go_wp2_with fail
  refine (S.out _).mono ?_
  rintro e w2 ⟨rfl, b2⟩
  have y0 := keep1 x0 b2
  have y1 := keep1 x1 b2
  have y2 := keep1 x2 b2
  have b02 := bel_trans2 bb1 b2
  clear x0 x1 x2 b1 b2 bb1
  go_wp2_with fail
  have hg : Grow w w2.heap.size r 0 (w2.alloc (.cells #[.int .i64 r.a, .int .i64 r.t, .string r.d] 23)) := ⟨r.d, rfl, heap_alloc_new w2 _, b02.alloc b02.size _⟩
  have HW := Lib.hid b02.size
  generalize World.alloc w2 _ = w3 at hg ⊢
  generalize w2.heap.size = c at *
  clear y0 y1 y2 b02
  go_loopw [9] (fun i wr => ∃ k : Nat, (k : Int) ≤ n % 4 ∧ i = .int .i64 k ∧ Grow w c r k wr) (fun i _ => (n % 4 - intOf i).toNat)
  case atStart => exact ⟨0, by omega, rfl, hg⟩
  case round =>
    obtain ⟨k, hk, rfl, hgr⟩ := hrel
    by_cases hlt : (k : Int) < n % 4
    · obtain ⟨d, hd, hb, hbel⟩ := hgr
      have HD := Lib.hid hd
      have HB := Lib.hid hb
      have z2 : wr.cell? ⟨c, 2, none⟩ = some (.string d) := by rw [Lib.cell_of_heap hb]; rfl
      have f2 : wr.frozen? ⟨c, 2, none⟩ = false := Lib.frozen_of_heap hb 2
      have hdl : (d.size : Int) ≤ 400 := by omega
      clear hd hb
      go_wp2_with fail
      go_roundw
      case rel =>
        exact ⟨k + 1, by omega, by go_num, _, by rw [x_len, HD.out]; omega, set_two HB.out _, hbel.setCell (p := ⟨c, 2, none⟩) HW.out _⟩
      case measure => simp [intOf]; omega
    · obtain ⟨d, hd, hb, hbel⟩ := hgr
      have X1 := X.out d (by omega)
      have hm1 := hm.out d k hd
      generalize (Rp.putB ⟨r.a, r.t, d⟩).length = M at *
      have X1 := Lib.hid X1
      have z0 : wr.cell? ⟨c, 0, none⟩ = some (.int .i64 r.a) := by rw [Lib.cell_of_heap hb]; rfl
      have z1 : wr.cell? ⟨c, 1, none⟩ = some (.int .i64 r.t) := by rw [Lib.cell_of_heap hb]; rfl
      have z2 : wr.cell? ⟨c, 2, none⟩ = some (.string d) := by rw [Lib.cell_of_heap hb]; rfl
      have hkq : (k : Int) = n % 4 := by omega
      clear hd hb
      have hb0 : ((B.length : Int) == 0) = false := beq_eq_false_iff_ne.2 (by omega)
      rcases hm1 with rfl | rfl
      · have X1 : Hid (∀ (W : World), Calls Try.prog 15 #[.agg #[.int .i64 r.a, .int .i64 r.t, .string d]] W fun e w' => e = .returned (.int .i64 0) ∧ Below W.heap.size W w') := X1
        clear hkq
        go_wp2_with fail
        refine (X1.out _).mono ?_
        rintro e w4 ⟨rfl, b4⟩
        go_wp2_with fail
        refine (awake04 _).mono ?_
        rintro e w5 ⟨rfl, b5⟩
        go_wp2_with fail
        go_ret
        exact ⟨rfl, bel_trans2 (bel_trans2 hbel b4) b5⟩
      · have hM0 : (((B.length + k : Nat) : Int) == 0) = false := beq_eq_false_iff_ne.2 (by omega)
        have hM1 : (B.length : Int) + n % 4 ≤ ((B.length + k : Nat) : Int) := by omega
        generalize B.length + k = M at *
        clear hkq
        go_wp2_with fail
        refine (X1.out _).mono ?_
        rintro e w4 ⟨rfl, b4⟩
        go_wp2_with fail
        refine (awake04 _).mono ?_
        rintro e w5 ⟨rfl, b5⟩
        go_wp2_with fail
        go_ret
        exact ⟨rfl, bel_trans2 (bel_trans2 hbel b4) b5⟩

set_option maxRecDepth 100000 in
set_option maxHeartbeats 1600000 in
theorem sizes4_no (r : Rp.Rec) (n : Int) (w : World) (h : (r.d.size : Int) ≤ 300) (n0 : 0 ≤ n) (n1 : n ≤ 255) (hok : ¬ Rp.Ok r) :
    Calls Try.prog 7 #[recVal r, .int .u8 n] w fun e w' => e = .returned (.bool true) ∧ Below w.heap.size w w' := by
  have P := fun W : World => recput_any r W (by omega)
  have S := fun W : World => recsize_any r W (by omega)
  have X : ∀ (d : ByteArray) (k : Nat), d.size ≤ 400 → d.size = r.d.size + k → ∀ W : World, Calls Try.prog 15 #[.agg #[.int .i64 r.a, .int .i64 r.t, .string d]] W fun e w' => e = .returned (.int .i64 0) ∧ Below W.heap.size W w' := by
    intro d k hd hk W
    have := recsize_any ⟨r.a, r.t, d⟩ W (by show d.size ≤ _; omega)
    rw [more_no hok d k hk] at this
    exact this
  have X := Lib.hid X
  rw [Rp.putB_no (Rp.fault_pos hok)] at S
  obtain ⟨_, e0, he, hf, hv⟩ := (putVal_cases r).resolve_left (fun hh => hok hh.1)
  rw [hv] at P
  have q0 : 0 ≤ n % 4 := by omega
  have q1 : n % 4 < 4 := by omega
  have hd1 : decide (300 < (r.d.size : Int)) = false := by simp; omega
  have P := Lib.hid P
  have S : Hid (∀ W : World, Calls Try.prog 15 #[recVal r] W fun e w' => e = .returned (.int .i64 0) ∧ Below W.heap.size W w') := Lib.hid S
  clear hok hf hv
  unfold recVal at *
  rcases he with rfl | rfl
  all_goals
    go_enter Try.func7, Try.ntmps7
    go_wp2_with fail
    refine (P.out _).mono ?_
    rintro e w1 ⟨rfl, b1⟩
    obtain ⟨x0, x1, x2, bb1⟩ := box_keep (box_new w _ _ _ _) b1
    go_wp2_with fail
    refine (S.out _).mono ?_
    rintro e w2 ⟨rfl, b2⟩
    have y0 := keep1 x0 b2
    have y1 := keep1 x1 b2
    have y2 := keep1 x2 b2
    have b02 := bel_trans2 bb1 b2
    clear x0 x1 x2 b1 b2 bb1
    go_wp2_with fail
    have hg : Grow w w2.heap.size r 0 (w2.alloc (.cells #[.int .i64 r.a, .int .i64 r.t, .string r.d] 23)) := ⟨r.d, rfl, heap_alloc_new w2 _, b02.alloc b02.size _⟩
    have HW := Lib.hid b02.size
    generalize World.alloc w2 _ = w3 at hg ⊢
    generalize w2.heap.size = c at *
    clear y0 y1 y2 b02
    go_loopw [9] (fun i wr => ∃ k : Nat, (k : Int) ≤ n % 4 ∧ i = .int .i64 k ∧ Grow w c r k wr) (fun i _ => (n % 4 - intOf i).toNat)
    case atStart => exact ⟨0, by omega, rfl, hg⟩
    case round =>
      obtain ⟨k, hk, rfl, hgr⟩ := hrel
      by_cases hlt : (k : Int) < n % 4
      · obtain ⟨d, hd, hb, hbel⟩ := hgr
        have HD := Lib.hid hd
        have HB := Lib.hid hb
        have z2 : wr.cell? ⟨c, 2, none⟩ = some (.string d) := by rw [Lib.cell_of_heap hb]; rfl
        have f2 : wr.frozen? ⟨c, 2, none⟩ = false := Lib.frozen_of_heap hb 2
        have hdl : (d.size : Int) ≤ 400 := by omega
        clear hd hb
        go_wp2_with fail
        go_roundw
        case rel =>
          exact ⟨k + 1, by omega, by go_num, _, by rw [x_len, HD.out]; omega, set_two HB.out _, hbel.setCell (p := ⟨c, 2, none⟩) HW.out _⟩
        case measure => simp [intOf]; omega
      · obtain ⟨d, hd, hb, hbel⟩ := hgr
        have X1 := Lib.hid (X.out d k (by omega) hd)
        have z0 : wr.cell? ⟨c, 0, none⟩ = some (.int .i64 r.a) := by rw [Lib.cell_of_heap hb]; rfl
        have z1 : wr.cell? ⟨c, 1, none⟩ = some (.int .i64 r.t) := by rw [Lib.cell_of_heap hb]; rfl
        have z2 : wr.cell? ⟨c, 2, none⟩ = some (.string d) := by rw [Lib.cell_of_heap hb]; rfl
        clear hd hb
        go_wp2_with fail
        refine (X1.out _).mono ?_
        rintro e w4 ⟨rfl, b4⟩
        go_wp2_with fail
        refine (awake04 _).mono ?_
        rintro e w5 ⟨rfl, b5⟩
        go_wp2_with fail
        go_ret
        exact ⟨rfl, bel_trans2 (bel_trans2 hbel b4) b5⟩

theorem sizes4 (r : Rp.Rec) (n : Int) (w : World) (n0 : 0 ≤ n) (n1 : n ≤ 255) :
    Calls Try.prog 7 #[recVal r, .int .u8 n] w fun e w' => e = .returned (.bool true) ∧ Below w.heap.size w w' := by
  by_cases h : 300 < (r.d.size : Int)
  · exact sizes4_long r n w h
  · by_cases hok : Rp.Ok r
    · exact sizes4_yes r n w (by omega) n0 n1 hok
    · exact sizes4_no r n w (by omega) n0 n1 hok

end Go.Proofs.Ytjcokcnlbofbkaa
