/-
  What SegmentScans and SegmentReads answer: true, whatever they are given; nothing that was there is changed.
-/
import Derived.Test.YtfodcgipdhppmaaLaw09A
import Derived.Test.YtfodcgipdhppmaaRecSame
import Derived.BigQuiet
namespace Go.Proofs.Ytfodcgipdhppmaa
open Go.RowKit Go.Proofs.Ytfodcgipdhppmaa.Mks

set_option maxRecDepth 100000 in
set_option maxHeartbeats 1600000 in
theorem scans9 (s : ByteArray) (base every : Int) (w : World) (hs : s.size ≤ 9223372036854775807) (h1 : -9223372036854775808 ≤ base) (h2 : base ≤ 9223372036854775807) (h3 : 0 ≤ every) (h4 : every ≤ 255) :
    Calls Try.prog 3 #[.string s, .int .i64 base, .int .u8 every] w fun e w' => e = .returned (.bool true) ∧ Below w.heap.size w w' := by
  have AW := Lib.hid fun W : World => awake09 W
  by_cases hl : 2000 < s.size
  · have i1 : (2000 : Int) < (s.size : Int) := by omega
    go_enter Try.func3, Try.ntmps3
    go_wp2_with fail
    refine (AW.out _).mono ?_
    rintro e w1 ⟨rfl, b1⟩
    go_wp2_with fail
    go_ret
    exact ⟨rfl, b1⟩
  · have i1 : decide ((2000 : Int) < (s.size : Int)) = false := by simp; omega
    have i2 : ¬ ((2000 : Int) < (s.size : Int)) := by omega
    have hs0 : s.size ≤ 1000000000 := by omega
    have S1 := fun W : World => scan9_any s base W hs0 h1 h2
    have S2 := fun W : World => rscan9_any s base W (by omega) h1 h2
    have X1 := fun W : World => index9_any s base (1 + every) W hs0 h1 h2 (by omega) (by omega)
    have X2 := fun W : World => rindex9_got s base (1 + every) W hs0 h1 h2 (by omega) (by omega)
    generalize Gp.full s.data.toList base = F at *
    obtain ⟨ps, k, er⟩ := F
    dsimp only at S1 S2 X1 X2
    generalize Gp.ix ps base (1 + every) ps.length = L at *
    replace S1 := Lib.hid S1
    replace S2 := Lib.hid S2
    replace X1 := Lib.hid X1
    replace X2 := Lib.hid X2
    go_enter Try.func3, Try.ntmps3
    go_wp2_with fail
    refine (S1.out _).mono ?_
    rintro e w1 ⟨v1, rfl, hv1, b1⟩
    have HV1 := Lib.hid hv1
    have B1 := Lib.hid b1
    clear b1 hv1
    dsimp only
    go_wp2_with fail
    refine (S2.out _).mono ?_
    rintro e w2 ⟨v2, rfl, hv2, b2⟩
    have HV2 := Lib.hid hv2
    have HV1' := Lib.hid (HV1.out.below b2 (Nat.le_refl _))
    have B2 := Lib.hid (B1.out.trans (b2.mono B1.out.size))
    clear b2 hv2
    dsimp only
    go_wp2_with fail
    refine (AW.out _).mono ?_
    rintro e w3 ⟨rfl, b3⟩
    have SM := Lib.hid (recsame_yes v1 v2 (ps.map Prod.fst) w3 (HV1'.out.below b3 (Nat.le_refl _)) (HV2.out.below b3 (Nat.le_refl _)))
    have B3 := Lib.hid (B2.out.trans (b3.mono B2.out.size))
    clear b3
    go_wp2_with fail
    refine SM.out.mono ?_
    rintro e w4 ⟨rfl, n4, rfl⟩
    have B4 := Lib.hid (B3.out.trans ((bel_drewN n4).mono B3.out.size))
    generalize w3.drewN n4 = w4 at B4 ⊢
    clear SM
    go_wp2_with fail
    refine (X1.out _).mono ?_
    rintro e w5 ⟨v5, rfl, hv5, b5⟩
    have HV5 := Lib.hid hv5
    have B5 := Lib.hid (B4.out.trans (b5.mono B4.out.size))
    clear hv5 b5
    go_wp2_with fail
    refine (X2.out _).mono ?_
    rintro e w6 ⟨v6, rfl, hv6, b6⟩
    have SM := Lib.hid (rsame08_yes v5 v6 L w6 (HV5.out.keep b6) hv6)
    have B6 := Lib.hid (B5.out.trans (b6.mono B5.out.size))
    clear hv6 b6
    go_wp2_with fail
    refine SM.out.mono ?_
    rintro e w7 ⟨rfl, n7, rfl⟩
    go_wp2_with fail
    go_ret
    exact ⟨by first | rfl | simp, B6.out.trans ((bel_drewN n7).mono B6.out.size)⟩

/-- An ask, as it comes in: four cells. -/
structure Ask9 where
  s : ByteArray
  base : Int
  off : Int
  every : Int
structure Ask9.Ok (x : Ask9) : Prop where
  s : x.s.size ≤ 9223372036854775807
  b : -9223372036854775808 ≤ x.base ∧ x.base ≤ 9223372036854775807
  o : -9223372036854775808 ≤ x.off ∧ x.off ≤ 9223372036854775807
  e : 0 ≤ x.every ∧ x.every ≤ 255
def Ask9.val (x : Ask9) : Value := .agg #[.string x.s, .int .i64 x.base, .int .i64 x.off, .int .u8 x.every]

set_option maxRecDepth 100000 in
set_option maxHeartbeats 1600000 in
theorem reads9 (s : ByteArray) (base off every : Int) (w : World) (hs : s.size ≤ 9223372036854775807) (h1 : -9223372036854775808 ≤ base) (h2 : base ≤ 9223372036854775807) (h5 : -9223372036854775808 ≤ off) (h6 : off ≤ 9223372036854775807) (h3 : 0 ≤ every) (h4 : every ≤ 255) :
    Calls Try.prog 4 #[.agg #[.string s, .int .i64 base, .int .i64 off, .int .u8 every]] w fun e w' => e = .returned (.bool true) ∧ Below w.heap.size w w' := by
  have AW := Lib.hid fun W : World => awake09 W
  have HA := Lib.hid ((Below.refl w.heap.size w).alloc (Nat.le_refl _) (.cells #[.string s, .int .i64 base, .int .i64 off, .int .u8 every] 33))
  have G0 := heap_alloc_new w (.cells #[.string s, .int .i64 base, .int .i64 off, .int .u8 every] 33)
  have q0 : (w.alloc (.cells #[.string s, .int .i64 base, .int .i64 off, .int .u8 every] 33)).cell? ⟨w.heap.size, 0, none⟩ = some (.string s) := by rw [cell_of_row _ _ 0 _ _ _ G0]; rfl
  have q1 : (w.alloc (.cells #[.string s, .int .i64 base, .int .i64 off, .int .u8 every] 33)).cell? ⟨w.heap.size, 1, none⟩ = some (.int .i64 base) := by rw [cell_of_row _ _ 1 _ _ _ G0]; rfl
  have q2 : (w.alloc (.cells #[.string s, .int .i64 base, .int .i64 off, .int .u8 every] 33)).cell? ⟨w.heap.size, 2, none⟩ = some (.int .i64 off) := by rw [cell_of_row _ _ 2 _ _ _ G0]; rfl
  have q3 : (w.alloc (.cells #[.string s, .int .i64 base, .int .i64 off, .int .u8 every] 33)).cell? ⟨w.heap.size, 3, none⟩ = some (.int .u8 every) := by rw [cell_of_row _ _ 3 _ _ _ G0]; rfl
  clear G0
  by_cases hl : 2000 < s.size
  · have i1 : (2000 : Int) < (s.size : Int) := by omega
    go_enter Try.func4, Try.ntmps4
    go_wp2_with fail
    generalize World.alloc w _ = w0 at HA q0 q1 q2 q3 ⊢
    go_quiet (fail)
    have B0 := Lib.hid (HA.out.trans ((bel_drewN nq).mono HA.out.size))
    go_wp2_with fail
    refine (AW.out _).mono ?_
    rintro e w1 ⟨rfl, b1⟩
    go_wp2_with fail
    go_ret
    exact ⟨rfl, B0.out.trans (b1.mono B0.out.size)⟩
  · have i1 : decide ((2000 : Int) < (s.size : Int)) = false := by simp; omega
    have i2 : ¬ ((2000 : Int) < (s.size : Int)) := by omega
    have hs0 : s.size ≤ 1000000000 := by omega
    have X2 := fun W : World => rindex9_got s base (1 + every) W hs0 h1 h2 (by omega) (by omega)
    have R1 := fun (W : World) (v : Value) hv => read9_any s base (1 + every) off v W hs0 h1 h2 (by omega) (by omega) h5 h6 hv
    have R2 := fun W : World => rread9_any s base off W (by omega) h1 h2
    generalize Gp.full s.data.toList base = F at *
    obtain ⟨ps, k, er⟩ := F
    dsimp only at X2 R1 R2
    generalize Gp.ix ps base (1 + every) ps.length = L at *
    unfold rdVal9 recVal at R1 R2
    rcases hR : Gp.rd ps base off with ⟨⟨ra, rt, rd⟩, re⟩
    rw [hR] at R1 R2
    dsimp only at R1 R2
    replace X2 := Lib.hid X2
    replace R1 := Lib.hid R1
    replace R2 := Lib.hid R2
    clear hR
    go_enter Try.func4, Try.ntmps4
    go_wp2_with fail
    generalize World.alloc w _ = w0 at HA q0 q1 q2 q3 ⊢
    go_quiet (fail)
    have B0 := Lib.hid (HA.out.trans ((bel_drewN nq).mono HA.out.size))
    clear q0 q1 q2 q3
    go_wp2_with fail
    generalize w0.drewN nq = w1 at B0 ⊢
    refine (X2.out _).mono ?_
    rintro e w2 ⟨v2, rfl, hv2, b2⟩
    have R12 := Lib.hid (R1.out _ _ hv2)
    have B2 := Lib.hid (B0.out.trans (b2.mono B0.out.size))
    clear hv2 b2
    go_wp2_with fail
    refine R12.out.mono ?_
    rintro e w3 ⟨rfl, b3⟩
    have B3 := Lib.hid (B2.out.trans (b3.mono B2.out.size))
    have G4 := Lib.hid (heap_alloc_new w3 (.cells #[.int .i64 ra, .int .i64 rt, .string rd] 35))
    have B4 := Lib.hid (B3.out.alloc B3.out.size (.cells #[.int .i64 ra, .int .i64 rt, .string rd] 35))
    clear b3
    go_wp2_with fail
    refine (R2.out _).mono ?_
    rintro e w5 ⟨rfl, b5⟩
    have G5 := Lib.hid (hkeep2 G4.out b5)
    have B5 := Lib.hid (B4.out.trans (b5.mono B4.out.size))
    have hx := (Array.getElem?_eq_some_iff.1 G5.out).1
    obtain ⟨tb, htb⟩ : ∃ tb, w3.heap.size = tb := ⟨_, rfl⟩
    rw [htb] at G5 hx ⊢
    clear b5 htb G4
    have G6 := Lib.hid (heap_alloc_new w5 (.cells #[.int .i64 ra, .int .i64 rt, .string rd] 35))
    have D6 := Lib.hid ((Below.refl w5.heap.size w5).alloc (Nat.le_refl _) (.cells #[.int .i64 ra, .int .i64 rt, .string rd] 35))
    have B6 := Lib.hid (B5.out.alloc B5.out.size (.cells #[.int .i64 ra, .int .i64 rt, .string rd] 35))
    go_wp2_with fail
    refine (AW.out _).mono ?_
    rintro e w7 ⟨rfl, b7⟩
    have B7 := Lib.hid (B6.out.trans (b7.mono B6.out.size))
    obtain ⟨x0, x1, x2⟩ := cells3 (hkeep2 (hkeep2 G5.out D6.out) b7)
    obtain ⟨y0, y1, y2⟩ := cells3 (hkeep2 G6.out b7)
    clear b7
    go_wp2_with fail
    go_ret
    exact ⟨by first | rfl | simp, B7.out⟩

end Go.Proofs.Ytfodcgipdhppmaa
