/-
  What FrameTells answers: true, whatever it is given; nothing that was there is changed.
-/
import Derived.Test.YtnkgbmfpfdadjaaFrameRnext
namespace Go.Proofs.Ytnkgbmfpfdadjaa
open Go.RowKit

theorem aw_frame : Fr.fr [97] = [1, 196, 255, 110, 113, 97] := by decide +kernel
theorem aw_next : nxAt ⟨#[120, 1, 196, 255, 110, 113, 97, 121]⟩ 1 = .tuple #[.string ⟨#[97]⟩, .int .i64 7, .int .i64 0] := by
  have h := Fr.nx_fr [97] [121] (by decide)
  rw [aw_frame] at h
  have e := nxAt_in ⟨#[120, 1, 196, 255, 110, 113, 97, 121]⟩ 1
  exact e.trans (nxVal_yes (j := 6) (b := [97]) h)
theorem aw_size : sizeI 1 = 6 := by rfl

set_option maxRecDepth 100000 in
set_option maxHeartbeats 400000 in
theorem awake03 (w : World) : Calls Try.prog 8 #[] w fun e w' => e = .returned (.bool true) ∧ Below w.heap.size w w' := by
  have c1 := fun W : World => fput_yes ⟨#[97]⟩ W (by decide)
  rw [show (⟨#[97]⟩ : ByteArray).data.toList = [97] from rfl, aw_frame] at c1
  have c2 := fun W : World => fnext_any ⟨#[120, 1, 196, 255, 110, 113, 97, 121]⟩ 1 W (by decide)
  rw [aw_next] at c2
  have c3 := fun W : World => size_any 1 W (by omega) (by omega)
  rw [aw_size] at c3
  have C1 := Lib.hid c1
  have C2 := Lib.hid c2
  have C3 := Lib.hid c3
  clear c1 c2 c3
  go_enter Try.func8, Try.ntmps8
  go_wp2_with fail
  refine (C1.out _).mono ?_
  rintro e w1 ⟨rfl, b1⟩
  go_wp2_with fail
  refine (C2.out _).mono ?_
  rintro e w2 ⟨rfl, b2⟩
  go_wp2_with fail
  refine (C3.out _).mono ?_
  rintro e w3 ⟨rfl, rfl⟩
  go_wp2_with fail
  go_ret
  exact ⟨rfl, bel_trans2 b1 b2⟩

theorem nxAt_form (s : ByteArray) (i : Int) : ∃ (b : ByteArray) (n e : Int), nxAt s i = .tuple #[.string b, .int .i64 n, .int .i64 e] := by
  unfold nxAt
  split
  · exact ⟨_, _, _, rfl⟩
  · rcases Fr.nx_cases (s.data.toList.drop i.toNat) with ⟨e, he, h3⟩ | ⟨j, b, he, _⟩
    · exact ⟨_, _, _, nxVal_no he (by omega)⟩
    · exact ⟨_, _, _, nxVal_yes he⟩

theorem put_form (s : ByteArray) (hs : s.size ≤ maxLen) : ∃ (f : ByteArray) (e : Int),
    (∀ W : World, Calls Try.prog 9 #[.string s] W fun x W' => x = .returned (.tuple #[.string f, .int .i64 e]) ∧ Below W.heap.size W W') ∧
    (∀ W : World, Calls Try.prog 10 #[.string s] W fun x W' => x = .returned (.tuple #[.string f, .int .i64 e]) ∧ Below W.heap.size W W') := by
  by_cases h : Fr.May s.size
  · exact ⟨_, _, fun W => fput_yes s W h, fun W => rfput_yes s W h⟩
  · exact ⟨_, _, fun W => (fput_no s W h).mono fun _ _ ⟨he, hw⟩ => ⟨he, hw ▸ Below.refl _ _⟩, fun W => (rfput_no s W hs h).mono fun _ _ ⟨he, hw⟩ => ⟨he, hw ▸ Below.refl _ _⟩⟩

set_option maxRecDepth 100000 in
set_option maxHeartbeats 800000 in
theorem tells3_long (b s : ByteArray) (i : Int) (w : World) (h : 70000 < (b.size : Int) ∨ 2000 < (s.size : Int)) :
    Calls Try.prog 3 #[.string b, .string s, .int .i64 i] w fun e w' => e = .returned (.bool true) ∧ Below w.heap.size w w' := by
  by_cases h1 : 70000 < (b.size : Int)
  · clear h
    go_enter Try.func3, Try.ntmps3
    go_wp2_with fail
    refine (awake03 _).mono ?_
    rintro e w3 ⟨rfl, hbel⟩
    go_wp2_with fail
    go_ret
    exact ⟨rfl, hbel⟩
  · have h2 : 2000 < (s.size : Int) := by omega
    have h3 : decide (70000 < (b.size : Int)) = false := by simpa using h1
    clear h h1
    go_enter Try.func3, Try.ntmps3
    go_wp2_with fail
    refine (awake03 _).mono ?_
    rintro e w3 ⟨rfl, hbel⟩
    go_wp2_with fail
    go_ret
    exact ⟨rfl, hbel⟩

set_option maxRecDepth 100000 in
set_option maxHeartbeats 1600000 in
theorem tells3_short (b s : ByteArray) (i : Int) (w : World) (h1 : (b.size : Int) ≤ 70000) (h2 : (s.size : Int) ≤ 2000) (hlo : -9223372036854775808 ≤ i) (hhi : i ≤ 9223372036854775807) :
    Calls Try.prog 3 #[.string b, .string s, .int .i64 i] w fun e w' => e = .returned (.bool true) ∧ Below w.heap.size w w' := by
  obtain ⟨f, er, p1, p2⟩ := put_form b (by unfold maxLen; omega)
  obtain ⟨d, n, x, hn⟩ := nxAt_form s i
  have n1 := fun W : World => fnext_any s i W (by omega)
  have n2 := fun W : World => rfnext_any s i W (by omega)
  rw [hn] at n1 n2
  clear hn
  have s1 := fun W : World => size_any (b.size : Int) W (by omega) (by omega)
  have s2 := fun W : World => rsize_any (b.size : Int) W (by omega) (by omega)
  have s3 := fun W : World => size_any i W hlo hhi
  have s4 := fun W : World => rsize_any i W hlo hhi
  generalize sizeI (b.size : Int) = z1 at s1 s2
  generalize sizeI i = z2 at s3 s4
  have P1 := Lib.hid p1
  have P2 := Lib.hid p2
  have N1 := Lib.hid n1
  have N2 := Lib.hid n2
  have S1 := Lib.hid s1
  have S2 := Lib.hid s2
  have S3 := Lib.hid s3
  have S4 := Lib.hid s4
  have d1 : decide (70000 < (b.size : Int)) = false := by simp; omega
  have d2 : decide (2000 < (s.size : Int)) = false := by simp; omega
  clear p1 p2 n1 n2 s1 s2 s3 s4
  go_enter Try.func3, Try.ntmps3
  go_wp2_with fail
  refine (P1.out _).mono ?_
  rintro e w1 ⟨rfl, b1⟩
  go_wp2_with fail
  refine (P2.out _).mono ?_
  rintro e w2 ⟨rfl, b2⟩
  go_wp2_with fail
  refine (N1.out _).mono ?_
  rintro e w3 ⟨rfl, b3⟩
  go_wp2_with fail
  refine (N2.out _).mono ?_
  rintro e w4 ⟨rfl, b4⟩
  go_wp2_with fail
  refine (awake03 _).mono ?_
  rintro e w5 ⟨rfl, b5⟩
  go_wp2_with fail
  refine (S1.out _).mono ?_
  rintro e w6 ⟨rfl, rfl⟩
  go_wp2_with fail
  refine (S2.out _).mono ?_
  rintro e w7 ⟨rfl, b7⟩
  go_wp2_with fail
  refine (S3.out _).mono ?_
  rintro e w8 ⟨rfl, rfl⟩
  go_wp2_with fail
  refine (S4.out _).mono ?_
  rintro e w9 ⟨rfl, b9⟩
  go_wp2_with fail
  go_ret
  exact ⟨rfl, bel_trans2 (bel_trans2 (bel_trans2 (bel_trans2 (bel_trans2 (bel_trans2 b1 b2) b3) b4) b5) b7) b9⟩

end Go.Proofs.Ytnkgbmfpfdadjaa
