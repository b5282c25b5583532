/-
  What the statements' example of layer 7 answers, and what NameTells, NameBack and NameOnce answer: true, whatever they are given; nothing that was there is changed.
-/
import Derived.Test.YtgidaljhfngiaaaNameRkind
namespace Go.Proofs.Ytgidaljhfngiaaa
open Go.RowKit Go.Lib Nm

theorem aw7_kind : kindVal ⟨#[116, 48, 48, 48, 48, 48, 48, 48, 48, 48, 48, 48, 48, 55]⟩ = .tuple #[.int .u8 116, .int .i64 7] := kindVal_of (by decide +kernel : Np.kind _ = (116, 7))
theorem aw7_seg : Np.nameL 115 42 = [115, 48, 48, 48, 48, 48, 48, 48, 48, 48, 48, 48, 52, 50] := by decide +kernel

set_option maxRecDepth 100000 in
set_option maxHeartbeats 400000 in
theorem awake07 (w : World) : Calls Try.prog 6 #[] w fun e w' => e = .returned (.bool true) ∧ Below w.heap.size w w' := by
  have c1 := fun W : World => kind_any ⟨#[116, 48, 48, 48, 48, 48, 48, 48, 48, 48, 48, 48, 48, 55]⟩ W
  rw [aw7_kind] at c1
  have c2 := fun W : World => seg_any 42 W (by omega)
  rw [aw7_seg] at c2
  replace c1 := Lib.hid c1
  replace c2 := Lib.hid c2
  go_enter Try.func6, Try.ntmps6
  go_wp2_with fail
  refine (c1.out _).mono ?_
  rintro e w1 ⟨rfl, rfl⟩
  go_wp2_with fail
  refine (c2.out _).mono ?_
  rintro e w2 ⟨rfl, b2⟩
  go_wp2_with fail
  go_ret
  exact ⟨rfl, b2⟩

set_option maxRecDepth 100000 in
set_option maxHeartbeats 800000 in
theorem tells7_long (n : Int) (s : ByteArray) (w : World) (h : 100 < (s.size : Int)) :
    Calls Try.prog 3 #[.int .i64 n, .string s] w fun e w' => e = .returned (.bool true) ∧ Below w.heap.size w w' := by
  go_enter Try.func3, Try.ntmps3
  go_wp2_with fail
  refine (awake07 _).mono ?_
  rintro e w3 ⟨rfl, b3⟩
  go_wp2_with fail
  go_ret
  exact ⟨rfl, b3⟩

set_option maxRecDepth 100000 in
set_option maxHeartbeats 1600000 in
theorem tells7_short (n : Int) (s : ByteArray) (w : World) (h : (s.size : Int) ≤ 100) (hlo : -9223372036854775808 ≤ n) :
    Calls Try.prog 3 #[.int .i64 n, .string s] w fun e w' => e = .returned (.bool true) ∧ Below w.heap.size w w' := by
  have K1 := fun W : World => kind_any s W
  have K2 := fun W : World => rkind_any s W
  unfold kindVal at K1 K2
  generalize ((Np.kind s.data.toList).1.toNat : Int) = x at K1 K2
  generalize ((Np.kind s.data.toList).2 : Int) = y at K1 K2
  have S1 := fun W : World => seg_any n W hlo
  have S2 := fun W : World => rseg_any n W hlo
  have T1 := fun W : World => snap_any n W hlo
  have T2 := fun W : World => rsnap_any n W hlo
  generalize ByteArray.mk (Np.nameL 115 n).toArray = F1 at S1 S2
  generalize ByteArray.mk (Np.nameL 116 n).toArray = F2 at T1 T2
  replace K1 := Lib.hid K1
  replace K2 := Lib.hid K2
  replace S1 := Lib.hid S1
  replace S2 := Lib.hid S2
  replace T1 := Lib.hid T1
  replace T2 := Lib.hid T2
  go_enter Try.func3, Try.ntmps3
  go_wp2_with fail
  refine (K1.out _).mono ?_
  rintro e w1 ⟨rfl, rfl⟩
  go_wp2_with fail
  refine (K2.out _).mono ?_
  rintro e w2 ⟨rfl, b2⟩
  go_wp2_with fail
  refine (awake07 _).mono ?_
  rintro e w3 ⟨rfl, b3⟩
  go_wp2_with fail
  refine (S1.out _).mono ?_
  rintro e w4 ⟨rfl, b4⟩
  go_wp2_with fail
  refine (S2.out _).mono ?_
  rintro e w5 ⟨rfl, b5⟩
  go_wp2_with fail
  refine (T1.out _).mono ?_
  rintro e w6 ⟨rfl, b6⟩
  go_wp2_with fail
  refine (T2.out _).mono ?_
  rintro e w7 ⟨rfl, b7⟩
  go_wp2_with fail
  go_ret
  exact ⟨rfl, bel_trans2 (bel_trans2 (bel_trans2 (bel_trans2 (bel_trans2 b2 b3) b4) b5) b6) b7⟩

theorem tells7 (n : Int) (s : ByteArray) (w : World) (hlo : -9223372036854775808 ≤ n) :
    Calls Try.prog 3 #[.int .i64 n, .string s] w fun e w' => e = .returned (.bool true) ∧ Below w.heap.size w w' := by
  by_cases h : 100 < (s.size : Int)
  · exact tells7_long n s w h
  · exact tells7_short n s w (by omega) hlo

end Go.Proofs.Ytgidaljhfngiaaa
