/-
  What NameBack and NameOnce answer: true, whatever they are given; nothing that was there is changed.
-/
import Derived.Test.YtgidaljhfngiaaaLaw07
namespace Go.Proofs.Ytgidaljhfngiaaa
open Go.RowKit Go.Lib Nm

namespace Nm
theorem less_list : ∀ (a b : List UInt8), Op.bytesLess a b = decide (a < b)
  | [], [] => rfl
  | [], _ :: _ => by simp [Op.bytesLess]
  | _ :: _, [] => by simp [Op.bytesLess]
  | x :: a, y :: b => by
    have ih := less_list a b
    simp only [Op.bytesLess, ih, List.cons_lt_cons_iff]
    by_cases h1 : x < y
    · simp [h1]
    · by_cases h2 : x = y
      · simp [h2]
      · simp [h1, h2]
theorem mk_list (l : List UInt8) : (ByteArray.mk l.toArray).toList = l := by rw [toL]
theorem mk_back (s : ByteArray) : ByteArray.mk s.data.toList.toArray = s := by
  apply ByteArray.ext; simp
/-- The names of two offsets. -/
theorem names {a b : Nat} (ha : a ≤ 1099511627776) (hb : b ≤ 1099511627776) :
    Op.bytesLess (ByteArray.mk (Np.nameL 115 (a : Int)).toArray).toList (ByteArray.mk (Np.nameL 115 (b : Int)).toArray).toList = decide ((a : Int) < (b : Int)) ∧
    ((ByteArray.mk (Np.nameL 116 (a : Int)).toArray).toList == (ByteArray.mk (Np.nameL 116 (b : Int)).toArray).toList) = ((a : Int) == (b : Int)) ∧
    (ByteArray.mk (Np.nameL 115 (a : Int)).toArray).size = 14 ∧
    kindVal (ByteArray.mk (Np.nameL 115 (a : Int)).toArray) = .tuple #[.int .u8 115, .int .i64 a] ∧
    kindVal (ByteArray.mk (Np.nameL 116 (a : Int)).toArray) = .tuple #[.int .u8 116, .int .i64 a] := by
  refine ⟨?_, ?_, ?_, kindVal_of (c := 115) (Np.kind_name (.inl rfl) ha), kindVal_of (c := 116) (Np.kind_name (.inr rfl) ha)⟩
  · rw [mk_list, mk_list, less_list, decide_eq_decide, Np.name_lt 115 ha hb]
    omega
  · rw [mk_list, mk_list, Bool.eq_iff_iff, beq_iff_eq, beq_iff_eq]
    constructor
    · intro h; have := Np.name_inj (.inr rfl) ha hb h; omega
    · intro h; rw [h]
  · rw [size_mk_list, Np.name_len _ ha]
end Nm

set_option maxRecDepth 100000 in
set_option maxHeartbeats 1600000 in
theorem back7_out (a b : Int) (w : World) (h : ¬ (0 ≤ a ∧ a ≤ 1099511627776 ∧ 0 ≤ b ∧ b ≤ 1099511627776)) :
    Calls Try.prog 4 #[.int .i64 a, .int .i64 b] w fun e w' => e = .returned (.bool true) ∧ Below w.heap.size w w' := by
  have D : (decide (a < 0) || (decide (1099511627776 < a) || (decide (b < 0) || decide (1099511627776 < b)))) = true := by simp; omega
  by_cases h1 : a < 0
  · clear h D
    go_enter Try.func4, Try.ntmps4
    go_wp2_with fail
    refine (awake07 _).mono ?_
    rintro e w3 ⟨rfl, b3⟩
    go_wp2_with fail
    go_ret
    exact ⟨rfl, b3⟩
  · have d1 : decide (a < 0) = false := by simpa using h1
    by_cases h2 : 1099511627776 < a
    · clear h D h1
      go_enter Try.func4, Try.ntmps4
      go_wp2_with fail
      refine (awake07 _).mono ?_
      rintro e w3 ⟨rfl, b3⟩
      go_wp2_with fail
      go_ret
      exact ⟨rfl, b3⟩
    · have d2 : decide (1099511627776 < a) = false := by simpa using h2
      by_cases h3 : b < 0
      · clear h D h1 h2
        go_enter Try.func4, Try.ntmps4
        go_wp2_with fail
        refine (awake07 _).mono ?_
        rintro e w3 ⟨rfl, b3⟩
        go_wp2_with fail
        go_ret
        exact ⟨rfl, b3⟩
      · have d3 : decide (b < 0) = false := by simpa using h3
        have h4 : 1099511627776 < b := by omega
        clear h D h1 h2 h3
        go_enter Try.func4, Try.ntmps4
        go_wp2_with fail
        refine (awake07 _).mono ?_
        rintro e w3 ⟨rfl, b3⟩
        go_wp2_with fail
        go_ret
        exact ⟨rfl, b3⟩

set_option maxRecDepth 100000 in
set_option maxHeartbeats 3200000 in
theorem back7_in (a b : Nat) (w : World) (ha : a ≤ 1099511627776) (hb : b ≤ 1099511627776) :
    Calls Try.prog 4 #[.int .i64 a, .int .i64 b] w fun e w' => e = .returned (.bool true) ∧ Below w.heap.size w w' := by
  have SA := fun W : World => seg_any (a : Int) W (by omega)
  have SB := fun W : World => seg_any (b : Int) W (by omega)
  have TA := fun W : World => snap_any (a : Int) W (by omega)
  have TB := fun W : World => snap_any (b : Int) W (by omega)
  obtain ⟨n1, n2, n3, n4, n5⟩ := names ha hb
  have K1 := fun W : World => kind_any (ByteArray.mk (Np.nameL 115 (a : Int)).toArray) W
  have K2 := fun W : World => kind_any (ByteArray.mk (Np.nameL 116 (a : Int)).toArray) W
  rw [n4] at K1
  rw [n5] at K2
  clear n4 n5
  generalize ByteArray.mk (Np.nameL 115 (a : Int)).toArray = Fa at *
  generalize ByteArray.mk (Np.nameL 115 (b : Int)).toArray = Fb at *
  generalize ByteArray.mk (Np.nameL 116 (a : Int)).toArray = Ga at *
  generalize ByteArray.mk (Np.nameL 116 (b : Int)).toArray = Gb at *
  have z1 : Fa.size ≤ 14 := by omega
  have z2 : 14 ≤ Fa.size := by omega
  have z3 : ((Fa.size : Int) == 14) = true := by rw [beq_iff_eq]; omega
  have d1 : decide ((a : Int) < 0) = false := by simp
  have d2 : decide (1099511627776 < (a : Int)) = false := by simp; omega
  have d3 : decide ((b : Int) < 0) = false := by simp
  have d4 : decide (1099511627776 < (b : Int)) = false := by simp; omega
  replace SA := Lib.hid SA
  replace SB := Lib.hid SB
  replace TA := Lib.hid TA
  replace TB := Lib.hid TB
  replace K1 := Lib.hid K1
  replace K2 := Lib.hid K2
  clear n3
  rw [show decide ((a : Int) < (b : Int)) = decide (a < b) from decide_eq_decide.2 (by omega)] at n1
  rw [show ((a : Int) == (b : Int)) = (a == b) by rw [Bool.eq_iff_iff, beq_iff_eq, beq_iff_eq]; omega] at n2
  obtain ⟨c, hc⟩ : ∃ c : Bool, (a == b) = c := ⟨_, rfl⟩
  have hci : ((a : Int) == (b : Int)) = c := by rw [← hc, Bool.eq_iff_iff, beq_iff_eq, beq_iff_eq]; omega
  rw [hc] at n2
  cases c
  all_goals
    go_enter Try.func4, Try.ntmps4
    go_wp2_with fail
    refine (SA.out _).mono ?_
    rintro e w1 ⟨rfl, b1⟩
    go_wp2_with fail
    refine (K1.out _).mono ?_
    rintro e w2 ⟨rfl, rfl⟩
    go_wp2_with fail
    refine (TA.out _).mono ?_
    rintro e w3 ⟨rfl, b3⟩
    go_wp2_with fail
    refine (K2.out _).mono ?_
    rintro e w4 ⟨rfl, rfl⟩
    go_wp2_with fail
    refine (awake07 _).mono ?_
    rintro e w5 ⟨rfl, b5⟩
    go_wp2_with fail
    refine (SA.out _).mono ?_
    rintro e w6 ⟨rfl, b6⟩
    go_wp2_with fail
    refine (SB.out _).mono ?_
    rintro e w7 ⟨rfl, b7⟩
    go_wp2_with fail
    refine (TA.out _).mono ?_
    rintro e w8 ⟨rfl, b8⟩
    go_wp2_with fail
    refine (TB.out _).mono ?_
    rintro e w9 ⟨rfl, b9⟩
    go_wp2_with fail
    refine (SA.out _).mono ?_
    rintro e w10 ⟨rfl, b10⟩
    go_wp2_with fail
    go_ret
    exact ⟨rfl, bel_trans2 (bel_trans2 (bel_trans2 (bel_trans2 (bel_trans2 (bel_trans2 (bel_trans2 b1 b3) b5) b6) b7) b8) b9) b10⟩

theorem back7 (a b : Int) (w : World) :
    Calls Try.prog 4 #[.int .i64 a, .int .i64 b] w fun e w' => e = .returned (.bool true) ∧ Below w.heap.size w w' := by
  by_cases h : 0 ≤ a ∧ a ≤ 1099511627776 ∧ 0 ≤ b ∧ b ≤ 1099511627776
  · obtain ⟨a, rfl⟩ : ∃ k : Nat, a = (k : Int) := ⟨a.toNat, by omega⟩
    obtain ⟨b, rfl⟩ : ∃ k : Nat, b = (k : Int) := ⟨b.toNat, by omega⟩
    exact back7_in a b w (by omega) (by omega)
  · exact back7_out a b w h

set_option maxRecDepth 100000 in
set_option maxHeartbeats 800000 in
theorem once7_long (s : ByteArray) (w : World) (h : 100 < (s.size : Int)) :
    Calls Try.prog 5 #[.string s] w fun e w' => e = .returned (.bool true) ∧ Below w.heap.size w w' := by
  go_enter Try.func5, Try.ntmps5
  go_wp2_with fail
  refine (awake07 _).mono ?_
  rintro e w3 ⟨rfl, b3⟩
  go_wp2_with fail
  go_ret
  exact ⟨rfl, b3⟩

set_option maxRecDepth 100000 in
set_option maxHeartbeats 800000 in
theorem once7_at (s : ByteArray) (w : World) (h : (s.size : Int) ≤ 100) (c n : Int) (hn : 0 ≤ n) (hk : kindVal s = .tuple #[.int .u8 c, .int .i64 n])
    (hc : (c = 115 ∧ ByteArray.mk (Np.nameL 115 n).toArray = s) ∨ (c = 116 ∧ ByteArray.mk (Np.nameL 116 n).toArray = s)) :
    Calls Try.prog 5 #[.string s] w fun e w' => e = .returned (.bool true) ∧ Below w.heap.size w w' := by
  have K1 := fun W : World => kind_any s W
  rw [hk] at K1
  have S1 := fun W : World => seg_any n W (by omega)
  have T1 := fun W : World => snap_any n W (by omega)
  replace K1 := Lib.hid K1
  clear hk
  rcases hc with ⟨rfl, hs⟩ | ⟨rfl, hs⟩
  · rw [hs] at S1
    replace S1 := Lib.hid S1
    clear T1 hs
    go_enter Try.func5, Try.ntmps5
    go_wp2_with fail
    refine (K1.out _).mono ?_
    rintro e w1 ⟨rfl, rfl⟩
    go_wp2_with fail
    refine (awake07 _).mono ?_
    rintro e w3 ⟨rfl, b3⟩
    go_wp2_with fail
    refine (S1.out _).mono ?_
    rintro e w4 ⟨rfl, b4⟩
    go_wp2_with fail
    go_ret
    exact ⟨rfl, bel_trans2 b3 b4⟩
  · rw [hs] at T1
    replace T1 := Lib.hid T1
    clear S1 hs
    go_enter Try.func5, Try.ntmps5
    go_wp2_with fail
    refine (K1.out _).mono ?_
    rintro e w1 ⟨rfl, rfl⟩
    go_wp2_with fail
    refine (awake07 _).mono ?_
    rintro e w3 ⟨rfl, b3⟩
    go_wp2_with fail
    refine (T1.out _).mono ?_
    rintro e w4 ⟨rfl, b4⟩
    go_wp2_with fail
    go_ret
    exact ⟨rfl, bel_trans2 b3 b4⟩

set_option maxRecDepth 100000 in
set_option maxHeartbeats 800000 in
theorem once7_no (s : ByteArray) (w : World) (h : (s.size : Int) ≤ 100) (hk : kindVal s = .tuple #[.int .u8 0, .int .i64 0]) :
    Calls Try.prog 5 #[.string s] w fun e w' => e = .returned (.bool true) ∧ Below w.heap.size w w' := by
  have K1 := fun W : World => kind_any s W
  rw [hk] at K1
  replace K1 := Lib.hid K1
  clear hk
  go_enter Try.func5, Try.ntmps5
  go_wp2_with fail
  refine (K1.out _).mono ?_
  rintro e w1 ⟨rfl, rfl⟩
  go_wp2_with fail
  refine (awake07 _).mono ?_
  rintro e w3 ⟨rfl, b3⟩
  go_wp2_with fail
  go_ret
  exact ⟨rfl, b3⟩

set_option maxRecDepth 100000 in
set_option maxHeartbeats 800000 in
theorem once7_man (c : UInt8) (hc : c = 109 ∨ c = 110) (w : World) (hk : kindVal ⟨#[c]⟩ = .tuple #[.int .u8 (c.toNat : Int), .int .i64 0]) :
    Calls Try.prog 5 #[.string ⟨#[c]⟩] w fun e w' => e = .returned (.bool true) ∧ Below w.heap.size w w' := by
  have K1 := fun W : World => kind_any ⟨#[c]⟩ W
  rw [hk] at K1
  have hc1 := conv_one
  clear hk
  rcases hc with rfl | rfl
  · rw [show (((109 : UInt8).toNat : Nat) : Int) = 109 from rfl] at K1
    replace K1 := Lib.hid K1
    go_enter Try.func5, Try.ntmps5
    go_wp2_with fail
    refine (K1.out _).mono ?_
    rintro e w1 ⟨rfl, rfl⟩
    go_wp2_with fail
    refine (awake07 _).mono ?_
    rintro e w3 ⟨rfl, b3⟩
    go_wp2_with fail
    go_ret
    exact ⟨rfl, b3.alloc b3.size _⟩
  · rw [show (((110 : UInt8).toNat : Nat) : Int) = 110 from rfl] at K1
    replace K1 := Lib.hid K1
    go_enter Try.func5, Try.ntmps5
    go_wp2_with fail
    refine (K1.out _).mono ?_
    rintro e w1 ⟨rfl, rfl⟩
    go_wp2_with fail
    refine (awake07 _).mono ?_
    rintro e w3 ⟨rfl, b3⟩
    go_wp2_with fail
    go_ret
    exact ⟨rfl, b3.alloc b3.size _⟩

theorem once7 (s : ByteArray) (w : World) :
    Calls Try.prog 5 #[.string s] w fun e w' => e = .returned (.bool true) ∧ Below w.heap.size w w' := by
  by_cases h : 100 < (s.size : Int)
  · exact once7_long s w h
  · rcases Np.kind_cases s.data.toList with hk | hk | ⟨hk, hs, hn⟩ | hk
    · refine once7_at s w (by omega) 115 ((Np.kind s.data.toList).2 : Int) (by omega) (by unfold kindVal; rw [hk]; rfl) (.inl ⟨rfl, ?_⟩)
      have := Np.name_kind (.inl hk)
      rw [hk] at this
      rw [this, mk_back]
    · refine once7_at s w (by omega) 116 ((Np.kind s.data.toList).2 : Int) (by omega) (by unfold kindVal; rw [hk]; rfl) (.inr ⟨rfl, ?_⟩)
      have := Np.name_kind (.inr hk)
      rw [hk] at this
      rw [this, mk_back]
    · have e : s = ⟨#[(Np.kind s.data.toList).1]⟩ := by
        apply ByteArray.ext
        apply Array.ext'
        exact hs
      have hv : kindVal s = .tuple #[.int .u8 ((Np.kind s.data.toList).1.toNat : Int), .int .i64 0] := by unfold kindVal; rw [hn]; rfl
      generalize (Np.kind s.data.toList).1 = c at *
      subst e
      exact once7_man c hk w hv
    · exact once7_no s w (by omega) (kindVal_of (c := 0) (n := 0) hk)

end Go.Proofs.Ytgidaljhfngiaaa
