/-
  What the document's Kind answers: the same as name.Kind.
-/
import Derived.Test.YtgidaljhfngiaaaNameKind
namespace Go.Proofs.Ytgidaljhfngiaaa
open Go.RowKit Go.Lib Nm

namespace Nm
theorem toL (s : ByteArray) : s.toList = s.data.toList := Lib.toList_data s
theorem ne_of_size {s : ByteArray} {l : List UInt8} (h : s.size ≠ l.length) : (s.toList == l) = false := by
  rw [beq_eq_false_iff_ne, toL]
  intro e
  exact h (by rw [← e]; rfl)
end Nm

set_option maxRecDepth 100000 in
set_option maxHeartbeats 400000 in
theorem rkind_one (s : ByteArray) (w : World) (h1 : s.size = 1) :
    Calls Try.prog 8 #[.string s] w fun e w' => e = .returned (kindVal s) ∧ Below w.heap.size w w' := by
  have h0 : 0 < s.size := by omega
  have hk := kind_one h1 h0
  have hc := list_cons s h0
  have ht : s.data.toList.tail = [] := by rw [← List.length_eq_zero_iff, List.length_tail]; show s.size - 1 = 0; omega
  rw [ht] at hc
  have e1 : ((s.size : Int) == 14) = false := by rw [beq_eq_false_iff_ne]; omega
  have e2 : (s.size : Int) ≠ 14 := by omega
  have t1 : (s.toList == [109]) = (s[0] == 109) := by rw [toL, hc, Bool.eq_iff_iff]; simp
  have t2 : (s.toList == [110]) = (s[0] == 110) := by rw [toL, hc, Bool.eq_iff_iff]; simp
  by_cases c1 : s[0] = 109
  · rw [show (s[0] == 109) = true by simpa using c1] at t1 hk
    rw [if_pos (by simp)] at hk
    have HK := Lib.hid (kindVal_of hk)
    clear hk hc ht c1 t2 h1
    go_enter Try.func8, Try.ntmps8
    go_wp2_with fail
    go_ret2
    exact ⟨by rw [HK.out]; rfl, Below.refl _ _⟩
  · rw [show (s[0] == 109) = false by simpa using c1] at t1 hk
    by_cases c2 : s[0] = 110
    · rw [show (s[0] == 110) = true by simpa using c2] at t2 hk
      rw [if_pos (by simp)] at hk
      have HK := Lib.hid (kindVal_of hk)
      clear hk hc ht c1 c2 h1
      go_enter Try.func8, Try.ntmps8
      go_wp2_with fail
      go_ret2
      exact ⟨by rw [HK.out]; rfl, Below.refl _ _⟩
    · rw [show (s[0] == 110) = false by simpa using c2] at t2 hk
      rw [if_neg (by simp)] at hk
      have HK := Lib.hid (kindVal_of hk)
      clear hk hc ht c1 c2 h1
      go_enter Try.func8, Try.ntmps8
      go_wp2_with fail
      go_ret2
      exact ⟨by rw [HK.out]; rfl, Below.refl _ _⟩

set_option maxRecDepth 100000 in
set_option maxHeartbeats 400000 in
theorem rkind_none (s : ByteArray) (w : World) (h1 : s.size ≠ 1) (h2 : s.size ≠ 14) :
    Calls Try.prog 8 #[.string s] w fun e w' => e = .returned (kindVal s) ∧ Below w.heap.size w w' := by
  rw [kind_none h1 h2]
  have e1 : ((s.size : Int) == 14) = false := by rw [beq_eq_false_iff_ne]; omega
  have e2 : (s.size : Int) ≠ 14 := by omega
  have t1 : (s.toList == [109]) = false := ne_of_size (by simpa using h1)
  have t2 : (s.toList == [110]) = false := ne_of_size (by simpa using h1)
  clear h1 h2
  go_enter Try.func8, Try.ntmps8
  go_wp2_with fail
  go_ret2
  exact ⟨rfl, Below.refl _ _⟩

namespace Nm
/-- The two names of the number that stands behind the first byte. -/
theorem two_names {s : ByteArray} (h : s.size = 14) (h0 : 0 < s.size) (ha : s.data.toList.tail.all Np.isDig = true) :
    (s.toList == (ByteArray.mk (Np.nameL 115 (Np.val s.data.toList.tail : Nat)).toArray).toList) = (s[0] == 115 && Np.offB s.data.toList.tail) ∧
    (s.toList == (ByteArray.mk (Np.nameL 116 (Np.val s.data.toList.tail : Nat)).toArray).toList) = (s[0] == 116 && Np.offB s.data.toList.tail) := by
  have hc := list_cons s h0
  have hl : s.data.toList.tail.length = 13 := by rw [List.length_tail]; show s.size - 1 = 13; omega
  have hd := Np.dig_val _ ha
  rw [hl] at hd
  generalize s[0] = c at *
  generalize s.data.toList.tail = t at *
  have key : ∀ b : UInt8, (s.toList == (ByteArray.mk (Np.nameL b (Np.val t : Nat)).toArray).toList) = (c == b && Np.offB t) := by
    intro b
    rw [toL, toL, hc]
    by_cases hm : Np.val t ≤ 1099511627776
    · rw [nameL_yes hm, hd, (Np.offB_iff t).2 ⟨ha, hm⟩, Bool.and_true, Bool.eq_iff_iff]
      simp
    · rw [nameL_no (by omega), show Np.offB t = false by rw [← Bool.not_eq_true, Np.offB_iff]; omega, Bool.and_false, beq_eq_false_iff_ne]
      simp
  exact ⟨key 115, key 116⟩
end Nm

set_option maxRecDepth 100000 in
set_option maxHeartbeats 3200000 in
theorem rkind_14 (s : ByteArray) (w : World) (h1 : s.size = 14) :
    Calls Try.prog 8 #[.string s] w fun e w' => e = .returned (kindVal s) ∧ Below w.heap.size w w' := by
  have h0 : 0 < s.size := by omega
  have hk := Lib.hid (kind_14 h1 h0)
  have e1 : ((s.size : Int) == 14) = true := by rw [beq_iff_eq]; omega
  have e2 : (s.size : Int) = 14 := by omega
  have t1 : (s.toList == [109]) = false := ne_of_size (by rw [h1]; decide)
  have t2 : (s.toList == [110]) = false := ne_of_size (by rw [h1]; decide)
  have two := Lib.hid (two_names h1 h0)
  have hs1 : s.size ≤ 14 := by omega
  have hs2 : 14 ≤ s.size := by omega
  have htl : s.data.toList.tail.length = 13 := by rw [List.length_tail]; show s.size - 1 = 13; omega
  have HTL := Lib.hid htl
  have e3 : ((s.size : Int) != 14) = false := by rw [bne_eq_false_iff_eq]; omega
  clear h1 e2 htl
  go_enter Try.func8, Try.ntmps8
  go_wp2_with fail
  go_loop [4, 5] (fun a i => ∃ k n : Nat, k ≤ 13 ∧ n ≤ 9999999999999 ∧ i = .int .i64 ((k : Int) + 1) ∧ a = .int .i64 n ∧ n = Np.val (s.data.toList.tail.take k) ∧ (s.data.toList.tail.take k).all Np.isDig = true) (fun _ i => 14 - (intOf i).toNat)
  case atStart => exact ⟨0, 0, by omega, by omega, rfl, rfl, rfl, rfl⟩
  case round =>
    clear t1 t2 e1 e3
    obtain ⟨k, n, hk13, hn, rfl, rfl, hne, hall⟩ := hrel
    by_cases hlt : k < 13
    · have h12 := Np.val_take_lt s.data.toList.tail k (by omega) hall
      have hts := take_tail s k (by omega)
      have hvs := Np.val_snoc (s.data.toList.tail.take k) s[k + 1]
      rw [← hts, ← hne] at hvs
      rw [← hne] at h12
      have hals := all_take hts hall
      have h255 := s[k + 1].toNat_lt
      have h256 : ((s[k + 1].toNat : Nat) : Int) < 256 := by omega
      have hks : k + 1 < s.size := by omega
      by_cases hd : Np.isDig s[k + 1] = true
      · rw [hd] at hals
        rw [Np.isDig_iff] at hd
        obtain ⟨d1, d2⟩ := hd
        have d3 : (48 : Int) ≤ (s[k + 1].toNat : Int) := by omega
        have d4 : (s[k + 1].toNat : Int) ≤ 57 := by omega
        have HV := Lib.hid hvs
        have HA := Lib.hid hals
        clear hn
        clear hvs hals hall hne hts
        go_wp2
        go_round
        case rel => exact ⟨k + 1, n * 10 + (s[k + 1].toNat - 48), by omega, by omega, by go_num, congrArg (Value.int .i64) (by omega), HV.out.symm, HA.out⟩
        case measure => simp [intOf]; omega
      · have hd0 : Np.isDig s[k + 1] = false := by simpa using hd
        rw [hd0] at hals
        have hob := offB_no (all_no hals)
        have HO := Lib.hid (show kindVal s = .tuple #[.int .u8 0, .int .i64 0] from kindVal_of (c := 0) (n := 0) (by rw [hk.out, hob, if_neg (by simp)]))
        rw [Np.isDig_iff] at hd
        clear hvs hals hall hne hts hob hd0
        by_cases d1 : (s[k + 1].toNat : Int) < 48
        · clear hd
          go_wp2
          go_ret2
          exact ⟨by rw [HO.out]; rfl, Below.refl _ _⟩
        · have d2 : 57 < (s[k + 1].toNat : Int) := by omega
          clear hd
          go_wp2
          go_ret2
          exact ⟨by rw [HO.out]; rfl, Below.refl _ _⟩
    · have hge : 13 ≤ k := by omega
      rw [List.take_of_length_le (by rw [HTL.out]; omega)] at hne hall
      have tw := two.out hall
      have hkk := hk.out
      rw [← hne] at tw hkk
      have S1 := fun W : World => rseg_any (n : Int) W (by omega)
      have S2 := fun W : World => rsnap_any (n : Int) W (by omega)
      obtain ⟨F1, hF1⟩ : ∃ F1, ByteArray.mk (Np.nameL 115 (n : Int)).toArray = F1 := ⟨_, rfl⟩
      obtain ⟨F2, hF2⟩ : ∃ F2, ByteArray.mk (Np.nameL 116 (n : Int)).toArray = F2 := ⟨_, rfl⟩
      rw [hF1] at S1 tw
      rw [hF2] at S2 tw
      obtain ⟨tw1, tw2⟩ := tw
      replace S1 := Lib.hid S1
      replace S2 := Lib.hid S2
      clear hF1 hF2 hne hall hlt
      have hkv := hk
      clear hk
      cases hb : Np.offB s.data.toList.tail with
      | false =>
        rw [hb] at tw1 tw2 hkk
        rw [Bool.and_false] at tw1 tw2
        have HO := Lib.hid (show kindVal s = .tuple #[.int .u8 0, .int .i64 0] from kindVal_of (c := 0) (n := 0) (by rw [hkk, if_neg (by simp)]))
        clear hb hkk hkv
        go_wp2_with fail
        refine (S1.out _).mono ?_
        rintro e w1 ⟨rfl, b1⟩
        go_wp2_with fail
        refine (S2.out _).mono ?_
        rintro e w2 ⟨rfl, b2⟩
        go_wp2_with fail
        go_ret2
        exact ⟨by rw [HO.out]; rfl, bel_trans2 b1 b2⟩
      | true =>
        rw [hb] at tw1 tw2 hkk
        rw [Bool.and_true] at tw1 tw2
        clear hb hkv
        cases c1 : (s[0] == 115) with
        | true =>
          rw [c1] at tw1 hkk
          rw [if_pos (by simp)] at hkk
          have HO := Lib.hid (kindVal_of hkk)
          clear c1 hkk tw2
          go_wp2_with fail
          refine (S1.out _).mono ?_
          rintro e w1 ⟨rfl, b1⟩
          go_wp2_with fail
          go_ret2
          exact ⟨by rw [HO.out]; rfl, b1⟩
        | false =>
          rw [c1] at tw1 hkk
          rw [Bool.false_or] at hkk
          cases c2 : (s[0] == 116) with
          | true =>
            rw [c2] at tw2 hkk
            rw [if_pos (by simp)] at hkk
            have HO := Lib.hid (kindVal_of hkk)
            clear c1 c2 hkk
            go_wp2_with fail
            refine (S1.out _).mono ?_
            rintro e w1 ⟨rfl, b1⟩
            go_wp2_with fail
            refine (S2.out _).mono ?_
            rintro e w2 ⟨rfl, b2⟩
            go_wp2_with fail
            go_ret2
            exact ⟨by rw [HO.out]; rfl, bel_trans2 b1 b2⟩
          | false =>
            rw [c2] at tw2 hkk
            rw [if_neg (by simp)] at hkk
            have HO := Lib.hid (show kindVal s = .tuple #[.int .u8 0, .int .i64 0] from kindVal_of (c := 0) (n := 0) hkk)
            clear c1 c2 hkk
            go_wp2_with fail
            refine (S1.out _).mono ?_
            rintro e w1 ⟨rfl, b1⟩
            go_wp2_with fail
            refine (S2.out _).mono ?_
            rintro e w2 ⟨rfl, b2⟩
            go_wp2_with fail
            go_ret2
            exact ⟨by rw [HO.out]; rfl, bel_trans2 b1 b2⟩

theorem rkind_any (s : ByteArray) (w : World) :
    Calls Try.prog 8 #[.string s] w fun e w' => e = .returned (kindVal s) ∧ Below w.heap.size w w' := by
  by_cases h1 : s.size = 1
  · exact rkind_one s w h1
  · by_cases h2 : s.size = 14
    · exact rkind_14 s w h2
    · exact rkind_none s w h1 h2

end Go.Proofs.Ytgidaljhfngiaaa
