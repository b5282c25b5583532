/-
  What the document's Next answers: the same as frame's.
-/
import Derived.Test.YtcogeflljcefjaaFrameRef
namespace Go.Proofs.Ytcogeflljcefjaa
open Go.RowKit

set_option maxRecDepth 100000 in
set_option maxHeartbeats 1600000 in
theorem rfnext_in (s : ByteArray) (k : Nat) (w : World) (hs : s.size ≤ 140737488351232) (hk : k < s.size) :
    Calls Try.prog 22 #[.string s, .int .i64 k] w fun e w' => e = .returned (nxVal s k) ∧ Below w.heap.size w w' := by
  have hk0 : decide ((k : Int) < 0) = false := by simp
  have hk1 : decide ((s.size : Int) ≤ (k : Int)) = false := by simp; omega
  have C := Lib.hid fun W : World => rends_any s k W (by unfold maxLen; omega) (by omega)
  have D := Lib.hid fun W : World => rread_any s (k : Int) W (by omega)
  have hL : (s.data.toList.drop k).length = s.size - k := by rw [List.length_drop]; rfl
  have HL := Lib.hid hL
  clear hL
  by_cases hc : Fr.cutB (s.data.toList.drop k) = true
  · rw [hc] at C
    have HV := Lib.hid (nxVal_no (Fr.nx_cut hc) (by omega))
    clear hc
    go_enter Try.func22, Try.ntmps22
    go_wp2_with fail
    refine (C.out _).mono ?_
    rintro e w' ⟨rfl, rfl⟩
    go_wp2_with fail
    go_ret3
    exact ⟨by rw [HV.out]; rfl, Below.refl _ _⟩
  have hc : Fr.cutB (s.data.toList.drop k) = false := by simpa using hc
  rw [hc] at C
  have e0 : rdAt s (k : Int) = rdVal (s.data.toList.drop k) k := by unfold rdAt; rw [if_neg (by omega)]; simp
  rw [e0] at D
  clear e0
  rcases ht : Vp.take (s.data.toList.drop k) with _ | ⟨m, j⟩
  · rw [rdVal_none k ht] at D
    have HV := Lib.hid (nxVal_no (Fr.nx_none hc ht) (by omega))
    clear hc ht
    go_enter Try.func22, Try.ntmps22
    go_wp2_with fail
    refine (C.out _).mono ?_
    rintro e w' ⟨rfl, rfl⟩
    go_wp2_with fail
    refine (D.out _).mono ?_
    rintro e w1 ⟨rfl, b1⟩
    go_wp2_with fail
    go_ret3
    exact ⟨by rw [HV.out]; rfl, b1⟩
  rw [rdVal_some k ht] at D
  obtain ⟨hj0, hj9, hjl, hm63⟩ := Vp.take_some ht
  rw [HL.out] at hjl
  obtain ⟨q, hq⟩ : ∃ q, k + j = q := ⟨_, rfl⟩
  have hq1 : k ≤ q := by omega
  have hq2 : q ≤ s.size := by omega
  rw [show (k : Int) + (j : Int) = (q : Int) from by omega] at D
  have HQ := Lib.hid hq
  have HT := Lib.hid ht
  have HJ := Lib.hid (show j = q - k by omega)
  clear hq hc ht
  by_cases hm : Fr.May m
  · have hm1 : 1 ≤ (m : Int) := by have := hm.1; omega
    have hm2 : (m : Int) ≤ 65536 := by have := hm.2; omega
    have d1 : decide ((m : Int) < 1) = false := by simp; omega
    have d2 : decide (65536 < (m : Int)) = false := by simp; omega
    have HM := Lib.hid hm
    clear hm
    by_cases hl : (s.size : Int) - (q : Int) < 4 + (m : Int)
    · have HV := Lib.hid (nxVal_no (Fr.nx_short HT.out HM.out (by rw [HL.out]; have := HQ.out; omega)) (by omega))
      clear hjl hj0 hj9
      go_enter Try.func22, Try.ntmps22
      go_wp2_with fail
      refine (C.out _).mono ?_
      rintro e w' ⟨rfl, rfl⟩
      go_wp2_with fail
      refine (D.out _).mono ?_
      rintro e w1 ⟨rfl, b1⟩
      go_wp2_with fail
      go_ret3
      exact ⟨by rw [HV.out]; rfl, b1⟩
    · have hl' : q + 4 + m ≤ s.size := by omega
      have HNL : Hid (¬ (s.data.toList.drop k).length < j + 4 + m) := Lib.hid (by rw [HL.out]; have := HQ.out; omega)
      have hl2 : 4 + (m : Int) ≤ (s.size : Int) - (q : Int) := by omega
      clear hl hjl hj0 hj9
      go_enter Try.func22, Try.ntmps22
      go_wp2_with fail
      refine (C.out _).mono ?_
      rintro e w' ⟨rfl, rfl⟩
      go_wp2_with fail
      refine (D.out _).mono ?_
      rintro e w1 ⟨rfl, b1⟩
      go_wp2_with fail
      obtain ⟨B, hB⟩ : ∃ B, s.extract (q + 4) (q + 4 + m) = B := ⟨_, rfl⟩
      have hBs : B.size = m := by rw [← hB, ByteArray.size_extract]; omega
      rw [hB]
      have HB := Lib.hid hB
      have F := Lib.hid fun W : World => rfput_yes B W (by rw [hBs]; exact HM.out)
      clear hB hBs
      have hFl := Fr.fr_len B.data.toList
      obtain ⟨f, hf⟩ : ∃ f, Fr.fr B.data.toList = f := ⟨_, rfl⟩
      rw [hf] at F
      have HF := Lib.hid hf
      clear hf hFl
      refine (F.out _).mono ?_
      rintro e w2 ⟨rfl, b2⟩
      have e2 : B.data.toList = ((s.data.toList.drop k).drop (j + 4)).take m := by
        rw [← HB.out, ext_list, List.drop_drop, show k + (j + 4) = q + 4 from by have := HQ.out; omega, show q + 4 + m - (q + 4) = m from by omega]
      have e3 : (s.extract k (q + 4 + m)).data.toList = (s.data.toList.drop k).take (j + 4 + m) := by
        rw [ext_list, show q + 4 + m - k = j + 4 + m from by have := HQ.out; omega]
      have hsum := Fr.sum_iff HT.out HNL.out
      rw [← e2, HF.out, ← e3] at hsum
      by_cases heq : f = (s.extract k (q + 4 + m)).data.toList
      · have HV := nxVal_yes (Fr.nx_ok HT.out HM.out HNL.out (by rw [← e2]; exact hsum.2 heq))
        rw [← e2, show k + (j + 4 + m) = q + 4 + m from by have := HQ.out; omega] at HV
        have HV := Lib.hid HV
        have hd : (!f == (s.extract k (q + 4 + m)).toList) = false := by rw [Lib.toList_data, heq]; simp
        clear hsum e2 e3 heq
        go_wp2_with fail
        go_ret3
        refine ⟨?_, bel_trans2 b1 b2⟩
        rw [HV.out]
        rfl
      · have HV := Lib.hid (nxVal_no (Fr.nx_sum HT.out HM.out HNL.out (by rw [← e2]; exact fun hh => heq (hsum.1 hh))) (by omega))
        have hd : (!f == (s.extract k (q + 4 + m)).toList) = true := by rw [Lib.toList_data]; simpa using heq
        clear hsum e2 e3 heq
        go_wp2_with fail
        go_ret3
        refine ⟨?_, bel_trans2 b1 b2⟩
        rw [HV.out]
        rfl
  · have HV := Lib.hid (nxVal_no (Fr.nx_form HT.out hm) (by omega))
    have hm' : m < 1 ∨ 65536 < m := by unfold Fr.May at hm; omega
    clear hm hjl hj0 hj9
    rcases hm' with h1 | h1
    · have h2 : (m : Int) < 1 := by omega
      clear h1
      go_enter Try.func22, Try.ntmps22
      go_wp2_with fail
      refine (C.out _).mono ?_
      rintro e w' ⟨rfl, rfl⟩
      go_wp2_with fail
      refine (D.out _).mono ?_
      rintro e w1 ⟨rfl, b1⟩
      go_wp2_with fail
      go_ret3
      exact ⟨by rw [HV.out]; rfl, b1⟩
    · have h2 : (65536 : Int) < (m : Int) := by omega
      have h3 : decide ((m : Int) < 1) = false := by simp; omega
      clear h1
      go_enter Try.func22, Try.ntmps22
      go_wp2_with fail
      refine (C.out _).mono ?_
      rintro e w' ⟨rfl, rfl⟩
      go_wp2_with fail
      refine (D.out _).mono ?_
      rintro e w1 ⟨rfl, b1⟩
      go_wp2_with fail
      go_ret3
      exact ⟨by rw [HV.out]; rfl, b1⟩

theorem rfnext_any (s : ByteArray) (i : Int) (w : World) (hs : s.size ≤ 140737488351232) :
    Calls Try.prog 22 #[.string s, .int .i64 i] w fun e w' => e = .returned (nxAt s i) ∧ Below w.heap.size w w' := by
  by_cases h : i < 0 ∨ (s.size : Int) ≤ i
  · rw [nxAt_out h]
    exact (rfnext_out s i w h).mono fun _ _ ⟨he, hw⟩ => ⟨he, by rw [← hw]; exact Below.refl _ _⟩
  · obtain ⟨k, rfl⟩ : ∃ k : Nat, i = (k : Int) := ⟨i.toNat, by omega⟩
    rw [nxAt_in]
    exact rfnext_in s k w hs (by omega)

end Go.Proofs.Ytcogeflljcefjaa
