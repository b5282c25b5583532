/-
  What the document's Put, Size and Next answer: the same as frame's.
-/
import Derived.Test.YtcogeflljcefjaaFrameNext
import Derived.Test.YtcogeflljcefjaaVarRref
import Derived.Test.YtcogeflljcefjaaCrcRef
namespace Go.Proofs.Ytcogeflljcefjaa
open Go.RowKit

set_option maxRecDepth 100000 in
theorem rof_any (s : ByteArray) (w : World) (hs : s.size ≤ maxLen) :
    Calls Try.prog 26 #[.string s] w fun e w' => e = .returned (.int .u32 (Cp.sum 0 s.data.toList : Nat)) ∧ w = w' := by
  have C := Lib.hid fun W : World => ron_any 0 s W (by omega) hs
  generalize Cp.sum 0 s.data.toList = X at C ⊢
  go_enter Try.func26, Try.ntmps26
  go_wp2_with fail
  refine (C.out _).mono ?_
  rintro e w' ⟨rfl, rfl⟩
  go_wp2_with fail
  go_ret
  exact ⟨rfl, rfl⟩

set_option maxRecDepth 100000 in
theorem rfput_no (s : ByteArray) (w : World) (hs : s.size ≤ maxLen) (h : ¬ Fr.May s.size) :
    Calls Try.prog 14 #[.string s] w fun e w' => e = .returned (.tuple #[.string ⟨#[]⟩, .int .i64 5]) ∧ w = w' := by
  unfold maxLen at hs
  by_cases h1 : (s.size : Int) < 1
  · clear h
    go_enter Try.func14, Try.ntmps14
    go_wp2_with fail
    go_ret2
    exact ⟨rfl, rfl⟩
  · have h2 : (65536 : Int) < (s.size : Int) := by unfold Fr.May at h; omega
    have h3 : decide ((s.size : Int) < 1) = false := by simp; omega
    clear h
    go_enter Try.func14, Try.ntmps14
    go_wp2_with fail
    go_ret2
    exact ⟨rfl, rfl⟩

set_option maxRecDepth 100000 in
set_option maxHeartbeats 800000 in
theorem rfput_yes (s : ByteArray) (w : World) (h : Fr.May s.size) :
    Calls Try.prog 14 #[.string s] w fun e w' => e = .returned (.tuple #[.string ⟨(Fr.fr s.data.toList).toArray⟩, .int .i64 0]) ∧ Below w.heap.size w w' := by
  have hb : (s.size : Int) ≤ 65536 := by have := h.2; omega
  have hb1 : 1 ≤ (s.size : Int) := by have := h.1; omega
  have D := Lib.hid fun W : World => rput_any (s.size : Int) W (by omega) (by omega)
  have e0 : putI (s.size : Int) = Vp.put s.data.toList.length := by rw [show s.data.toList.length = s.size from by simp]; unfold putI; rw [if_neg (by omega)]; simp
  rw [e0] at D
  have hpl := Vp.put_len_le s.data.toList.length
  have E := Lib.hid fun W : World => rof_any (⟨(Vp.put s.data.toList.length).toArray⟩ ++ s) W (by rw [ByteArray.size_append, size_mk_list]; unfold maxLen; omega)
  have e1 : (⟨(Vp.put s.data.toList.length).toArray⟩ ++ s : ByteArray).data.toList = Vp.put s.data.toList.length ++ s.data.toList := by simp
  rw [e1] at E
  have F := Lib.hid fun W : World => rfour_any (Cp.sum 0 (Vp.put s.data.toList.length ++ s.data.toList)) W (Cp.sum_lt _ _)
  rw [four_same] at F
  unfold Fr.fr
  rw [← frame_str]
  obtain ⟨P, hP⟩ : ∃ P, Vp.put s.data.toList.length = P := ⟨_, rfl⟩
  rw [hP] at D E F hpl ⊢
  clear hP e0 e1 h
  obtain ⟨X, hX⟩ : ∃ X, Cp.sum 0 (P ++ s.data.toList) = X := ⟨_, rfl⟩
  rw [hX] at E F ⊢
  clear hX
  have hfl : (Fr.four X).length ≤ 4 := by rw [Fr.four_len]; exact Nat.le_refl _
  generalize Fr.four X = f at F hfl ⊢
  go_enter Try.func14, Try.ntmps14
  go_wp2_with fail
  refine (D.out _).mono ?_
  rintro e w1 ⟨rfl, b1⟩
  go_wp2_with fail
  refine (E.out _).mono ?_
  rintro e w2 ⟨rfl, rfl⟩
  go_wp2_with fail
  refine (F.out _).mono ?_
  rintro e w3 ⟨rfl, b3⟩
  go_wp2_with fail
  go_ret2
  exact ⟨rfl, bel_trans2 b1 b3⟩

theorem high_snoc (l : List UInt8) (i : Nat) (h : i < l.length) : Fr.highB (l.take (i + 1)) = (Fr.highB (l.take i) && decide (128 ≤ l[i].toNat)) := by
  rw [List.take_succ_eq_append_getElem h]
  unfold Fr.highB
  rw [List.all_append]
  simp
theorem cut_low (l : List UInt8) (i : Nat) (h : i < l.length) (hb : l[i].toNat < 128) : Fr.cutB l = false := by
  unfold Fr.cutB
  rw [Bool.and_eq_false_iff]
  right
  rw [List.all_eq_false]
  exact ⟨l[i], List.getElem_mem _, by simpa using hb⟩
theorem cut_high (l : List UInt8) (h : Fr.highB l = true) : Fr.cutB l = decide (l.length ≤ 8) := by
  unfold Fr.cutB
  unfold Fr.highB at h
  rw [h, Bool.and_true]
theorem drop_get (s : ByteArray) (k i q : Nat) (hq : k + i = q) (h : q < s.size) : ((s.data.toList.drop k)[i]'(by rw [List.length_drop]; show i < s.size - k; omega)) = s[q] := by
  subst hq
  rw [List.getElem_drop]; rfl

set_option maxRecDepth 100000 in
set_option maxHeartbeats 800000 in
theorem rends_any (s : ByteArray) (k : Nat) (w : World) (hs : s.size ≤ maxLen) (hk : k ≤ s.size) :
    Calls Try.prog 34 #[.string s, .int .i64 k] w fun e w' => e = .returned (.bool (Fr.cutB (s.data.toList.drop k))) ∧ w = w' := by
  unfold maxLen at hs
  have hL : (s.data.toList.drop k).length = s.size - k := by rw [List.length_drop]; rfl
  have HL := Lib.hid hL
  clear hL
  go_enter Try.func34, Try.ntmps34
  go_wp2_with fail
  go_loop [5] (fun x => ∃ i : Nat, k + i ≤ s.size ∧ x = .int .i64 ((k + i : Nat) : Int) ∧ Fr.highB ((s.data.toList.drop k).take i) = true) (fun x => s.size - (intOf x).toNat)
  case atStart => exact ⟨0, hk, rfl, rfl⟩
  case round =>
    obtain ⟨i, hi, rfl, hr⟩ := hrel
    have HR := Lib.hid hr
    clear hr
    obtain ⟨q, hq⟩ : ∃ q, k + i = q := ⟨_, rfl⟩
    have HQ := Lib.hid hq
    rw [hq] at hi ⊢
    by_cases hlt : q < s.size
    · have hg := drop_get s k i q hq hlt
      have hsn := high_snoc (s.data.toList.drop k) i (by rw [HL.out]; omega)
      have hlo := cut_low (s.data.toList.drop k) i (by rw [HL.out]; omega)
      rw [hg] at hsn hlo
      have HN := Lib.hid hsn
      clear hsn hg hq
      by_cases hb : s[q].toNat < 128
      · have HZ := Lib.hid (hlo hb)
        have hb' : ((s[q].toNat : Nat) : Int) < 128 := by omega
        clear hlo
        go_wp2_with fail
        go_ret
        exact ⟨by rw [HZ.out]; rfl, rfl⟩
      · have hb' : 128 ≤ ((s[q].toNat : Nat) : Int) := by omega
        have HZ := Lib.hid (show 128 ≤ s[q].toNat by omega)
        clear hb hlo
        go_wp2_with fail
        go_round
        case rel => exact ⟨i + 1, by have := HQ.out; omega, by have := HQ.out; rw [← this]; go_num, by rw [HN.out, HR.out]; simpa using HZ.out⟩
        case measure => simp [intOf]; omega
    · have HZ := Lib.hid (cut_high (s.data.toList.drop k) (by have := HR.out; rwa [List.take_of_length_le (by rw [HL.out]; omega)] at this))
      clear hq
      go_wp2_with fail
      go_ret
      refine ⟨?_, rfl⟩
      rw [HZ.out, HL.out]
      refine congrArg (fun b => Ending.returned (.bool b)) ?_
      show decide (_ : Prop) = _
      rw [decide_eq_decide]
      omega

set_option maxRecDepth 100000 in
theorem rfnext_out (s : ByteArray) (i : Int) (w : World) (h : i < 0 ∨ (s.size : Int) ≤ i) :
    Calls Try.prog 22 #[.string s, .int .i64 i] w fun e w' => e = .returned (.tuple #[.string ⟨#[]⟩, .int .i64 0, .int .i64 2]) ∧ w = w' := by
  by_cases h0 : i < 0
  · clear h
    go_enter Try.func22, Try.ntmps22
    go_wp2_with fail
    go_ret3
    exact ⟨rfl, rfl⟩
  · have h1 : (s.size : Int) ≤ i := by omega
    clear h
    go_enter Try.func22, Try.ntmps22
    go_wp2_with fail
    go_ret3
    exact ⟨rfl, rfl⟩

end Go.Proofs.Ytcogeflljcefjaa
