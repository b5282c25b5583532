/-
  What frame's functions answer: Size, Put, Next; nothing that was there is changed.
-/
import Derived.Test.YtcogeflljcefjaaFramePlain
import Derived.Test.YtcogeflljcefjaaStrsNew
import Derived.Test.YtcogeflljcefjaaVarRead
import Derived.Test.YtcogeflljcefjaaVarLen
import Derived.Deep.RegionWith
import Derived.Deep.RegionHeld3
import Derived.Deep.DeepCutAuto
import Derived.Lib.Strings
import Derived.Outline
namespace Go.Proofs.Ytcogeflljcefjaa
open Go.RowKit

theorem four_same (x : Nat) : fourB x = Fr.four x := rfl

set_option maxRecDepth 100000 in
theorem may_yes (n : Int) (w : World) (h1 : 1 ≤ n) (h2 : n ≤ 65536) :
    Calls Try.prog 27 #[.int .i64 n] w fun e w' => e = .returned (.bool true) ∧ w = w' := by
  go_enter Try.func27, Try.ntmps27
  go_wp2_with fail
  go_ret
  exact ⟨rfl, rfl⟩
set_option maxRecDepth 100000 in
theorem may_no (n : Int) (w : World) (h : n < 1 ∨ 65536 < n) :
    Calls Try.prog 27 #[.int .i64 n] w fun e w' => e = .returned (.bool false) ∧ w = w' := by
  by_cases h1 : n < 1
  · clear h
    go_enter Try.func27, Try.ntmps27
    go_wp2_with fail
    go_ret
    exact ⟨rfl, rfl⟩
  · have h2 : 65536 < n := by omega
    have h3 : 1 ≤ n := by omega
    have h4 : decide (n ≤ 65536) = false := by simp; omega
    clear h h1
    go_enter Try.func27, Try.ntmps27
    go_wp2_with fail
    go_ret
    exact ⟨rfl, rfl⟩

/-- How many bytes a frame has. -/
def sizeI (n : Int) : Int := if n < 1 ∨ 65536 < n then 0 else ((putI n).length : Int) + 4 + n
theorem sizeI_no {n : Int} (h : n < 1 ∨ 65536 < n) : sizeI n = 0 := by unfold sizeI; rw [if_pos h]
theorem sizeI_yes {n : Int} (h : ¬ (n < 1 ∨ 65536 < n)) : sizeI n = ((putI n).length : Int) + 4 + n := by unfold sizeI; rw [if_neg h]
theorem putI_len_le (n : Int) : (putI n).length ≤ 9 := by
  unfold putI
  split
  · simp
  · exact Vp.put_len_le _


theorem frame_str (s : ByteArray) (n f : List UInt8) : Value.string (⟨n.toArray⟩ ++ ⟨f.toArray⟩ ++ s) = Value.string ⟨(n ++ f ++ s.data.toList).toArray⟩ := by
  refine congrArg Value.string (ByteArray.ext ?_)
  simp

set_option maxRecDepth 100000 in
theorem fput_no (s : ByteArray) (w : World) (h : ¬ Fr.May s.size) :
    Calls Try.prog 16 #[.string s] w fun e w' => e = .returned (.tuple #[.string ⟨#[]⟩, .int .i64 5]) ∧ w = w' := by
  have C := Lib.hid fun W : World => may_no (s.size : Int) W (by unfold Fr.May at h; omega)
  clear h
  go_enter Try.func16, Try.ntmps16
  go_wp2_with fail
  refine (C.out _).mono ?_
  rintro e w' ⟨rfl, rfl⟩
  go_wp2_with fail
  go_ret2
  exact ⟨rfl, rfl⟩

set_option maxRecDepth 100000 in
set_option maxHeartbeats 800000 in
theorem fput_yes (s : ByteArray) (w : World) (h : Fr.May s.size) :
    Calls Try.prog 16 #[.string s] w fun e w' => e = .returned (.tuple #[.string ⟨(Fr.fr s.data.toList).toArray⟩, .int .i64 0]) ∧ Below w.heap.size w w' := by
  have hb : s.size ≤ 65536 := h.2
  have hb1 : 1 ≤ s.size := h.1
  clear h
  have C := Lib.hid fun W : World => may_yes (s.size : Int) W (by omega) (by omega)
  have D := Lib.hid fun W : World => put_any (s.size : Int) W (by omega) (by omega)
  have e0 : putI (s.size : Int) = Vp.put s.data.toList.length := by rw [show s.data.toList.length = s.size from by simp]; unfold putI; rw [if_neg (by omega)]; simp
  rw [e0] at D
  have E0 : ∀ W : World, IsStrs (W.alloc (.cells #[.string ⟨(Vp.put s.data.toList.length).toArray⟩, .string s] 9)) (.slice (some ⟨W.heap.size, 0, none⟩) 2 2) [⟨(Vp.put s.data.toList.length).toArray⟩, s] := fun W =>
    IsStrs.lits W [⟨(Vp.put s.data.toList.length).toArray⟩, s] (show 2 ≤ maxLen by decide) (fun x hx => by
      simp only [List.mem_cons, List.not_mem_nil, or_false] at hx
      rcases hx with rfl | rfl
      · have := Vp.put_len_le s.data.toList.length; rw [size_mk_list]; unfold maxLen; omega
      · unfold maxLen; omega)
  have E := Lib.hid fun W : World => sum_any _ _ _ (E0 W)
  have e1 : cat [⟨(Vp.put s.data.toList.length).toArray⟩, s] = Vp.put s.data.toList.length ++ s.data.toList := by simp [cat]
  rw [e1] at E
  have F := Lib.hid fun W : World => four_any (Cp.sum 0 (Vp.put s.data.toList.length ++ s.data.toList)) W (Cp.sum_lt _ _)
  rw [four_same] at F
  unfold Fr.fr
  rw [← frame_str]
  have hpl := Vp.put_len_le s.data.toList.length
  obtain ⟨P, hP⟩ : ∃ P, Vp.put s.data.toList.length = P := ⟨_, rfl⟩
  rw [hP] at D E F hpl ⊢
  clear hP E0 e0 e1
  obtain ⟨X, hX⟩ : ∃ X, Cp.sum 0 (P ++ s.data.toList) = X := ⟨_, rfl⟩
  rw [hX] at E F ⊢
  clear hX
  have hfl : (Fr.four X).length ≤ 4 := by rw [Fr.four_len]; exact Nat.le_refl _
  generalize Fr.four X = f at F hfl ⊢
  go_enter Try.func16, Try.ntmps16
  go_wp2_with fail
  refine (C.out _).mono ?_
  rintro e w' ⟨rfl, rfl⟩
  go_wp2_with fail
  refine (D.out _).mono ?_
  rintro e w1 ⟨rfl, b1⟩
  go_wp2_with fail
  refine (E.out _).mono ?_
  rintro e w2 ⟨rfl, b2⟩
  go_wp2_with fail
  refine (F.out _).mono ?_
  rintro e w3 ⟨rfl, b3⟩
  go_wp2_with fail
  go_ret2
  exact ⟨rfl, bel_trans2 (bel_trans2 b1 (bel_of_alloc b2)) b3⟩


set_option maxRecDepth 100000 in
set_option maxHeartbeats 800000 in
theorem isCut_any (s : ByteArray) (w : World) (hs : s.size ≤ maxLen) :
    Calls Try.prog 29 #[.string s] w fun e w' => e = .returned (.bool (Fr.cutB s.data.toList)) ∧ w = w' := by
  unfold maxLen at hs
  by_cases h8 : 8 < s.size
  · have e : Fr.cutB s.data.toList = false := by
      unfold Fr.cutB
      rw [Bool.and_eq_false_iff]
      left
      simpa using h8
    rw [e]
    go_enter Try.func29, Try.ntmps29
    go_wp2_with fail
    go_ret
    exact ⟨rfl, rfl⟩
  · have h8' : s.size ≤ 8 := by omega
    go_enter Try.func29, Try.ntmps29
    go_wp2_with fail
    go_loop [9] (fun i => ∃ k : Nat, k ≤ s.size ∧ i = .int .i64 k ∧ Fr.highB (s.data.toList.take k) = true) (fun i => s.size - (intOf i).toNat)
    case atStart => exact ⟨0, Nat.zero_le _, rfl, rfl⟩
    case round =>
      obtain ⟨k, hk, rfl, hr⟩ := hrel
      have HR := Lib.hid hr
      clear hr
      by_cases hlt : k < s.size
      · have HN := Lib.hid (Fr.highB_snoc s k hlt)
        by_cases hb : s[k].toNat < 128
        · have HZ := Lib.hid (Fr.cutB_low s k hlt hb)
          have hb' : ((s[k].toNat : Nat) : Int) < 128 := by omega
          go_wp2_with fail
          go_ret
          exact ⟨by rw [HZ.out]; rfl, rfl⟩
        · have hb' : 128 ≤ ((s[k].toNat : Nat) : Int) := by omega
          have HZ := Lib.hid (show 128 ≤ s[k].toNat by omega)
          clear hb
          go_wp2_with fail
          go_round
          case rel => exact ⟨k + 1, by omega, by go_num, by rw [HN.out, HR.out]; simpa using HZ.out⟩
          case measure => simp [intOf]; omega
      · have HZ := Lib.hid (Fr.cutB_all s h8' (by have := HR.out; rwa [List.take_of_length_le (by simp; omega)] at this))
        go_wp2_with fail
        go_ret
        exact ⟨by rw [HZ.out]; rfl, rfl⟩

end Go.Proofs.Ytcogeflljcefjaa
