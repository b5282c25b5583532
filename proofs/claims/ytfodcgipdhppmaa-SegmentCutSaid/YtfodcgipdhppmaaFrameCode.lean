/-
  What frame's functions answer: Size, Put, Next; nothing that was there is changed.
-/
import Derived.Test.YtfodcgipdhppmaaFramePlain
import Derived.Test.YtfodcgipdhppmaaStrsNew
import Derived.Test.YtfodcgipdhppmaaVarRead
import Derived.Test.YtfodcgipdhppmaaVarLen
import Derived.Deep.RegionWith
import Derived.Deep.RegionHeld3
import Derived.Deep.DeepCutAuto
import Derived.Lib.Strings
import Derived.Outline
namespace Go.Proofs.Ytfodcgipdhppmaa
open Go.RowKit

theorem four_same (x : Nat) : fourB x = Fr.four x := rfl

set_option maxRecDepth 100000 in
theorem may_yes (n : Int) (w : World) (h1 : 1 ≤ n) (h2 : n ≤ 65536) :
    Calls Try.prog 38 #[.int .i64 n] w fun e w' => e = .returned (.bool true) ∧ w = w' := by
  go_enter Try.func38, Try.ntmps38
  go_wp2_with fail
  go_ret
  exact ⟨rfl, rfl⟩
set_option maxRecDepth 100000 in
theorem may_no (n : Int) (w : World) (h : n < 1 ∨ 65536 < n) :
    Calls Try.prog 38 #[.int .i64 n] w fun e w' => e = .returned (.bool false) ∧ w = w' := by
  by_cases h1 : n < 1
  · clear h
    go_enter Try.func38, Try.ntmps38
    go_wp2_with fail
    go_ret
    exact ⟨rfl, rfl⟩
  · have h2 : 65536 < n := by omega
    have h3 : 1 ≤ n := by omega
    have h4 : decide (n ≤ 65536) = false := by simp; omega
    clear h h1
    go_enter Try.func38, Try.ntmps38
    go_wp2_with fail
    go_ret
    exact ⟨rfl, rfl⟩

/-- How many bytes a frame has. -/
def sizeI (n : Int) : Int := if n < 1 ∨ 65536 < n then 0 else ((putI n).length : Int) + 4 + n
theorem sizeI_no {n : Int} (h : n < 1 ∨ 65536 < n) : sizeI n = 0 := by unfold sizeI; rw [if_pos h]
theorem sizeI_yes {n : Int} (h : ¬ (n < 1 ∨ 65536 < n)) : sizeI n = ((putI n).length : Int) + 4 + n := by unfold sizeI; rw [if_neg h]
theorem putI_len_le (n : Int) : (putI n).length ≤ 9 := by
  unfold putI
  split
  · simp
  · exact Vp.put_len_le _


theorem frame_str (s : ByteArray) (n f : List UInt8) : Value.string (⟨n.toArray⟩ ++ ⟨f.toArray⟩ ++ s) = Value.string ⟨(n ++ f ++ s.data.toList).toArray⟩ := by
  refine congrArg Value.string (ByteArray.ext ?_)
  simp




set_option maxRecDepth 100000 in
set_option maxHeartbeats 800000 in
theorem isCut_any (s : ByteArray) (w : World) (hs : s.size ≤ maxLen) :
    Calls Try.prog 36 #[.string s] w fun e w' => e = .returned (.bool (Fr.cutB s.data.toList)) ∧ w = w' := by
  unfold maxLen at hs
  by_cases h8 : 8 < s.size
  · have e : Fr.cutB s.data.toList = false := by
      unfold Fr.cutB
      rw [Bool.and_eq_false_iff]
      left
      simpa using h8
    rw [e]
    go_enter Try.func36, Try.ntmps36
    go_wp2_with fail
    go_ret
    exact ⟨rfl, rfl⟩
  · have h8' : s.size ≤ 8 := by omega
    go_enter Try.func36, Try.ntmps36
    go_wp2_with fail
    go_loop [9] (fun i => ∃ k : Nat, k ≤ s.size ∧ i = .int .i64 k ∧ Fr.highB (s.data.toList.take k) = true) (fun i => s.size - (intOf i).toNat)
    case atStart => exact ⟨0, Nat.zero_le _, rfl, rfl⟩
    case round =>
      obtain ⟨k, hk, rfl, hr⟩ := hrel
      have HR := Lib.hid hr
      clear hr
      by_cases hlt : k < s.size
      · have HN := Lib.hid (Fr.highB_snoc s k hlt)
        by_cases hb : s[k].toNat < 128
        · have HZ := Lib.hid (Fr.cutB_low s k hlt hb)
          have hb' : ((s[k].toNat : Nat) : Int) < 128 := by omega
          go_wp2_with fail
          go_ret
          exact ⟨by rw [HZ.out]; rfl, rfl⟩
        · have hb' : 128 ≤ ((s[k].toNat : Nat) : Int) := by omega
          have HZ := Lib.hid (show 128 ≤ s[k].toNat by omega)
          clear hb
          go_wp2_with fail
          go_round
          case rel => exact ⟨k + 1, by omega, by go_num, by rw [HN.out, HR.out]; simpa using HZ.out⟩
          case measure => simp [intOf]; omega
      · have HZ := Lib.hid (Fr.cutB_all s h8' (by have := HR.out; rwa [List.take_of_length_le (by simp; omega)] at this))
        go_wp2_with fail
        go_ret
        exact ⟨by rw [HZ.out]; rfl, rfl⟩

end Go.Proofs.Ytfodcgipdhppmaa
