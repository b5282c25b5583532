/-
  What the document's Same answers of two slices of strings: whether they are the same.
-/
import Derived.Test.YtnkgbmfpfdadjaaStrsNew
import Derived.Lib.Strings
import Derived.Deep.QuietTactic
import Derived.BigQuiet
import Derived.Outline
namespace Go.Proofs.Ytnkgbmfpfdadjaa
open Go.RowKit

theorem strs_cell {w : World} {b off : Nat} {ss : List ByteArray} (h : ss = [] ∨ ∃ b' off', (some ⟨b, off, none⟩ : Option Addr) = some ⟨b', off', none⟩ ∧ ∀ i, i < ss.length → w.cell? ⟨b', off' + i, none⟩ = some (.string (ss.getD i ByteArray.empty))) {k : Nat} (hk : k < ss.length) :
    w.cell? ⟨b, off + k, none⟩ = some (.string (ss.getD k ByteArray.empty)) := by
  rcases h with rfl | ⟨b', off', he, h⟩
  · simp at hk
  · injection he with he
    injection he with h1 h2
    subst h1; subst h2
    exact h k hk

theorem take_snoc_eq {ss tt : List ByteArray} {k : Nat} (h : ss.take k = tt.take k) (h1 : k < ss.length) (h2 : k < tt.length) (he : ss.getD k ByteArray.empty = tt.getD k ByteArray.empty) : ss.take (k + 1) = tt.take (k + 1) := by
  have e1 : ss.getD k ByteArray.empty = ss[k] := by simp [List.getD_eq_getElem?_getD, h1]
  have e2 : tt.getD k ByteArray.empty = tt[k] := by simp [List.getD_eq_getElem?_getD, h2]
  rw [List.take_succ_eq_append_getElem h1, List.take_succ_eq_append_getElem h2, h, ← e1, ← e2, he]
theorem getD_ne {ss tt : List ByteArray} {k : Nat} (h : ss.getD k ByteArray.empty ≠ tt.getD k ByteArray.empty) : ss ≠ tt := by rintro rfl; exact h rfl

set_option maxRecDepth 100000 in
set_option maxHeartbeats 800000 in
theorem same_len (ss tt : List ByteArray) (a b : Option Addr) (c d : Nat) (w : World) (h : ss.length ≠ tt.length) :
    Calls Try.prog 17 #[.slice a ss.length c, .slice b tt.length d] w fun e w' => e = .returned (.bool (decide (ss = tt))) ∧ ∃ n, w' = w.drewN n := by
  have hf : decide (ss = tt) = false := by rw [decide_eq_false_iff_not]; rintro rfl; exact h rfl
  rw [hf]
  generalize ss.length = n1 at *
  generalize tt.length = n2 at *
  have h1 : ¬ (n1 : Int) = (n2 : Int) := by omega
  have h2 : ((n1 : Int) == (n2 : Int)) = false := by rw [beq_eq_false_iff_ne]; exact h1
  have h3 : (n1 == n2) = false := by simpa using h
  go_enter Try.func17, Try.ntmps17
  go_wp2_with fail
  go_ret
  exact ⟨rfl, 0, rfl⟩

set_option maxRecDepth 100000 in
set_option maxHeartbeats 800000 in
theorem same_none (a b : Option Addr) (c d : Nat) (w : World) :
    Calls Try.prog 17 #[.slice a 0 c, .slice b 0 d] w fun e w' => e = .returned (.bool true) ∧ ∃ n, w' = w.drewN n := by
  go_enter Try.func17, Try.ntmps17
  go_wp2_with fail
  refine wp_loop_rounds 1 ?_
  rw [rounds_succ]
  go_wp2_with fail
  go_ret
  exact ⟨rfl, 0, rfl⟩

set_option maxRecDepth 100000 in
set_option maxHeartbeats 1600000 in
theorem same_some (ss tt : List ByteArray) (a b o1 o2 c d len : Nat) (w : World) (hl1 : ss.length = len) (hl2 : tt.length = len) (hm : len ≤ maxLen)
    (hc1 : ∀ i, i < ss.length → w.cell? ⟨a, o1 + i, none⟩ = some (.string (ss.getD i ByteArray.empty))) (hc2 : ∀ i, i < tt.length → w.cell? ⟨b, o2 + i, none⟩ = some (.string (tt.getD i ByteArray.empty))) :
    Calls Try.prog 17 #[.slice (some ⟨a, o1, none⟩) len c, .slice (some ⟨b, o2, none⟩) len d] w fun e w' => e = .returned (.bool (decide (ss = tt))) ∧ ∃ n, w' = w.drewN n := by
  unfold maxLen at hm
  have HL1 := Lib.hid hl1
  have HL2 := Lib.hid hl2
  rw [hl1] at hc1
  rw [hl2] at hc2
  have HC1 := Lib.hid hc1
  have HC2 := Lib.hid hc2
  clear hl1 hl2 hc1 hc2
  go_enter Try.func17, Try.ntmps17
  go_wp2_with fail
  go_loopw [5] (fun i wr => ∃ k n : Nat, k ≤ len ∧ i = .int .i64 k ∧ ss.take k = tt.take k ∧ wr = w.drewN n) (fun i _ => len - (intOf i).toNat)
  case atStart => exact ⟨0, 0, Nat.zero_le _, rfl, rfl, rfl⟩
  case round =>
    obtain ⟨k, n, hk, rfl, ht, rfl⟩ := hrel
    have HT := Lib.hid ht
    clear ht
    by_cases hlt : k < len
    · have c1 := HC1.out k hlt
      have c2 := HC2.out k hlt
      have HN := Lib.hid (take_snoc_eq HT.out (by rw [HL1.out]; exact hlt) (by rw [HL2.out]; exact hlt))
      have HE := Lib.hid (@getD_ne ss tt k)
      obtain ⟨s1, hs1⟩ : ∃ s, ss.getD k ByteArray.empty = s := ⟨_, rfl⟩
      obtain ⟨s2, hs2⟩ : ∃ s, tt.getD k ByteArray.empty = s := ⟨_, rfl⟩
      rw [hs1] at c1 HN HE
      rw [hs2] at c2 HN HE
      clear hs1 hs2
      by_cases he : s1 = s2
      · subst he
        go_wp2_with fail
        go_quiet (fail)
        go_wp2_with fail
        go_roundw
        case rel => exact ⟨k + 1, _, by omega, by go_num, HN.out (by trivial), rfl⟩
        case measure => simp [intOf]; omega
      · have hb1 : (s1.toList == s2.toList) = false := by
          rw [Lib.toList_data, Lib.toList_data, beq_eq_false_iff_ne]
          intro hh
          exact he (ByteArray.ext (Array.ext' hh))
        have hf : decide (ss = tt) = false := by rw [decide_eq_false_iff_not]; exact HE.out he
        have HF := Lib.hid hf
        clear hf
        go_wp2_with fail
        go_quiet (fail)
        go_wp2_with fail
        go_ret
        exact ⟨by rw [HF.out]; rfl, _, World.drewN_drewN _ _ _⟩
    · have hf : decide (ss = tt) = true := by
        have h := HT.out
        rw [List.take_of_length_le (by rw [HL1.out]; omega), List.take_of_length_le (by rw [HL2.out]; omega)] at h
        exact decide_eq_true h
      have HF := Lib.hid hf
      clear hf
      go_wp2_with fail
      go_ret
      exact ⟨by rw [HF.out]; rfl, _, rfl⟩

theorem same_any (v1 v2 : Value) (ss tt : List ByteArray) (w : World) (h1 : IsStrs w v1 ss) (h2 : IsStrs w v2 tt) :
    Calls Try.prog 17 #[v1, v2] w fun e w' => e = .returned (.bool (decide (ss = tt))) ∧ ∃ n, w' = w.drewN n := by
  obtain ⟨a, c, rfl, m1, _, h3⟩ := h1
  obtain ⟨b, d, rfl, _, _, h4⟩ := h2
  by_cases hl : ss.length = tt.length
  · rcases h3 with rfl | ⟨a', o1, rfl, h3⟩
    · have : tt = [] := List.eq_nil_of_length_eq_zero hl.symm
      subst this
      exact same_none a b c d w
    · rcases h4 with rfl | ⟨b', o2, rfl, h4⟩
      · have : ss = [] := List.eq_nil_of_length_eq_zero hl
        subst this
        exact same_none _ b c d w
      · rw [← hl]
        exact same_some ss tt a' b' o1 o2 c d ss.length w rfl hl.symm m1 h3 h4
  · exact same_len ss tt a b c d w hl

end Go.Proofs.Ytnkgbmfpfdadjaa
