/-
  What the two Len functions answer: how many bytes Put's answer has; varint.Len changes nothing at all.
-/
import Derived.Test.YtjcokcnlbofbkaaVarPut
import Derived.Test.YtjcokcnlbofbkaaBits
import Derived.Lib.ItoaNum
import Derived.Lib.Hide
namespace Go.Proofs.Ytjcokcnlbofbkaa
open Go.RowKit

theorem len_plain (n : Nat) (h : n < 9223372036854775808) : max 1 ((Lib.bitLen n + 6) / 7) = (Vp.put n).length := by
  by_cases h0 : n = 0
  · subst h0; decide
  · obtain ⟨h1, h2, h3⟩ := Lib.bitLenAux_bounds 64 n (by omega) h0
    have e : Lib.bitLenAux 64 n = Lib.bitLen n := rfl
    rw [e] at h1 h2 h3
    have h63 : Lib.bitLen n ≤ 63 := by
      rcases Nat.lt_or_ge 63 (Lib.bitLen n) with hl | hl
      · have := Nat.pow_le_pow_right (n := 2) (by omega) (show 63 ≤ Lib.bitLen n - 1 by omega)
        omega
      · exact hl
    generalize Lib.bitLen n = L at *
    have a : 2 ^ (7 * ((L - 1) / 7)) ≤ n := Nat.le_trans (Nat.pow_le_pow_right (by omega) (by omega)) h2
    have b : n < 2 ^ (7 * ((L - 1) / 7 + 1)) := Nat.lt_of_lt_of_le h3 (Nat.pow_le_pow_right (by omega) (by omega))
    have := Vp.putF_len_iff 9 n ((L - 1) / 7) a b (by omega)
    unfold Vp.put
    rw [this]
    omega

theorem ret_int {k : IntKind} {a b : Int} (h : a = b) : Ending.returned (.int k a) = .returned (.int k b) := by rw [h]

theorem bitLen_le (n : Nat) (h : n < 9223372036854775808) : Lib.bitLen n ≤ 64 := by
  by_cases h0 : n = 0
  · subst h0; decide
  · obtain ⟨h1, h2, h3⟩ := Lib.bitLenAux_bounds 64 n (by omega) h0
    have e : Lib.bitLenAux 64 n = Lib.bitLen n := rfl
    rw [e] at h1 h2 h3
    rcases Nat.lt_or_ge 63 (Lib.bitLen n) with hl | hl
    · have := Nat.pow_le_pow_right (n := 2) (by omega) (show 63 ≤ Lib.bitLen n - 1 by omega)
      omega
    · omega

set_option maxRecDepth 100000 in
set_option maxHeartbeats 400000 in
theorem len_any (n : Int) (w : World) (hlo : -9223372036854775808 ≤ n) (hhi : n ≤ 9223372036854775807) :
    Calls Try.prog 34 #[.int .i64 n] w fun e w' => e = .returned (.int .i64 ((putI n).length : Int)) ∧ w = w' := by
  by_cases hn : n < 0
  · have e0 : putI n = [] := by unfold putI; rw [if_pos hn]
    rw [e0]
    go_enter Try.func34, Try.ntmps34
    go_wp2_with fail
    go_ret
    exact ⟨rfl, rfl⟩
  · obtain ⟨n, rfl⟩ : ∃ k : Nat, n = (k : Int) := ⟨n.toNat, by omega⟩
    have e0 : putI n = Vp.put n := by unfold putI; rw [if_neg hn]; simp
    rw [e0, ← len_plain n (by omega)]
    clear e0
    go_enter Try.func34, Try.ntmps34
    go_wp2_with fail
    refine (Try.bits_Len _ _ (by omega) (by omega)).mono ?_
    rintro e w' ⟨rfl, rfl⟩
    rw [Int.toNat_natCast]
    have hb := bitLen_le n (by omega)
    obtain ⟨L, hL⟩ : ∃ L, Lib.bitLen n = L := ⟨_, rfl⟩
    rw [hL] at hb
    rw [hL]
    have HL := Lib.hid hL
    clear hL
    go_wp2_with fail
    go_ret
    refine ⟨ret_int ?_, rfl⟩
    show max 1 (((L : Int) + 7 - 1) / 7) = _
    rw [HL.out]
    omega

/-- 'len' of a text made of a list. -/
theorem size_mk_list (l : List UInt8) : (ByteArray.mk l.toArray).size = l.length := by simp [ByteArray.size]

end Go.Proofs.Ytjcokcnlbofbkaa
