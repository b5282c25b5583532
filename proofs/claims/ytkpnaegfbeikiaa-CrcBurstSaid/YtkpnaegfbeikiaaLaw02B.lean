/-
  What CrcBurst answers: true, whatever it is given; nothing that was there is changed.
-/
import Derived.Test.YtkpnaegfbeikiaaLaw02W
import Derived.Test.YtkpnaegfbeikiaaBytesAt
namespace Go.Proofs.Ytkpnaegfbeikiaa
open Go.RowKit Go.Lib

set_option maxRecDepth 100000 in
set_option maxHeartbeats 800000 in
theorem burst_out (s : ByteArray) (t x : Int) (w : World) (h : (s.size : Int) = 0 ∨ 1000 < (s.size : Int)) :
    Calls Try.prog 5 #[.string s, .int .u16 t, .int .u32 x] w fun e w' => e = .returned (.bool true) ∧ Below w.heap.size w w' := by
  rcases h with h | h
  · have h0 : ((s.size : Int) == 0) = true := by simpa using h
    clear h
    go_enter Try.func5, Try.ntmps5
    go_wp2_with fail
    refine (awake02 _).mono ?_
    rintro e w3 ⟨rfl, hbel⟩
    go_wp2_with fail
    go_ret
    exact ⟨rfl, hbel⟩
  · have h0 : ((s.size : Int) == 0) = false := by rw [beq_eq_false_iff_ne]; omega
    go_enter Try.func5, Try.ntmps5
    go_wp2_with fail
    refine (awake02 _).mono ?_
    rintro e w3 ⟨rfl, hbel⟩
    go_wp2_with fail
    go_ret
    exact ⟨rfl, hbel⟩

theorem and_one {E n : Nat} (h : E < 4294967296) : bits .and .u32 ((E : Int) / 2 ^ n) 1 = ((E / 2 ^ n % 2 : Nat) : Int) := by
  have h1 := u32_and_nat (E / 2 ^ n) 1 (Nat.lt_of_le_of_lt (Nat.div_le_self _ _) h) (by omega)
  rw [nat_mask1] at h1
  have e : ((E / 2 ^ n : Nat) : Int) = (E : Int) / 2 ^ n := by rw [Int.natCast_ediv, Int.natCast_pow]; rfl
  rw [e] at h1
  exact h1

theorem low_pos {E n : Nat} (h : E % 2 = 1) (hn : 0 < n) : 0 < E % 2 ^ n := by
  obtain ⟨m, rfl⟩ : ∃ m, n = m + 1 := ⟨n - 1, by omega⟩
  have : E % 2 ^ (m + 1) % 2 = 1 := by rw [Nat.mod_mod_of_dvd _ (by exact ⟨2 ^ m, by rw [Nat.pow_succ, Nat.mul_comm]⟩)]; exact h
  omega

theorem flip_bits (c : UInt8) {m : Nat} (hm : m < 8) : (bits .xor .u8 (c.toNat : Int) ((2 : Int) ^ m % 256) = ((UInt8.ofNat (c.toNat ^^^ 2 ^ m)).toNat : Int)) ∧ (UInt8.ofNat (c.toNat ^^^ 2 ^ m)).toNat = c.toNat ^^^ 2 ^ m := by
  have hp : 2 ^ m < 2 ^ 8 := Nat.pow_lt_pow_right (by omega) hm
  have hc := c.toNat_lt
  have hx : c.toNat ^^^ 2 ^ m < 2 ^ 8 := Nat.xor_lt_two_pow (show c.toNat < 2 ^ 8 from by omega) hp
  have e : (UInt8.ofNat (c.toNat ^^^ 2 ^ m)).toNat = c.toNat ^^^ 2 ^ m := by
    rw [UInt8.toNat_ofNat']
    exact Nat.mod_eq_of_lt hx
  refine ⟨?_, e⟩
  have h2 : (2 : Int) ^ m % 256 = ((2 ^ m : Nat) : Int) := by
    have : ((2 ^ m : Nat) : Int) = (2 : Int) ^ m := by rw [Int.natCast_pow]; rfl
    rw [← this]
    have h3 : ((2 ^ m : Nat) : Int) < ((2 ^ 8 : Nat) : Int) := Int.ofNat_lt.2 hp
    exact Int.emod_eq_of_lt (Int.natCast_nonneg _) h3
  rw [e, h2]
  exact u8_xor_nat c.toNat (2 ^ m) (by omega) (by omega)

theorem burst_step {wr : World} {B : Nat} {l : List UInt8} {c : UInt8} {K n E N : Nat} (hat : BytesAt wr B l) (hj : (K + n) / 8 < l.length) (hc : l[(K + n) / 8] = c)
    (hnum : Cp.num l = N ^^^ (2 ^ K * (E % 2 ^ n))) (hb : E / 2 ^ n % 2 = 1) :
    ∃ l', l'.length = l.length ∧ BytesAt (wr.setCell ⟨B, (K + n) / 8, none⟩ (.int .u8 (bits .xor .u8 (c.toNat : Int) ((2 : Int) ^ ((K + n) % 8) % 256)))) B l' ∧ Cp.num l' = N ^^^ (2 ^ K * (E % 2 ^ (n + 1))) := by
  obtain ⟨f1, f2⟩ := flip_bits c (m := (K + n) % 8) (by omega)
  refine ⟨l.set ((K + n) / 8) (UInt8.ofNat (c.toNat ^^^ 2 ^ ((K + n) % 8))), by simp, ?_, ?_⟩
  · rw [f1]
    exact hat.set hj _
  · rw [Cp.num_set l _ ((K + n) % 8) hj _ (by rw [f2, hc]), hnum, Cp.low_succ, if_pos hb, Cp.shl_xor, ← Nat.pow_add, show 8 * ((K + n) / 8) + (K + n) % 8 = K + n from by omega, Nat.xor_assoc]

theorem u16_of {a : Int} (h : (Lit.int .u16 a).wf = true) : ∃ n : Nat, a = (n : Int) ∧ n < 65536 := by
  have h' : 0 ≤ a ∧ a ≤ 65535 := by simpa [Lit.wf, IntKind.min, IntKind.max, IntKind.signed, IntKind.bits] using h
  exact ⟨a.toNat, by omega, by omega⟩

theorem or_one_odd (x : Nat) : (x ||| 1) % 2 = 1 := by
  have h := @Nat.or_mod_two_pow x 1 1
  simp at h
  rw [h]
  rcases Nat.mod_two_eq_zero_or_one x with a | a <;> simp [a]

set_option maxRecDepth 100000 in
set_option maxHeartbeats 1600000 in
theorem burst_in (s : ByteArray) (t x : Nat) (w : World) (h0 : 0 < s.size) (h1 : (s.size : Int) ≤ 1000) (ht : t < 65536) (hx : x < 4294967296) :
    Calls Try.prog 5 #[.string s, .int .u16 (t : Int), .int .u32 (x : Int)] w fun e w' => e = .returned (.bool true) ∧ Below w.heap.size w w' := by
  have hne : ((s.size : Int) == 0) = false := by rw [beq_eq_false_iff_ne]; omega
  obtain ⟨cap, W, hcv, HBA, hbW, hlW⟩ := bytes_of w s
  have HA := Lib.hid HBA
  clear HBA
  have hor : bits .or .u32 (x : Int) 1 = ((x ||| 1 : Nat) : Int) := u32_or_nat x 1 hx (by omega)
  obtain ⟨E, hE⟩ : ∃ E, x ||| 1 = E := ⟨_, rfl⟩
  have hEl : E < 4294967296 := by rw [← hE]; exact Nat.or_lt_two_pow (show x < 2 ^ 32 from hx) (by omega)
  have HEo := Lib.hid (show E % 2 = 1 from by rw [← hE]; exact or_one_odd x)
  rw [hE] at hor
  clear hE
  have hmod : (t : Int) % (8 * (s.size : Int)) = ((t % (8 * s.size) : Nat) : Int) := by rw [Int.natCast_emod, Int.natCast_mul]; rfl
  have hKl := Nat.mod_lt t (show 8 * s.size > 0 by omega)
  obtain ⟨K, hK⟩ : ∃ K, t % (8 * s.size) = K := ⟨_, rfl⟩
  rw [hK] at hmod hKl
  clear hK
  have hs0 : (0 : Int) < (s.size : Int) := by omega
  have hd : decide (1000 < (s.size : Int)) = false := by simpa using h1
  go_enter Try.func5, Try.ntmps5
  go_wp2_with fail
  try rw [hmod]
  have hA : s.data.toList.length = s.size := by simp
  have HLen := Lib.hid hA
  clear hA hor hmod hcv
  obtain ⟨B, hB⟩ : ∃ B, w.heap.size = B := ⟨_, rfl⟩
  rw [hB] at HA hlW ⊢
  have HB := Lib.hid hB
  clear hB
  go_loopw [9] (fun i wr => ∃ (n : Nat) (l : List UInt8), n ≤ 32 ∧ K + n ≤ 8 * s.size ∧ i = .int .i64 n ∧ l.length = s.size ∧ BytesAt wr B l ∧ Cp.num l = Cp.num s.data.toList ^^^ (2 ^ K * (E % 2 ^ n)) ∧ Below B w wr ∧ B < wr.heap.size) (fun i _ => 32 - (intOf i).toNat)
  case atStart => exact ⟨0, s.data.toList, by omega, by omega, rfl, HLen.out, HA.out, by simp [Nat.mod_one], HB.out ▸ hbW, hlW⟩
  case round =>
    obtain ⟨n, l, hn, hkn, rfl, hll, hat, hnum, hbel, hlw⟩ := hrel
    have HLL := Lib.hid hll
    have HAT := Lib.hid hat
    have HNUM := Lib.hid hnum
    clear hll hat hnum
    by_cases hgo : n < 32 ∧ K + n < 8 * s.size
    · obtain ⟨g1, g2⟩ := hgo
      have hj : (K + n) / 8 < l.length := by rw [HLL.out]; omega
      obtain ⟨hcell, hfr⟩ := HAT.out _ hj
      obtain ⟨c, hc⟩ : ∃ c, l[(K + n) / 8] = c := ⟨_, rfl⟩
      rw [hc] at hcell
      have HC := Lib.hid (show ∃ h : (K + n) / 8 < l.length, l[(K + n) / 8] = c from ⟨hj, hc⟩)
      clear hc hj
      have hand := and_one (n := n) hEl
      have hcl := c.toNat_lt
      have HP := Lib.hid (Cp.low_succ E n)
      by_cases hbit : E / 2 ^ n % 2 = 1
      · have htest : (bits .and .u32 ((E : Int) / 2 ^ n) 1 == 1) = true := by rw [hand, hbit]; rfl
        have HBIT := Lib.hid hbit
        clear hbit hand
        go_wp2
        go_roundw
        case rel =>
          obtain ⟨hj, hc⟩ := HC.out
          obtain ⟨l', q1, q2, q3⟩ := burst_step HAT.out hj hc HNUM.out HBIT.out
          exact ⟨n + 1, l', by omega, by omega, by go_num, q1.trans HLL.out, q2, q3, hbel.setCell (Nat.le_refl _) _, by rw [World.size_setCell]; exact hlw⟩
        case measure => simp [intOf]; omega
      · have htest : (bits .and .u32 ((E : Int) / 2 ^ n) 1 == 1) = false := by rw [hand, beq_eq_false_iff_ne]; omega
        have HBIT := Lib.hid hbit
        clear hbit hand
        go_wp2
        go_roundw
        case rel => exact ⟨n + 1, l, by omega, by omega, by go_num, HLL.out, HAT.out, by rw [HNUM.out, HP.out, if_neg HBIT.out], hbel, hlw⟩
        case measure => simp [intOf]; omega
    · have hn0 : 0 < n := by omega
      have HE := Lib.hid (show Cp.sum 0 (cat [⟨l.toArray⟩]) ≠ Cp.sum 0 (cat [s]) from by
        have e1 : cat [⟨l.toArray⟩] = l := by simp [cat]
        rw [e1, cat_one]
        exact Cp.burst 0 _ _ K (E % 2 ^ n) (by rw [HLL.out, HLen.out]) (by rw [HLen.out]; omega) (Nat.lt_of_le_of_lt (Nat.mod_le _ _) hEl) (low_pos HEo.out hn0) HNUM.out)
      have hsz : (⟨l.toArray⟩ : ByteArray).size ≤ maxLen := by
        have : (⟨l.toArray⟩ : ByteArray).size = l.length := by simp [ByteArray.size]
        rw [this, HLL.out]; unfold maxLen; omega
      have hss : s.size ≤ maxLen := by unfold maxLen; omega
      have C1 := Lib.hid fun W : World => sum_any _ _ _ (IsStrs.one W ⟨l.toArray⟩ hsz)
      have C2 := Lib.hid fun W : World => sum_any _ _ _ (IsStrs.one W s hss)
      clear hsz hss hKl hn0
      generalize Cp.sum 0 (cat [⟨l.toArray⟩]) = y1 at C1 HE
      generalize Cp.sum 0 (cat [s]) = y2 at C2 HE
      have t1 : ((y1 : Int) == (y2 : Int)) = false := by rw [beq_eq_false_iff_ne]; intro h; exact HE.out (by omega)
      have t2 : ((y1 : Int) != (y2 : Int)) = true := by rw [bne, t1]; rfl
      by_cases g1 : n < 32
      · have g2 : K + n = 8 * s.size := by omega
        clear hgo
        have g3 : (8 : Int) * s.size ≤ K + n := by omega
        have G2 := Lib.hid g2
        clear g2
        go_wp2_with fail
        refine (awake02 _).mono ?_
        rintro e w1 ⟨rfl, b1⟩
        have hcv := (HAT.out.below b1 hlw).conv cap
        rw [HLL.out] at hcv
        go_wp2_with fail
        refine (C1.out _).mono ?_
        rintro e w2 ⟨rfl, b2⟩
        go_wp2_with fail
        refine (C2.out _).mono ?_
        rintro e w3 ⟨rfl, b3⟩
        go_wp2_with fail
        go_ret
        have q1 := bel_of_alloc b2
        have q2 := bel_of_alloc b3
        have q0 : Below w.heap.size w wr := by rw [HB.out]; exact hbel
        exact ⟨rfl, bel_trans2 (bel_trans2 (bel_trans2 q0 b1) q1) q2⟩
      · clear hgo
        go_wp2_with fail
        refine (awake02 _).mono ?_
        rintro e w1 ⟨rfl, b1⟩
        have hcv := (HAT.out.below b1 hlw).conv cap
        rw [HLL.out] at hcv
        go_wp2_with fail
        refine (C1.out _).mono ?_
        rintro e w2 ⟨rfl, b2⟩
        go_wp2_with fail
        refine (C2.out _).mono ?_
        rintro e w3 ⟨rfl, b3⟩
        go_wp2_with fail
        go_ret
        have q1 := bel_of_alloc b2
        have q2 := bel_of_alloc b3
        have q0 : Below w.heap.size w wr := by rw [HB.out]; exact hbel
        exact ⟨rfl, bel_trans2 (bel_trans2 (bel_trans2 q0 b1) q1) q2⟩

end Go.Proofs.Ytkpnaegfbeikiaa
