/-
  What VarintJoins answers: true, whatever numbers it is given; nothing that was there is changed.
-/
import Derived.Test.YtebjpiihapiklaaLaw01W
namespace Go.Proofs.Ytebjpiihapiklaa
open Go.RowKit

/-- The bytes of the first k numbers, one behind the other. -/
def jn (zs : List Int) (k : Nat) : List UInt8 := ((zs.take k).map fun z => Vp.put (z / 2).toNat).flatten
theorem jn_succ {zs : List Int} {k : Nat} (h : k < zs.length) : jn zs (k + 1) = jn zs k ++ Vp.put (zs.getD k 0 / 2).toNat := by
  unfold jn
  have e : zs.getD k 0 = zs[k] := by simp [List.getD_eq_getElem?_getD, h]
  rw [List.take_succ_eq_append_getElem h, List.map_append, List.flatten_append, e]
  simp
theorem jn_len (zs : List Int) : ∀ k, (jn zs k).length ≤ 9 * k := by
  intro k
  induction k with
  | zero => simp [jn]
  | succ k ih =>
    rcases Nat.lt_or_ge k zs.length with h | h
    · rw [jn_succ h, List.length_append]
      have := Vp.put_len_le (zs.getD k 0 / 2).toNat
      omega
    · have : jn zs (k + 1) = jn zs k := by
        unfold jn
        rw [List.take_of_length_le (by omega), List.take_of_length_le (by omega)]
      rw [this]; omega
theorem jn_split {zs : List Int} {k n : Nat} (hk : k ≤ n) : ∃ r, jn zs n = jn zs k ++ r := by
  unfold jn
  refine ⟨(((zs.take n).drop k).map fun z => Vp.put (z / 2).toNat).flatten, ?_⟩
  have e : zs.take n = zs.take k ++ (zs.take n).drop k := by
    have := List.take_append_drop k (zs.take n)
    rw [List.take_take, Nat.min_eq_left hk] at this
    exact this.symm
  conv => lhs; rw [e]
  rw [List.map_append, List.flatten_append]

theorem putI_pos_eq {a : Int} (h : 0 ≤ a) : putI a = Vp.put a.toNat := by
  unfold putI; rw [if_neg (by omega)]

theorem joins_read (S a : List UInt8) (n : Nat) (r : List UInt8) (h : S = a ++ Vp.put n ++ r) (hn : n < 9223372036854775808) :
    rdAt ⟨S.toArray⟩ (a.length : Int) = .tuple #[.int .i64 (n : Int), .int .i64 ((a.length : Int) + ((Vp.put n).length : Int)), .bool true] := by
  unfold rdAt
  rw [if_neg (by omega), Int.toNat_natCast]
  have e : (List.drop a.length (ByteArray.mk S.toArray).data.toList) = Vp.put n ++ r := by
    subst h; simp
  rw [e, rdVal_some _ (Vp.take_put n r hn)]

set_option maxRecDepth 100000 in
set_option maxHeartbeats 800000 in
theorem joins_long (a : Option Addr) (len cap : Nat) (w : World) (hl : 20 < len) :
    Calls Try.prog 7 #[.slice a len cap] w fun e w' => e = .returned (.bool true) ∧ Below w.heap.size w w' := by
  have hl' : (20 : Int) < (len : Int) := by omega
  go_enter Try.func7, Try.ntmps7
  go_wp2_with fail
  refine (awake01 _).mono ?_
  rintro e w3 ⟨rfl, hbel⟩
  go_wp2_with fail
  go_ret
  exact ⟨rfl, hbel⟩

set_option maxRecDepth 100000 in
set_option maxHeartbeats 800000 in
theorem joins_none (a : Option Addr) (cap : Nat) (w : World) :
    Calls Try.prog 7 #[.slice a 0 cap] w fun e w' => e = .returned (.bool true) ∧ Below w.heap.size w w' := by
  go_enter Try.func7, Try.ntmps7
  go_wp2_with fail
  refine wp_loop_rounds 1 ?_
  rw [rounds_succ]
  go_wp2_with fail
  refine wp_loop_rounds 1 ?_
  rw [rounds_succ]
  go_wp2_with fail
  refine (awake01 _).mono ?_
  rintro e w3 ⟨rfl, hbel⟩
  go_wp2_with fail
  go_ret
  exact ⟨rfl, hbel⟩

set_option maxRecDepth 100000 in
set_option maxHeartbeats 1600000 in
theorem joins_some (b off len cap : Nat) (zs : List Int) (w : World) (hl : len ≤ 20) (hz : len ≤ zs.length) (hc : ∀ i, i < len → w.cell? ⟨b, off + i, none⟩ = some (.int .u64 (zs.getD i 0)))
    (hr : ∀ i, i < len → 0 ≤ zs.getD i 0 ∧ zs.getD i 0 ≤ 18446744073709551615) :
    Calls Try.prog 7 #[.slice (some ⟨b, off, none⟩) len cap] w fun e w' => e = .returned (.bool true) ∧ Below w.heap.size w w' := by
  have HC := Lib.hid hc
  have HR := Lib.hid hr
  clear hc hr
  have hl' : (len : Int) ≤ 20 := by omega
  go_enter Try.func7, Try.ntmps7
  go_wp2_with fail
  go_loopw [3, 4] (fun v i wr => ∃ k : Nat, k ≤ len ∧ i = .int .i64 k ∧ v = .string ⟨(jn zs k).toArray⟩ ∧ Below w.heap.size w wr) (fun _ i _ => len - (intOf i).toNat)
  case atStart => exact ⟨0, by omega, rfl, rfl, Below.refl _ _⟩
  case round =>
    obtain ⟨k, hk, rfl, rfl, hbel⟩ := hrel
    by_cases hlt : k < len
    · have hcw := HC.out k hlt
      have hcell : wr.cell? ⟨b, off + k, none⟩ = some (.int .u64 (zs.getD k 0)) := by
        rw [hbel.cell (p := ⟨b, off + k, none⟩) (block_lt_of_cell hcw)]; exact hcw
      clear hcw
      obtain ⟨hz1, hz2⟩ := HR.out k hlt
      have HJ := Lib.hid (jn_succ (zs := zs) (k := k) (by omega))
      have hjl := jn_len zs k
      obtain ⟨z, hzz⟩ : ∃ z, zs.getD k 0 = z := ⟨_, rfl⟩
      rw [hzz] at hcell hz1 hz2 HJ
      clear hzz
      go_wp2_with fail
      refine (put_any _ _ (by omega) (by omega)).mono ?_
      rintro e w4 ⟨rfl, b3⟩
      rw [putI_pos_eq (a := z / 2) (by omega)]
      have hpl := Vp.put_len_le (z / 2).toNat
      obtain ⟨p, hp⟩ : ∃ p, Vp.put (z / 2).toNat = p := ⟨_, rfl⟩
      rw [hp] at HJ hpl
      rw [hp]
      clear hp
      go_wp2_with fail
      go_roundw
      case rel => exact ⟨k + 1, by omega, by go_num, by rw [HJ.out, ByteArray.mk_append_mk], hbel.trans (b3.mono hbel.size)⟩
      case measure => simp [intOf]; omega
    · have hk' : k = len := by omega
      subst hk'
      have hjl := jn_len zs k
      obtain ⟨S, hS⟩ : ∃ S, jn zs k = S := ⟨_, rfl⟩
      rw [hS] at hjl
      have HS := Lib.hid hS
      rw [hS]
      clear hS
      go_wp2_with fail
      obtain ⟨wo, rfl⟩ : ∃ wo : World, wo = wr := ⟨_, rfl⟩
      go_loopw [5, 6] (fun v i wr => ∃ j : Nat, j ≤ k ∧ i = .int .i64 j ∧ v = .int .i64 ((jn zs j).length : Int) ∧ Below w.heap.size w wr) (fun _ i _ => k - (intOf i).toNat)
      case atStart => exact ⟨0, by omega, rfl, rfl, hbel⟩
      case round =>
        obtain ⟨j, hj, rfl, rfl, hbj⟩ := hrel
        by_cases hlt2 : j < k
        · have hcw := HC.out j hlt2
          have hcell : wr.cell? ⟨b, off + j, none⟩ = some (.int .u64 (zs.getD j 0)) := by
            rw [hbj.cell (p := ⟨b, off + j, none⟩) (block_lt_of_cell hcw)]; exact hcw
          clear hcw
          obtain ⟨hz1, hz2⟩ := HR.out j hlt2
          have hj1 := jn_succ (zs := zs) (k := j) (by omega)
          obtain ⟨r, hr⟩ := jn_split (zs := zs) (k := j + 1) (n := k) (by omega)
          have hrd := joins_read S (jn zs j) (zs.getD j 0 / 2).toNat r (by rw [← HS.out, hr, hj1]) (by omega)
          have hpl := Vp.put_len_pos (zs.getD j 0 / 2).toNat
          have HJ := Lib.hid (congrArg List.length hj1)
          clear hj1 hr
          obtain ⟨z, hzz⟩ : ∃ z, zs.getD j 0 = z := ⟨_, rfl⟩
          rw [hzz] at hcell hz1 hz2 HJ hrd hpl
          clear hzz
          obtain ⟨q, hq⟩ : ∃ q, (Vp.put (z / 2).toNat).length = q := ⟨_, rfl⟩
          rw [List.length_append, hq] at HJ
          rw [hq] at hrd hpl
          clear hq
          obtain ⟨m, hm⟩ : ∃ m, (jn zs j).length = m := ⟨_, rfl⟩
          rw [hm] at hrd HJ
          rw [hm]
          clear hm
          rw [show (((z / 2).toNat : Nat) : Int) = z / 2 from by omega] at hrd
          have C1 := Lib.hid (fun W : World => read_any ⟨S.toArray⟩ (m : Int) W (by rw [size_mk_list]; omega))
          rw [hrd] at C1
          clear hrd
          have hm1 : (m : Int) < (m : Int) + (q : Int) := by omega
          go_wp2_with fail
          refine (C1.out _).mono ?_
          rintro e w1 ⟨rfl, n1, rfl⟩
          go_wp2_with fail
          go_roundw
          case rel => exact ⟨j + 1, by omega, by go_num, by rw [HJ.out]; go_num, below_drewN hbj n1⟩
          case measure => simp [intOf]; omega
        · have hj' : j = k := by omega
          subst hj'
          rw [HS.out]
          go_wp2_with fail
          refine (awake01 _).mono ?_
          rintro e w3 ⟨rfl, b1⟩
          go_wp2_with fail
          go_ret
          exact ⟨by simp, hbj.trans (b1.mono hbj.size)⟩

end Go.Proofs.Ytebjpiihapiklaa
