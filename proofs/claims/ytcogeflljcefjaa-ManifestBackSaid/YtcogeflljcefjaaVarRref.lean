/-
  What the document's Read answers: the same as varint.Read.
-/
import Derived.Test.YtcogeflljcefjaaVarRead
import Derived.Lib.Hide
import Derived.IntWalk
import Derived.Deep.RegionWith
import Derived.Lib.Strings
import Derived.Deep.DeepCutAuto
namespace Go.Proofs.Ytcogeflljcefjaa
open Go.RowKit

theorem putF_short : ∀ (k i n : Nat), n < 128 ^ (i + 1) → (Vp.putF k n).length ≤ i + 1 := by
  intro k
  induction k with
  | zero => intro i n _; simp [Vp.putF]
  | succ k ih =>
    intro i n h
    rw [Vp.putF]
    by_cases hn : n < 128
    · rw [if_pos hn]; simp
    · rw [if_neg hn]
      cases i with
      | zero => simp at h; omega
      | succ i =>
        have := ih i (n / 128) (by rw [Nat.pow_succ] at h; omega)
        simpa using this

/-- The shortest bytes are just those that Put gives. -/
theorem ReadRel.same {l : List UInt8} {i n : Nat} {b : UInt8} (h : ReadRel l i n) (h9 : i < 9) (hb : l[i]? = some b) (h128 : b.toNat < 128) :
    (Vp.put (n + b.toNat * 128 ^ i) = l.take (i + 1)) ↔ ¬ (b.toNat = 0 ∧ 0 < i) := by
  constructor
  · rintro he ⟨h0, hi⟩
    obtain ⟨j, rfl⟩ : ∃ j, i = j + 1 := ⟨i - 1, by omega⟩
    have hlen := congrArg List.length he
    have hlt := (List.getElem?_eq_some_iff.1 hb).1
    rw [List.length_take, h0] at hlen
    have := putF_short 9 j n h.1
    have e : n + 0 * 128 ^ (j + 1) = n := by omega
    rw [e] at hlen
    unfold Vp.put at hlen
    omega
  · intro h0
    exact Vp.put_take (h.done h9 hb h128 h0)

set_option maxRecDepth 100000 in
set_option maxHeartbeats 400000 in
theorem rread_out (s : ByteArray) (i : Int) (w : World) (h : i < 0 ∨ (s.size : Int) ≤ i) :
    Calls Try.prog 23 #[.string s, .int .i64 i] w fun e w' => e = .returned (.tuple #[.int .i64 0, .int .i64 0, .bool false]) ∧ w = w' := by
  by_cases h0 : i < 0
  · go_enter Try.func23, Try.ntmps23
    go_wp2
    go_ret3
    exact ⟨rfl, rfl⟩
  · have h1 : (s.size : Int) ≤ i := by omega
    clear h
    go_enter Try.func23, Try.ntmps23
    go_wp2
    go_ret3
    exact ⟨rfl, rfl⟩

theorem rread_num {n p x : Nat} (hn : n < p) (hp : p ≤ 72057594037927936) (_hx : x < 256) : wrap64 ((n : Int) + wrap64 ((x : Int) % 128 * (p : Int))) = ((n + x % 128 * p : Nat) : Int) := by
  have h2 : x % 128 * p ≤ 127 * p := Nat.mul_le_mul_right _ (by omega)
  have e : (x : Int) % 128 * (p : Int) = ((x % 128 * p : Nat) : Int) := by simp
  rw [e]
  generalize x % 128 * p = y at *
  rw [IntWalk.wrap64_in (y : Int) ⟨by omega, by omega⟩, IntWalk.wrap64_in _ ⟨by omega, by omega⟩]
  omega

theorem mul_128 {i p : Nat} (h8 : i < 8) (hp : 128 ^ i = p) : wrap64 ((p : Int) * 128) = ((128 ^ (i + 1) : Nat) : Int) := by
  have h1 : 128 ^ i ≤ 128 ^ 7 := Nat.pow_le_pow_right (by omega) (by omega)
  have h2 : p ≤ 562949953421312 := by rw [← hp]; exact h1
  rw [IntWalk.wrap64_in _ ⟨by omega, by omega⟩, Nat.pow_succ, hp]
  omega

theorem below_of_drew {w w' : World} (h : Below w.drew.heap.size w.drew w') : Below w.heap.size w w' := ⟨h.os, h.tape, h.output, h.size, h.block⟩

theorem putI_nat (n : Nat) : putI (n : Int) = Vp.put n := by
  unfold putI; rw [if_neg (by omega)]; simp

theorem rput_nat (n : Nat) (w : World) (h : n ≤ 9223372036854775807) :
    Calls Try.prog 18 #[.int .i64 n] w fun e w' => e = .returned (.string ⟨(Vp.put n).toArray⟩) ∧ Below w.heap.size w w' := by
  rw [← putI_nat]
  exact rput_any n w (by omega) (by omega)

theorem slice_at (s : ByteArray) (k i : Nat) (h : k + i < s.size) : ∀ w : World, (Instr.slice 9 (.string s) (some (.int .i64 (k : Int))) (some (.int .i64 ((k : Int) + (i : Int) + 1))) none).run Try.prog w = .ok (.string (s.extract k (k + i + 1))) w := by
  intro w
  have := run_slice_string (P := Try.prog) w 9 s .i64 .i64 (k : Int) ((k : Int) + (i : Int) + 1) Try.underlying9 (by omega) (by omega) (by omega)
  rw [this]
  congr 3

set_option maxRecDepth 100000 in
set_option maxHeartbeats 800000 in
theorem rread_in (s : ByteArray) (k : Nat) (w : World) (hs : s.size ≤ 9223372036854775807) (h : k < s.size) :
    Calls Try.prog 23 #[.string s, .int .i64 k] w fun e w' => e = .returned (rdVal (s.data.toList.drop k) k) ∧ Below w.heap.size w w' := by
  have hL : (s.data.toList.drop k).length = s.size - k := by rw [List.length_drop]; rfl
  have HL := Lib.hid hL
  clear hL
  have hd1 : decide (s.size ≤ k) = false := by simpa using h
  have hd2 : decide ((k : Int) < 0) = false := by simp
  have hd3 : decide ((s.size : Int) ≤ (k : Int)) = false := by simp; omega
  go_enter Try.func23, Try.ntmps23
  go_wp2
  go_loopw [7, 8, 9] (fun a u b wr => ∃ i n : Nat, i ≤ 9 ∧ i ≤ s.size - k ∧ a = .int .i64 n ∧ (i < 9 → u = .int .i64 ((128 ^ i : Nat) : Int)) ∧ b = .int .i64 i ∧ ReadRel (s.data.toList.drop k) i n ∧ wr = w) (fun _ _ b _ => 9 - (intOf b).toNat)
  case atStart => exact ⟨0, 0, by omega, by omega, rfl, fun _ => rfl, rfl, ReadRel.start _, rfl⟩
  case round =>
    obtain ⟨i, n, hi9, hil, rfl, hu, rfl, hr, rfl⟩ := hrel
    by_cases hlt : i < s.size - k
    · by_cases h9 : i < 9
      · obtain rfl := hu h9
        clear hu
        have hki : k + i < s.size := by omega
        have hb : (s.data.toList.drop k)[i]? = some s[k + i] := by
          rw [List.getElem?_drop, Array.getElem?_toList, Array.getElem?_eq_getElem (by exact hki)]
          rfl
        have HB := Lib.hid hb
        have h256 : ((s[k + i].toNat : Nat) : Int) < 256 := by have := s[k + i].toNat_lt; omega
        have hp1 : (128 ^ i : Nat) ≤ 128 ^ 8 := Nat.pow_le_pow_right (by omega) (by omega)
        have hn1 := hr.1
        obtain ⟨p, hp⟩ : ∃ p, 128 ^ i = p := ⟨_, rfl⟩
        rw [hp] at hp1 hn1
        have hp2 : p ≤ 72057594037927936 := hp1
        clear hp1
        have HP := Lib.hid hp
        rw [hp]
        clear hp hb
        have hnum := rread_num hn1 hp2 s[k + i].toNat_lt
        obtain ⟨N, hN⟩ : ∃ N : Nat, N = n + s[k + i].toNat % 128 * p := ⟨_, rfl⟩
        rw [← hN] at hnum
        have HN := Lib.hid hN
        have hNb : N ≤ 9223372036854775807 := by
          have : s[k + i].toNat % 128 * p ≤ 127 * p := Nat.mul_le_mul_right _ (by omega)
          omega
        clear hN
        have HX := Lib.hid hnum
        clear hnum
        by_cases hlo : s[k + i].toNat < 128
        · have hlo' : ((s[k + i].toNat : Nat) : Int) < 128 := by omega
          go_wp2_with fail
          rw [HX.out]
          have hsl := slice_at s k i hki
          have hw1 : IntKind.i64.wrap ((k : Int) + (i : Int)) = (k : Int) + (i : Int) := IntWalk.i64_in _ ⟨by omega, by omega⟩
          have hw2 : IntKind.i64.wrap ((k : Int) + (i : Int) + 1) = (k : Int) + (i : Int) + 1 := IntWalk.i64_in _ ⟨by omega, by omega⟩
          have hb1 : (k : Int) ≤ (k : Int) + (i : Int) + 1 := by omega
          have hb2 : (k : Int) + (i : Int) + 1 ≤ (s.size : Int) := by omega
          have hb3 : 0 ≤ (k : Int) + (i : Int) + 1 := by omega
          go_cut [54] (fun v w2 => ∃ c : Bool, v = .bool c ∧ (c = false ↔ Vp.put N = (s.data.toList.drop k).take (i + 1)) ∧ Below wr.heap.size wr w2)
          case first =>
            go_region_with (go_at_call 18; refine (rput_nat _ _ hNb).mono ?_; rintro e w' ⟨rfl, hb⟩)
            go_wp2_with fail
            go_meet
            case rel =>
              refine ⟨_, rfl, ?_, below_of_drew hb⟩
              rw [Lib.toList_data, Lib.extract_data, show k + i + 1 - k = i + 1 from by omega]
              simp
          case rest =>
            obtain ⟨c, rfl, hc, hb⟩ := hcut
            have hN : N = n + s[k + i].toNat * p := by rw [HN.out, Nat.mod_eq_of_lt hlo]
            have hsame := (hr.same h9 HB.out hlo)
            rw [HP.out, ← hN] at hsame
            have hdone := hr.done h9 HB.out hlo
            rw [HP.out, ← hN] at hdone
            clear hN
            cases c with
            | false =>
              have HV := Lib.hid (rdVal_some k (hdone (hsame.1 (hc.1 rfl))))
              clear hsame hdone hc
              go_wp2_with fail
              go_ret3
              refine ⟨?_, hb⟩
              rw [HV.out]
              refine congrArg Ending.returned ?_
              show Value.tuple #[.int .i64 (N : Int), .int .i64 ((k : Int) + (i : Int) + 1), .bool true] = _
              rw [show (k : Int) + (i : Int) + 1 = (k : Int) + ((i + 1 : Nat) : Int) from by omega]
            | true =>
              have hz : s[k + i].toNat = 0 ∧ 0 < i := by
                rcases Classical.em (s[k + i].toNat = 0 ∧ 0 < i) with h | h
                · exact h
                · have := hc.2 (hsame.2 h)
                  cases this
              have HV := Lib.hid (rdVal_none k (hr.zero h9 HB.out hz.1 hz.2))
              clear hsame hdone hc hz
              go_wp2_with fail
              go_ret3
              refine ⟨?_, hb⟩
              rw [HV.out]
              rfl
        · have hlo' : 128 ≤ ((s[k + i].toNat : Nat) : Int) := by omega
          have hstep := hr.step h9 HB.out (by omega)
          have e := HN.out
          rw [← HP.out] at e
          rw [← e] at hstep
          clear e
          have HT := Lib.hid hstep
          clear hstep
          by_cases h8 : i < 8
          · go_wp2_with fail
            rw [HX.out]
            go_roundw
            case rel => exact ⟨i + 1, N, by omega, by omega, rfl, fun _ => congrArg (Value.int .i64) (mul_128 h8 HP.out), by go_num, HT.out, by trivial⟩
            case measure => simp [intOf]; omega
          · go_wp2_with fail
            rw [HX.out]
            go_roundw
            case rel => exact ⟨i + 1, N, by omega, by omega, rfl, fun h => absurd h (by omega), by go_num, HT.out, by trivial⟩
            case measure => simp [intOf]; omega
      · clear hu
        go_wp2_with fail
        go_ret3
        exact ⟨by rw [rdVal_none k (hr.stop (.inl (by omega)))]; rfl, Below.refl _ _⟩
    · clear hu
      by_cases h9 : i < 9
      all_goals
        go_wp2_with fail
        go_ret3
        exact ⟨by rw [rdVal_none k (hr.stop (.inr (by rw [HL.out]; omega)))]; rfl, Below.refl _ _⟩

theorem rread_any (s : ByteArray) (i : Int) (w : World) (hs : s.size ≤ 9223372036854775807) :
    Calls Try.prog 23 #[.string s, .int .i64 i] w fun e w' => e = .returned (rdAt s i) ∧ Below w.heap.size w w' := by
  by_cases h : i < 0 ∨ (s.size : Int) ≤ i
  · rw [rdAt_out h]
    exact (rread_out s i w h).mono fun _ _ ⟨he, hw⟩ => ⟨he, by rw [← hw]; exact Below.refl _ _⟩
  · obtain ⟨k, rfl⟩ : ∃ k : Nat, i = (k : Int) := ⟨i.toNat, by omega⟩
    have e : rdAt s (k : Int) = rdVal (s.data.toList.drop k) k := by unfold rdAt; rw [if_neg (by omega)]; simp
    rw [e]
    exact rread_in s k w hs (by omega)

end Go.Proofs.Ytcogeflljcefjaa
