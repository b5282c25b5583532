/-
  What the two Read functions answer: the number that stands at a place, and the place behind it, or that none does; nothing that was there is changed.
-/
import Derived.Test.YtcogeflljcefjaaVarPut
import Derived.Test.YtcogeflljcefjaaBase
import Derived.Deep.QuietTactic
import Derived.BigQuiet
import Derived.WalkMore
import Derived.Lib.Hide
namespace Go.Proofs.Ytcogeflljcefjaa
open Go.RowKit

set_option maxRecDepth 100000 in
set_option maxHeartbeats 400000 in
theorem read_out (s : ByteArray) (i : Int) (w : World) (_hs : s.size ≤ 9223372036854775807) (h : i < 0 ∨ (s.size : Int) ≤ i) :
    Calls Try.prog 30 #[.string s, .int .i64 i] w fun e w' => e = .returned (.tuple #[.int .i64 0, .int .i64 0, .bool false]) ∧ w = w' := by
  by_cases h0 : i < 0
  · go_enter Try.func30, Try.ntmps30
    go_wp2
    go_step3
    go_wp2
    (try rw [Exit.noGoto_ret])
    go_ret3
    exact ⟨rfl, rfl⟩
  · have h1 : (s.size : Int) ≤ i := by omega
    clear h
    go_enter Try.func30, Try.ntmps30
    go_wp2
    go_step3
    go_wp2
    (try rw [Exit.noGoto_ret])
    go_ret3
    exact ⟨rfl, rfl⟩

/-- What a loop that reads byte behind byte has behind i of them. -/
def ReadRel (l : List UInt8) (i n : Nat) : Prop := n < 128 ^ i ∧ Vp.loopF (9 - i) n (128 ^ i) i (l.drop i) = Vp.take l
theorem ReadRel.start (l : List UInt8) : ReadRel l 0 0 := ⟨by simp, Vp.loop_take l⟩

theorem ReadRel.open_ {l : List UInt8} {i n : Nat} {b : UInt8} (h : ReadRel l i n) (h9 : i < 9) (hb : l[i]? = some b) :
    (if b.toNat < 128 then (if b.toNat = 0 ∧ 0 < i then none else some (n + b.toNat * 128 ^ i, i + 1))
    else Vp.loopF (9 - (i + 1)) (n + b.toNat % 128 * 128 ^ i) (128 ^ i * 128) (i + 1) (l.drop (i + 1))) = Vp.take l := by
  obtain ⟨_, h2⟩ := h
  obtain ⟨hlt, hg⟩ := List.getElem?_eq_some_iff.1 hb
  rw [← h2, List.drop_eq_getElem_cons hlt, hg, show 9 - i = (9 - (i + 1)) + 1 from by omega, Vp.loopF]
theorem ReadRel.step {l : List UInt8} {i n : Nat} {b : UInt8} (h : ReadRel l i n) (h9 : i < 9) (hb : l[i]? = some b) (h128 : 128 ≤ b.toNat) : ReadRel l (i + 1) (n + b.toNat % 128 * 128 ^ i) := by
  have ho := h.open_ h9 hb
  rw [if_neg (by omega)] at ho
  refine ⟨?_, ?_⟩
  · have h1 := h.1
    have hp : 0 < 128 ^ i := Nat.pow_pos (by omega)
    have h3 : b.toNat % 128 * 128 ^ i ≤ 127 * 128 ^ i := Nat.mul_le_mul_right _ (by omega)
    rw [Nat.pow_succ]
    omega
  · rw [Nat.pow_succ]; exact ho
theorem ReadRel.zero {l : List UInt8} {i n : Nat} {b : UInt8} (h : ReadRel l i n) (h9 : i < 9) (hb : l[i]? = some b) (h0 : b.toNat = 0) (hi : 0 < i) : Vp.take l = none := by
  rw [← h.open_ h9 hb, if_pos (by omega), if_pos ⟨h0, hi⟩]
theorem ReadRel.done {l : List UInt8} {i n : Nat} {b : UInt8} (h : ReadRel l i n) (h9 : i < 9) (hb : l[i]? = some b) (h128 : b.toNat < 128) (h0 : ¬ (b.toNat = 0 ∧ 0 < i)) : Vp.take l = some (n + b.toNat * 128 ^ i, i + 1) := by
  rw [← h.open_ h9 hb, if_pos h128, if_neg h0]
theorem ReadRel.stop {l : List UInt8} {i n : Nat} (h : ReadRel l i n) (h9 : 9 ≤ i ∨ l.length ≤ i) : Vp.take l = none := by
  rw [← h.2]
  rcases h9 with h9 | h9
  · rw [show 9 - i = 0 from by omega, Vp.loopF]
  · rw [List.drop_eq_nil_of_le h9]
    cases 9 - i <;> rfl

theorem pow_128 (i : Nat) : 128 ^ i = 2 ^ (7 * i) := by rw [Nat.pow_mul]
theorem read_num {i n x : Nat} (h9 : i < 9) (hn : n < 128 ^ i) : wrap64 ((n : Int) + wrap64 ((x : Int) % 128 * 2 ^ (7 * i))) = ((n + x % 128 * 128 ^ i : Nat) : Int) := by
  have hp : 0 < 128 ^ i := Nat.pow_pos (by omega)
  have h1 : 128 ^ i ≤ 128 ^ 8 := Nat.pow_le_pow_right (by omega) (by omega)
  have h2 : x % 128 * 128 ^ i ≤ 127 * 128 ^ i := Nat.mul_le_mul_right _ (by omega)
  have e : (x : Int) % 128 * 2 ^ (7 * i) = ((x % 128 * 128 ^ i : Nat) : Int) := by rw [pow_128]; simp
  rw [e]
  generalize x % 128 * 128 ^ i = y at *
  generalize 128 ^ i = p at *
  rw [IntWalk.wrap64_in (y : Int) ⟨by omega, by omega⟩, IntWalk.wrap64_in _ ⟨by omega, by omega⟩]
  omega

/-- What Read answers at a place within the text; l: what stands from there on. -/
def rdVal (l : List UInt8) (k : Nat) : Value :=
  match Vp.take l with
  | none => .tuple #[.int .i64 0, .int .i64 0, .bool false]
  | some (m, j) => .tuple #[.int .i64 (m : Int), .int .i64 ((k : Int) + (j : Int)), .bool true]
theorem rdVal_none {l : List UInt8} (k : Nat) (h : Vp.take l = none) : rdVal l k = .tuple #[.int .i64 0, .int .i64 0, .bool false] := by
  unfold rdVal; rw [h]
theorem rdVal_some {l : List UInt8} {m j : Nat} (k : Nat) (h : Vp.take l = some (m, j)) : rdVal l k = .tuple #[.int .i64 (m : Int), .int .i64 ((k : Int) + (j : Int)), .bool true] := by
  unfold rdVal; rw [h]

theorem ext_get (s : ByteArray) (k i : Nat) (h : i < (s.extract k s.size).size) : (s.data.toList.drop k)[i]? = some (s.extract k s.size)[i] := by
  have hsz : (s.extract k s.size).size = s.size - k := by simp
  rw [hsz] at h
  rw [List.getElem?_drop, Array.getElem?_toList, Array.getElem?_eq_getElem (by show k + i < s.size; omega)]
  congr 1
  show _ = (s.extract k s.size).data[i]
  simp [ByteArray.data_extract]

set_option maxRecDepth 100000 in
set_option maxHeartbeats 800000 in
theorem read_in (s : ByteArray) (k : Nat) (w : World) (hs : s.size ≤ 9223372036854775807) (h : k < s.size) :
    Calls Try.prog 30 #[.string s, .int .i64 k] w fun e w' => e = .returned (rdVal (s.data.toList.drop k) k) ∧ ∃ n, w' = w.drewN n := by
  have hL : (s.data.toList.drop k).length = s.size - k := by rw [List.length_drop]; rfl
  have HL := Lib.hid hL
  clear hL
  go_enter Try.func30, Try.ntmps30
  go_wp2
  go_step3
  go_wp2
  go_quiet (fail)
  go_wp2
  go_step3
  go_wp2
  go_loop [7, 9] (fun a b => ∃ i n : Nat, i ≤ 9 ∧ i ≤ s.size - k ∧ a = .int .i64 n ∧ b = .int .i64 i ∧ ReadRel (s.data.toList.drop k) i n) (fun _ b => 9 - (intOf b).toNat)
  case atStart => exact ⟨0, 0, by omega, by omega, rfl, rfl, ReadRel.start _⟩
  case round =>
    obtain ⟨i, n, hi9, hil, rfl, rfl, hr⟩ := hrel
    by_cases hlt : i < s.size - k
    · by_cases h9 : i < 9
      · have hsz : i < (s.extract k s.size).size := by simp; omega
        have HB := Lib.hid (ext_get s k i hsz)
        go_wp2
        · have hb : (128 : Int) ≤ ((s.extract k s.size)[i].toNat : Int) := by assumption
          go_round
          case rel => exact ⟨i + 1, n + (s.extract k s.size)[i].toNat % 128 * 128 ^ i, by omega, by omega, by rw [read_num h9 hr.1], by go_num, hr.step h9 HB.out (by omega)⟩
          case measure => simp [intOf]; omega
        · have h0 : (s.extract k s.size)[i].toNat = 0 := by assumption
          have hi : 0 < i := by assumption
          go_ret3
          exact ⟨by rw [rdVal_none k (hr.zero h9 HB.out h0 hi)]; rfl, _, rfl⟩
        · have h0 : (s.extract k s.size)[i].toNat = 0 := by assumption
          have hi : i = 0 := by have : ¬ 0 < i := by (first | assumption | omega)
                                omega
          subst hi
          have hn : n = 0 := by have := hr.1; simpa using this
          subst hn
          go_ret3
          refine ⟨?_, _, rfl⟩
          rw [rdVal_some k (hr.done h9 HB.out (by omega) (by omega)), h0]
          refine congrArg Ending.returned ?_
          show Value.tuple #[.int .i64 (wrap64 (((0 : Nat) : Int) + wrap64 0)), .int .i64 ((k : Int) + ((0 : Nat) : Int) + 1), .bool true] = _
          rw [show wrap64 (((0 : Nat) : Int) + wrap64 0) = ((0 + 0 * 128 ^ 0 : Nat) : Int) from by simp [wrap64], show (k : Int) + ((0 : Nat) : Int) + 1 = (k : Int) + ((0 + 1 : Nat) : Int) from by omega]
        · have h1 : ((s.extract k s.size)[i].toNat : Int) < 128 := by assumption
          have h0 : ¬ (s.extract k s.size)[i].toNat = 0 := by assumption
          go_ret3
          refine ⟨?_, _, rfl⟩
          rw [rdVal_some k (hr.done h9 HB.out (by omega) (by omega))]
          refine congrArg Ending.returned ?_
          show Value.tuple #[.int .i64 (wrap64 ((n : Int) + wrap64 (((s.extract k s.size)[i].toNat : Int) % 128 * 2 ^ (7 * i)))), .int .i64 ((k : Int) + (i : Int) + 1), .bool true] = _
          rw [read_num h9 hr.1, Nat.mod_eq_of_lt (by omega)]
          rw [show (k : Int) + (i : Int) + 1 = (k : Int) + ((i + 1 : Nat) : Int) from by omega]
      · go_wp2
        go_ret3
        exact ⟨by rw [rdVal_none k (hr.stop (.inl (by omega)))]; rfl, _, rfl⟩
    · go_wp2
      go_ret3
      exact ⟨by rw [rdVal_none k (hr.stop (.inr (by rw [HL.out]; omega)))]; rfl, _, rfl⟩

/-- What Read answers, at any place. -/
def rdAt (s : ByteArray) (i : Int) : Value := if i < 0 then .tuple #[.int .i64 0, .int .i64 0, .bool false] else rdVal (s.data.toList.drop i.toNat) i.toNat

theorem rdAt_out {s : ByteArray} {i : Int} (h : i < 0 ∨ (s.size : Int) ≤ i) : rdAt s i = .tuple #[.int .i64 0, .int .i64 0, .bool false] := by
  unfold rdAt
  split
  · rfl
  · rw [List.drop_eq_nil_of_le (by show s.size ≤ i.toNat; omega)]
    exact rdVal_none _ rfl

theorem read_any (s : ByteArray) (i : Int) (w : World) (hs : s.size ≤ 9223372036854775807) :
    Calls Try.prog 30 #[.string s, .int .i64 i] w fun e w' => e = .returned (rdAt s i) ∧ ∃ n, w' = w.drewN n := by
  by_cases h : i < 0 ∨ (s.size : Int) ≤ i
  · rw [rdAt_out h]
    exact (read_out s i w hs h).mono fun _ _ ⟨he, hw⟩ => ⟨he, 0, hw.symm⟩
  · obtain ⟨k, rfl⟩ : ∃ k : Nat, i = (k : Int) := ⟨i.toNat, by omega⟩
    have e : rdAt s (k : Int) = rdVal (s.data.toList.drop k) k := by unfold rdAt; rw [if_neg (by omega)]; simp
    rw [e]
    exact read_in s k w hs (by omega)

theorem rdAt_none {s : ByteArray} {k : Nat} (h : Vp.take (s.data.toList.drop k) = none) : rdAt s (k : Int) = .tuple #[.int .i64 0, .int .i64 0, .bool false] := by
  unfold rdAt
  rw [if_neg (by omega), Int.toNat_natCast]
  exact rdVal_none k h
theorem rdAt_some {s : ByteArray} {k q n j : Nat} (h : Vp.take (s.data.toList.drop k) = some (n, j)) (hq : k + j = q) : rdAt s (k : Int) = .tuple #[.int .i64 (n : Int), .int .i64 (q : Int), .bool true] := by
  unfold rdAt
  rw [if_neg (by omega), Int.toNat_natCast, rdVal_some k h, ← hq]
  congr 4

end Go.Proofs.Ytcogeflljcefjaa
