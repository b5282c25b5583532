/-
  What the statements' example of layer 8 answers.
-/
import Derived.Test.YtailajcepjklaaaMarkProg
namespace Go.Proofs.Ytailajcepjklaaa.Mks
open Go.RowKit Go.Proofs.Ytailajcepjklaaa.Mp

/-- The example's marks. -/
def awl : Nat → List Mk
  | 0 => []
  | k + 1 => add (awl k) 10 3 ⟨10 + (k : Int), 7 * (k : Int)⟩
theorem add_len (l : List Mk) (b e : Int) (m : Mk) : (add l b e m).length ≤ l.length + 1 := by unfold add; split <;> simp
theorem awl_len : ∀ k, (awl k).length ≤ k
  | 0 => Nat.le_refl 0
  | k + 1 => Nat.le_trans (add_len _ _ _ _) (Nat.succ_le_succ (awl_len k))
theorem awl_eight : awl 8 = [⟨10, 0⟩, ⟨13, 21⟩, ⟨16, 42⟩] := by rfl
theorem aw8_right : Right [⟨10, 0⟩, ⟨13, 21⟩, ⟨16, 42⟩] := by
  intro k hk
  match k, hk with
  | 0, _ => exact ⟨by decide, by decide, fun h => absurd h (Nat.lt_irrefl 0)⟩
  | 1, _ => exact ⟨by decide, by decide, fun _ => ⟨by decide, by decide⟩⟩
  | 2, _ => exact ⟨by decide, by decide, fun _ => ⟨by decide, by decide⟩⟩
theorem aw8_split : Split [⟨10, 0⟩, ⟨13, 21⟩, ⟨16, 42⟩] 15 2 := by
  refine ⟨by decide, fun j hj => ?_, fun j hj hl => ?_⟩
  · match j, hj with
    | 0, _ => decide
    | 1, _ => decide
  · obtain rfl : j = 2 := by simp at hl; omega
    decide
theorem own_nil {w : World} {B : Nat} {v : Value} {l : List Mk} (h : OwnL ML w B v l) : NilOk v := by
  rintro n c rfl
  rcases h.2 with ⟨h0, _⟩ | ⟨g, cap, cur, h0, _⟩
  · injection h0
  · injection h0 with h0; cases h0
theorem mk_ok {l : List Mk} (h : Right l) (k : Int) (hk : ∀ m ∈ l, m.o ≤ k ∧ m.p ≤ k) (hk2 : k ≤ 9223372036854775807) : ∀ m ∈ l, MkB m := by
  intro m hm
  obtain ⟨i, hi, rfl⟩ := List.getElem_of_mem hm
  have h1 := h i hi
  have h2 := hk _ hm
  have e : l.getD i zero = l[i] := getD_mk hi
  rw [← e] at h2 ⊢
  exact ⟨⟨by have := h1.1; omega, by omega⟩, ⟨by have := h1.2.1; omega, by omega⟩⟩
theorem awl_b : ∀ k, k ≤ 8 → ∀ m ∈ awl k, MkB m
  | 0, _, m, hm => by cases hm
  | k + 1, hk, m, hm => by
    unfold awl add at hm
    split at hm
    · rw [List.mem_append] at hm
      rcases hm with hm | hm
      · exact awl_b k (by omega) m hm
      · rw [List.mem_singleton] at hm
        subst hm
        exact ⟨⟨by show _ ≤ 10 + (k : Int); omega, by show 10 + (k : Int) ≤ _; omega⟩, ⟨by show _ ≤ 7 * (k : Int); omega, by show 7 * (k : Int) ≤ _; omega⟩⟩
    · exact awl_b k (by omega) m hm

set_option maxRecDepth 100000 in
set_option maxHeartbeats 1600000 in
theorem awake08 (w : World) : Calls Try.prog 8 #[] w fun e w' => e = .returned (.bool true) ∧ Below w.heap.size w w' := by
  have AD := Lib.hid fun (v : Value) (k : Nat) (hk : k < 8) (W : World) (h : OwnL ML W w.heap.size v (awl k)) => add08_any v (awl k) 10 3 ⟨10 + (k : Int), 7 * (k : Int)⟩ W (h.is (by have := awl_len k; unfold maxLen; omega) (awl_b k (by omega))) (own_nil h) (own_cap h) (by have := awl_len k; omega) (by omega) (by show (10 : Int) ≤ 10 + (k : Int); omega) (by omega) (by show 10 + (k : Int) ≤ _; omega) (by omega)
  go_enter Try.func8, Try.ntmps8
  go_wp2_with fail
  go_loopw [1, 2] (fun v i wr => ∃ k : Nat, k ≤ 8 ∧ i = .int .i64 k ∧ OwnL ML wr w.heap.size v (awl k) ∧ Below w.heap.size w wr) (fun _ i _ => 8 - (intOf i).toNat)
  case atStart => exact ⟨0, Nat.zero_le _, rfl, OwnL.nil _ _, Below.refl _ _⟩
  case round =>
    obtain ⟨k, hk, rfl, hO, bel⟩ := hrel
    have HO := Lib.hid hO
    have hsz := bel.size
    by_cases hlt : k < 8
    · have A1 := AD.out _ k hlt wr hO
      unfold mkVal at A1
      dsimp only at A1
      replace A1 := Lib.hid A1
      clear hO
      go_wp2_with fail
      refine A1.out.mono ?_
      rintro e w1 hout
      obtain ⟨v1, rfl, ho1, b1, _⟩ := hout.own HO.out hsz
      have HO1 := Lib.hid ho1
      have BB := Lib.hid (bel.trans (b1.mono hsz))
      clear ho1 b1 hout
      go_wp2_with fail
      go_roundw
      case rel => exact ⟨k + 1, by omega, by go_num, HO1.out, BB.out⟩
      case measure => simp [intOf]; omega
    · obtain rfl : k = 8 := by omega
      have hb8 := awl_b 8 (Nat.le_refl 8)
      rw [awl_eight] at hO hb8
      have hI := hO.is (show ([⟨10, 0⟩, ⟨13, 21⟩, ⟨16, 42⟩] : List Mk).length ≤ maxLen by decide) hb8
      obtain ⟨va, vc, rfl, _⟩ := id hI
      have HI := Lib.hid hI
      have F1 := find08_any _ _ 15 2 wr hI aw8_split
      have hfv : fndVal [⟨10, 0⟩, ⟨13, 21⟩, ⟨16, 42⟩] 2 = .tuple #[.agg #[.int .i64 13, .int .i64 21], .bool true] := rfl
      rw [hfv] at F1
      simp only [List.length_cons, List.length_nil, Nat.zero_add, Nat.reduceAdd] at F1 HI ⊢
      replace F1 := Lib.hid F1
      clear hO hI hb8 hfv HO AD
      go_wp2_with fail
      refine F1.out.mono ?_
      rintro e w2 ⟨rfl, b2⟩
      have B2 := Lib.hid ((bel.trans (b2.mono hsz)).alloc (by have := b2.size; omega) (.cells #[.int .i64 13, .int .i64 21] 24))
      have hI2 := (HI.out.keep b2).keep ((Below.refl _ w2).alloc (Nat.le_refl _) (.cells #[.int .i64 13, .int .i64 21] 24))
      have RT := Lib.hid (right08_any _ _ true _ hI2 ⟨fun _ => aw8_right, fun _ => rfl⟩)
      clear b2 hI2
      go_wp2_with fail
      refine RT.out.mono ?_
      rintro e w3 ⟨rfl, b3⟩
      go_wp2_with fail
      go_ret
      exact ⟨rfl, B2.out.trans (b3.mono B2.out.size)⟩

end Go.Proofs.Ytailajcepjklaaa.Mks
