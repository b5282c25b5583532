/-
  What CrcTells and CrcParts answer: true, whatever they are given; nothing that was there is changed.
-/
import Derived.Test.YtkpnaegfbeikiaaCrcFour
import Derived.Deep.RegionHeld3
import Derived.Outline
namespace Go.Proofs.Ytkpnaegfbeikiaa
open Go.RowKit Go.Lib

theorem bel_trans2 {w w1 w2 : World} (h : Below w.heap.size w w1) (k : Below w1.heap.size w1 w2) : Below w.heap.size w w2 := h.trans (k.mono h.size)

theorem bel_of_alloc {w w' : World} {o : Obj} (h : Below (w.alloc o).heap.size (w.alloc o) w') : Below w.heap.size w w' :=
  ((Below.refl _ _).alloc (Nat.le_refl _) _).trans (h.mono (by simp))

theorem u32_of {a : Int} (h : (Lit.int .u32 a).wf = true) : ∃ n : Nat, a = (n : Int) ∧ n < 4294967296 := by
  have h' : 0 ≤ a ∧ a ≤ 4294967295 := by simpa [Lit.wf, IntKind.min, IntKind.max, IntKind.signed, IntKind.bits] using h
  exact ⟨a.toNat, by omega, by omega⟩

/-- A new slice of these strings. -/
theorem IsStrs.lits (w : World) (ss : List ByteArray) (hl : ss.length ≤ maxLen) (hs : ∀ s ∈ ss, s.size ≤ maxLen) :
    IsStrs (w.alloc (.cells (ss.map Value.string).toArray 9)) (.slice (some ⟨w.heap.size, 0, none⟩) ss.length ss.length) ss := by
  refine ⟨_, _, rfl, hl, hs, .inr ⟨_, _, rfl, fun i hi => ?_⟩⟩
  have h := cells_new w (ss.map Value.string) 9 i (.string (ss.getD i ByteArray.empty)) (by simp [List.getD_eq_getElem?_getD, hi])
  have e : (⟨w.heap.size, 0, none⟩ : Addr).add i = ⟨w.heap.size, 0 + i, none⟩ := by unfold Addr.add; split <;> simp_all
  rw [e] at h
  exact h

theorem aw_sum : Cp.sum 0 (cat [⟨#[49, 50, 51, 52]⟩, ⟨#[53, 54, 55, 56, 57]⟩]) = 3808858755 := by decide +kernel
theorem aw_four : fourB 16909060 = [4, 3, 2, 1] := by rfl

set_option maxRecDepth 100000 in
set_option maxHeartbeats 400000 in
theorem awake02 (w : World) : Calls Try.prog 6 #[] w fun e w' => e = .returned (.bool true) ∧ Below w.heap.size w w' := by
  have c1 := sum_any _ _ _ (IsStrs.lits w [⟨#[49, 50, 51, 52]⟩, ⟨#[53, 54, 55, 56, 57]⟩] (by decide) (fun s hs => by simp at hs; rcases hs with rfl | rfl <;> decide))
  have c2 := fun W : World => four_any 16909060 W (by omega)
  rw [aw_sum] at c1
  rw [aw_four] at c2
  have C1 := Lib.hid c1
  have C2 := Lib.hid c2
  clear c1 c2
  go_enter Try.func6, Try.ntmps6
  go_wp2_with fail
  refine C1.out.mono ?_
  rintro e w1 ⟨rfl, b1⟩
  go_wp2_with fail
  refine (C2.out _).mono ?_
  rintro e w2 ⟨rfl, b2⟩
  go_wp2_with fail
  go_ret
  exact ⟨rfl, bel_trans2 (((Below.refl _ _).alloc (Nat.le_refl _) _).trans (b1.mono (by simp))) b2⟩

set_option maxRecDepth 100000 in
set_option maxHeartbeats 800000 in
theorem tells2_long (a : Option Addr) (len cap : Nat) (x : Int) (w : World) (hl : 20 < len) :
    Calls Try.prog 3 #[.slice a len cap, .int .u32 x] w fun e w' => e = .returned (.bool true) ∧ Below w.heap.size w w' := by
  have hl' : (20 : Int) < (len : Int) := by omega
  go_enter Try.func3, Try.ntmps3
  go_wp2_with fail
  refine (awake02 _).mono ?_
  rintro e w3 ⟨rfl, hbel⟩
  go_wp2_with fail
  go_ret
  exact ⟨rfl, hbel⟩

set_option maxRecDepth 100000 in
set_option maxHeartbeats 800000 in
theorem tells2_none (a : Option Addr) (cap x : Nat) (w : World) (hx : x < 4294967296) :
    Calls Try.prog 3 #[.slice a 0 cap, .int .u32 (x : Int)] w fun e w' => e = .returned (.bool true) ∧ Below w.heap.size w w' := by
  have C1 := Lib.hid fun W : World => sum_any _ _ W (IsStrs.nil W a cap)
  have C2 := Lib.hid fun W : World => rsum_any _ _ W (IsStrs.nil W a cap)
  have C3 := Lib.hid fun W : World => four_any x W hx
  have C4 := Lib.hid fun W : World => rfour_any x W hx
  generalize Cp.sum 0 (cat []) = y at C1 C2
  generalize fourB x = f at C3 C4
  go_enter Try.func3, Try.ntmps3
  go_wp2_with fail
  refine wp_loop_rounds 1 ?_
  rw [rounds_succ]
  go_wp2_with fail
  refine (awake02 _).mono ?_
  rintro e w1 ⟨rfl, b1⟩
  go_wp2_with fail
  refine (C1.out _).mono ?_
  rintro e w2 ⟨rfl, b2⟩
  go_wp2_with fail
  refine (C2.out _).mono ?_
  rintro e w3 ⟨rfl, rfl⟩
  go_wp2_with fail
  refine (C3.out _).mono ?_
  rintro e w4 ⟨rfl, b4⟩
  go_wp2_with fail
  refine (C4.out _).mono ?_
  rintro e w5 ⟨rfl, b5⟩
  go_wp2_with fail
  go_ret
  exact ⟨rfl, bel_trans2 (bel_trans2 (bel_trans2 b1 b2) b4) b5⟩

set_option maxRecDepth 100000 in
set_option maxHeartbeats 1600000 in
theorem tells2_some (ss : List ByteArray) (b off cap x : Nat) (w : World) (hx : x < 4294967296) (hl : ss.length ≤ 20) (hs : ∀ s ∈ ss, s.size ≤ maxLen)
    (hc : ∀ i, i < ss.length → w.cell? ⟨b, off + i, none⟩ = some (.string (ss.getD i ByteArray.empty))) :
    Calls Try.prog 3 #[.slice (some ⟨b, off, none⟩) ss.length cap, .int .u32 (x : Int)] w fun e w' => e = .returned (.bool true) ∧ Below w.heap.size w w' := by
  have HI : IsStrs w (.slice (some ⟨b, off, none⟩) ss.length cap) ss := ⟨_, _, rfl, by unfold maxLen; omega, hs, .inr ⟨b, off, rfl, hc⟩⟩
  have HH := Lib.hid HI
  clear HI
  have HS := Lib.hid hs
  have HC := Lib.hid hc
  clear hs hc
  have C1 := Lib.hid fun W : World => sum_any (.slice (some ⟨b, off, none⟩) ss.length cap) ss W
  have C2 := Lib.hid fun W : World => rsum_any (.slice (some ⟨b, off, none⟩) ss.length cap) ss W
  have C3 := Lib.hid fun W : World => four_any x W hx
  have C4 := Lib.hid fun W : World => rfour_any x W hx
  generalize Cp.sum 0 (cat ss) = y at C1 C2
  generalize fourB x = f at C3 C4
  obtain ⟨len, hlen⟩ : ∃ len, ss.length = len := ⟨_, rfl⟩
  rw [hlen] at hl HC HH C1 C2 ⊢
  have HL := Lib.hid hlen
  clear hlen
  have hl' : (len : Int) ≤ 20 := by omega
  have HX := Lib.hid hx
  clear hx
  go_enter Try.func3, Try.ntmps3
  go_wp2_with fail
  go_loopw [5] (fun i wr => ∃ k : Nat, k ≤ len ∧ i = .int .i64 k ∧ Below w.heap.size w wr) (fun i _ => len - (intOf i).toNat)
  case atStart => exact ⟨0, Nat.zero_le _, rfl, Below.refl _ _⟩
  case round =>
    obtain ⟨k, hk, rfl, hbel⟩ := hrel
    by_cases hlt : k < len
    · have hlt' : k < ss.length := by rw [HL.out]; exact hlt
      have hcw := HC.out k hlt
      have hbb := block_lt_of_cell hcw
      have hcell : wr.cell? ⟨b, off + k, none⟩ = some (.string (ss.getD k ByteArray.empty)) := by
        rw [hbel.cell (p := ⟨b, off + k, none⟩) hbb]; exact hcw
      have hbw : b < wr.heap.size := Nat.lt_of_lt_of_le hbb hbel.size
      clear hcw hbb
      have hsz := HS.out _ (getD_mem hlt')
      obtain ⟨s, hse⟩ : ∃ s, ss.getD k ByteArray.empty = s := ⟨_, rfl⟩
      rw [hse] at hcell hsz
      clear hse hlt'
      by_cases h3 : 300 < (s.size : Int)
      · unfold maxLen at hsz
        go_wp2_with fail
        refine (awake02 _).mono ?_
        rintro e w3 ⟨rfl, b3⟩
        go_wp2_with fail
        go_ret
        exact ⟨rfl, hbel.trans (b3.mono hbel.size)⟩
      · have D1 := Lib.hid fun W : World => on_any x s W HX.out hsz
        have D2 := Lib.hid fun W : World => ron_any x s W HX.out hsz
        unfold maxLen at hsz
        generalize Cp.sum x s.data.toList = z at D1 D2
        have i0 : (0 : Int) ≤ (k : Int) := by omega
        have i1 : (k : Int) < (len : Int) := by omega
        go_wp2_with fail
        go_region_held3 (fun w' => w'.cell? ⟨b, off + k, none⟩ = some (.string s)) (go_keep) (first | (go_at_call 7; refine (D1.out _).mono ?_; rintro e w4 ⟨rfl, b4⟩; have hc4 := b4.cell (p := ⟨b, off + k, none⟩) (by first | exact hbw | simpa using hbw)) | (go_at_call 8; refine (D2.out _).mono ?_; rintro e w5 ⟨rfl, rfl⟩))
        go_wp2_with fail
        go_roundw
        case rel => exact ⟨k + 1, by omega, by go_num, hbel.trans (Below.mono (⟨b4.os, b4.tape, b4.output, b4.size, b4.block⟩ : Below wr.heap.size wr w4) hbel.size)⟩
        case measure => simp [intOf]; omega
    · have hk' : k = len := by omega
      subst hk'
      go_wp2_with fail
      refine (awake02 _).mono ?_
      rintro e w1 ⟨rfl, b1⟩
      go_wp2_with fail
      have b01 := hbel.trans (b1.mono hbel.size)
      refine (C1.out _ (HH.out.below b01 (Nat.le_refl _))).mono ?_
      rintro e w2 ⟨rfl, b2⟩
      go_wp2_with fail
      have b02 := b01.trans (b2.mono b01.size)
      refine (C2.out _ (HH.out.below b02 (Nat.le_refl _))).mono ?_
      rintro e w3 ⟨rfl, rfl⟩
      go_wp2_with fail
      refine (C3.out _).mono ?_
      rintro e w4 ⟨rfl, b4⟩
      go_wp2_with fail
      refine (C4.out _).mono ?_
      rintro e w5 ⟨rfl, b5⟩
      go_wp2_with fail
      go_ret
      exact ⟨rfl, bel_trans2 (bel_trans2 b02 b4) b5⟩

set_option maxRecDepth 100000 in
set_option maxHeartbeats 800000 in
theorem parts_long (a b c : ByteArray) (w : World) (ha : a.size ≤ 140737488351232) (hb : b.size ≤ 140737488351232) (hl : 2000 < (a.size : Int) + (b.size : Int) ∨ 2000 < (c.size : Int)) :
    Calls Try.prog 4 #[.string a, .string b, .string c] w fun e w' => e = .returned (.bool true) ∧ Below w.heap.size w w' := by
  have ha' : (a.size : Int) ≤ 140737488351232 := by omega
  have hb' : (b.size : Int) ≤ 140737488351232 := by omega
  clear ha hb
  by_cases h1 : 2000 < (a.size : Int) + (b.size : Int)
  · clear hl
    go_enter Try.func4, Try.ntmps4
    go_wp2_with fail
    refine (awake02 _).mono ?_
    rintro e w3 ⟨rfl, hbel⟩
    go_wp2_with fail
    go_ret
    exact ⟨rfl, hbel⟩
  · have h2 : 2000 < (c.size : Int) := by omega
    clear hl
    go_enter Try.func4, Try.ntmps4
    go_wp2_with fail
    refine (awake02 _).mono ?_
    rintro e w3 ⟨rfl, hbel⟩
    go_wp2_with fail
    go_ret
    exact ⟨rfl, hbel⟩

theorem app_list (a b : ByteArray) : (a ++ b).data.toList = a.data.toList ++ b.data.toList := by simp

set_option maxRecDepth 100000 in
set_option maxHeartbeats 1600000 in
theorem parts_short (a b c : ByteArray) (w : World) (h1 : (a.size : Int) + (b.size : Int) ≤ 2000) (h2 : (c.size : Int) ≤ 2000) :
    Calls Try.prog 4 #[.string a, .string b, .string c] w fun e w' => e = .returned (.bool true) ∧ Below w.heap.size w w' := by
  have ma : a.size ≤ maxLen := by unfold maxLen; omega
  have mb : b.size ≤ maxLen := by unfold maxLen; omega
  have mc : c.size ≤ maxLen := by unfold maxLen; omega
  have mbc : (b ++ c).size ≤ maxLen := by rw [ByteArray.size_append]; unfold maxLen; omega
  have mabc : (a ++ b ++ c).size ≤ maxLen := by rw [ByteArray.size_append, ByteArray.size_append]; unfold maxLen; omega
  have C1 := fun W : World => sum_any _ _ _ (IsStrs.lits W [a ++ b ++ c] (show 1 ≤ maxLen by decide) (fun s hs => by simp at hs; subst hs; exact mabc))
  have C2 := fun W : World => sum_any _ _ _ (IsStrs.lits W [a, b, c] (show 3 ≤ maxLen by decide) (fun s hs => by simp at hs; rcases hs with rfl | rfl | rfl <;> assumption))
  have C3 := fun W : World => sum_any _ _ _ (IsStrs.lits W [a] (show 1 ≤ maxLen by decide) (fun s hs => by simp at hs; subst hs; exact ma))
  have C4 := fun W : World => sum_any _ _ _ (IsStrs.lits W [a, b] (show 2 ≤ maxLen by decide) (fun s hs => by simp at hs; rcases hs with rfl | rfl <;> assumption))
  have C5 := fun W : World => on_any (Cp.sum 0 (cat [a])) (b ++ c) W (Cp.sum_lt _ _) mbc
  have C6 := fun W : World => on_any (Cp.sum 0 (cat [a, b])) c W (Cp.sum_lt _ _) mc
  have C7 := fun W : World => on_any (Cp.sum 0 (cat [a, b, c])) ⟨#[]⟩ W (Cp.sum_lt _ _) (by decide)
  rw [show cat [a ++ b ++ c] = cat [a, b, c] from by simp [cat]] at C1
  rw [app_list, ← Cp.sum_append, show cat [a] ++ (b.data.toList ++ c.data.toList) = cat [a, b, c] from by simp [cat]] at C5
  rw [← Cp.sum_append, show cat [a, b] ++ c.data.toList = cat [a, b, c] from by simp [cat]] at C6
  rw [Cp.sum_nil (Cp.sum_lt _ _)] at C7
  generalize Cp.sum 0 (cat [a, b, c]) = y at C1 C2 C5 C6 C7
  generalize Cp.sum 0 (cat [a]) = x1 at C3 C5
  generalize Cp.sum 0 (cat [a, b]) = x2 at C4 C6
  have D1 := Lib.hid C1
  have D2 := Lib.hid C2
  have D3 := Lib.hid C3
  have D4 := Lib.hid C4
  have D5 := Lib.hid C5
  have D6 := Lib.hid C6
  have D7 := Lib.hid C7
  clear C1 C2 C3 C4 C5 C6 C7 ma mb mc mbc mabc
  go_enter Try.func4, Try.ntmps4
  go_wp2_with fail
  refine (D1.out _).mono ?_
  rintro e w1 ⟨rfl, b1⟩
  go_wp2_with fail
  refine (awake02 _).mono ?_
  rintro e w2 ⟨rfl, b2⟩
  go_wp2_with fail
  refine (D2.out _).mono ?_
  rintro e w3 ⟨rfl, b3⟩
  go_wp2_with fail
  refine (D3.out _).mono ?_
  rintro e w4 ⟨rfl, b4⟩
  go_wp2_with fail
  refine (D5.out _).mono ?_
  rintro e w5 ⟨rfl, b5⟩
  go_wp2_with fail
  refine (D4.out _).mono ?_
  rintro e w6 ⟨rfl, b6⟩
  go_wp2_with fail
  refine (D6.out _).mono ?_
  rintro e w7 ⟨rfl, b7⟩
  go_wp2_with fail
  refine (D7.out _).mono ?_
  rintro e w8 ⟨rfl, b8⟩
  go_wp2_with fail
  go_ret
  have q1 := bel_of_alloc b1
  have q3 := bel_of_alloc b3
  have q4 := bel_of_alloc b4
  have q6 := bel_of_alloc b6
  exact ⟨rfl, bel_trans2 (bel_trans2 (bel_trans2 (bel_trans2 (bel_trans2 (bel_trans2 (bel_trans2 q1 b2) q3) q4) b5) q6) b7) b8⟩

end Go.Proofs.Ytkpnaegfbeikiaa
