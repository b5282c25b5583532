/-
  What the search for a key answers; nothing that was there is changed.
-/
import Derived.Test.YtndfpbolneofmaaFoldVal
import Derived.Deep.QuietTactic
import Derived.BigQuiet
import Derived.IntWalk
namespace Go.Proofs.Ytndfpbolneofmaa
open Go.RowKit

theorem nan_any (x : Int) (w : World) : Calls Try.prog 34 #[.int .u8 x] w fun e w' => e = .returned (.bool false) ∧ w = w' := by
  go_enter Try.func34, Try.ntmps34
  go_wp2_with fail
  go_ret
  exact ⟨by simp, rfl⟩

/-- How two keys stand to one another. -/
def cmpI (a b : Nat) : Int := if a < b then -1 else if b < a then 1 else 0

set_option maxRecDepth 100000 in
theorem cmp_any (a b : Nat) (w : World) : Calls Try.prog 31 #[.int .u8 (a : Int), .int .u8 (b : Int)] w fun e w' => e = .returned (.int .i64 (cmpI a b)) ∧ w = w' := by
  have C := Lib.hid fun (x : Int) (W : World) => nan_any x W
  by_cases h1 : a < b
  · have e : cmpI a b = -1 := by unfold cmpI; rw [if_pos h1]
    rw [e]
    go_enter Try.func31, Try.ntmps31
    go_wp2_with fail
    refine (C.out _ _).mono ?_
    rintro e w' ⟨rfl, rfl⟩
    go_wp2_with fail
    refine (C.out _ _).mono ?_
    rintro e w' ⟨rfl, rfl⟩
    go_wp2_with fail
    go_ret
    exact ⟨rfl, rfl⟩
  · by_cases h2 : b < a
    · have e : cmpI a b = 1 := by unfold cmpI; rw [if_neg h1, if_pos h2]
      rw [e]
      have h3 : ¬ ((a : Int) < (b : Int)) := by omega
      clear h1
      go_enter Try.func31, Try.ntmps31
      go_wp2_with fail
      refine (C.out _ _).mono ?_
      rintro e w' ⟨rfl, rfl⟩
      go_wp2_with fail
      refine (C.out _ _).mono ?_
      rintro e w' ⟨rfl, rfl⟩
      go_wp2_with fail
      go_ret
      exact ⟨rfl, rfl⟩
    · obtain rfl : a = b := by omega
      have e : cmpI a a = 0 := by unfold cmpI; rw [if_neg h1, if_neg h1]
      rw [e]
      clear h1 h2
      go_enter Try.func31, Try.ntmps31
      go_wp2_with fail
      refine (C.out _ _).mono ?_
      rintro e w' ⟨rfl, rfl⟩
      go_wp2_with fail
      refine (C.out _ _).mono ?_
      rintro e w' ⟨rfl, rfl⟩
      go_wp2_with fail
      go_ret
      exact ⟨rfl, rfl⟩

set_option maxRecDepth 100000 in
theorem byKey_any (p : Fp.Pr) (c : Nat) (w : World) : Calls Try.prog 28 #[prVal p, .int .u8 (c : Int)] w fun e w' => e = .returned (.int .i64 (cmpI p.k.toNat c)) ∧ Below w.heap.size w w' := by
  have C := Lib.hid fun (W : World) => cmp_any p.k.toNat c W
  unfold prVal
  go_enter Try.func28, Try.ntmps28
  go_wp2_with fail
  refine (C.out _).mono ?_
  rintro e w' ⟨rfl, rfl⟩
  go_wp2_with fail
  go_ret
  exact ⟨rfl, (Below.refl _ _).alloc (Nat.le_refl _) _⟩

/-- What the search answers. -/
def SearchOut (w : World) (l : List Fp.Pr) (c : UInt8) (e : Ending) (w' : World) : Prop :=
  ∃ (i : Nat) (b : Bool), e = .returned (.tuple #[.int .i64 (i : Int), .bool b]) ∧ Fp.Found l c i b ∧ Below w.heap.size w w'
theorem SearchOut.mk {w w' : World} {l : List Fp.Pr} {c : UInt8} {i : Nat} {b : Bool} (h : Fp.Found l c i b) (hb : Below w.heap.size w w') : SearchOut w l c (.returned (.tuple #[.int .i64 (i : Int), .bool b])) w' := ⟨i, b, rfl, h, hb⟩

theorem cmpI_lt {a b : Nat} (h : a < b) : cmpI a b = -1 := by unfold cmpI; rw [if_pos h]
theorem cmpI_gt {a b : Nat} (h : b < a) : cmpI a b = 1 := by unfold cmpI; rw [if_neg (by omega), if_pos h]
theorem cmpI_eq {a b : Nat} (h : a = b) : cmpI a b = 0 := by unfold cmpI; rw [if_neg (by omega), if_neg (by omega)]

/-- What the search knows: up to lo all keys are less, from hi on none is. -/
structure Between (l : List Fp.Pr) (c : UInt8) (lo hi : Nat) : Prop where
  le : lo ≤ hi
  ln : hi ≤ l.length
  lt : ∀ j (hj : j < l.length), j < lo → (l[j]).k.toNat < c.toNat
  ge : ∀ j (hj : j < l.length), hi ≤ j → c.toNat ≤ (l[j]).k.toNat
theorem Between.start (l : List Fp.Pr) (c : UInt8) : Between l c 0 l.length := ⟨Nat.zero_le _, Nat.le_refl _, fun _ _ h => absurd h (Nat.not_lt_zero _), fun j hj h => by omega⟩
theorem getD_pr {l : List Fp.Pr} {k : Nat} (h : k < l.length) : l.getD k Fp.zero = l[k] := by simp [List.getD_eq_getElem?_getD, h]
theorem Between.up {l : List Fp.Pr} {c : UInt8} {lo hi m : Nat} (h : Between l c lo hi) (hu : Fp.Up l) (h2 : m < hi) (hm : (l.getD m Fp.zero).k.toNat < c.toNat) : Between l c (m + 1) hi := by
  refine ⟨h2, h.ln, fun j hj hjm => ?_, h.ge⟩
  have h3 := h.ln
  rw [getD_pr (by omega)] at hm
  rcases Nat.lt_or_ge j m with h4 | h4
  · have := hu.at (show m < l.length by omega) h4; omega
  · obtain rfl : j = m := by omega
    exact hm
theorem Between.down {l : List Fp.Pr} {c : UInt8} {lo hi m : Nat} (h : Between l c lo hi) (hu : Fp.Up l) (h1 : lo ≤ m) (h2 : m < hi) (hm : c.toNat ≤ (l.getD m Fp.zero).k.toNat) : Between l c lo m := by
  have h3 := h.ln
  refine ⟨h1, by omega, h.lt, fun j hj hjm => ?_⟩
  rw [getD_pr (by omega)] at hm
  rcases Nat.lt_or_ge m j with h4 | h4
  · have := hu.at hj h4; omega
  · obtain rfl : j = m := by omega
    exact hm
theorem Between.hit {l : List Fp.Pr} {c : UInt8} {i : Nat} (h : Between l c i i) (hi : i < l.length) (hm : (l.getD i Fp.zero).k.toNat = c.toNat) : Fp.Found l c i true := by
  rw [getD_pr hi] at hm
  exact ⟨h.ln, h.lt, h.ge, fun _ => ⟨hi, UInt8.toNat_inj.1 hm⟩, fun h0 => by cases h0⟩
theorem Between.miss {l : List Fp.Pr} {c : UInt8} {i : Nat} (h : Between l c i i) (hm : i < l.length → (l.getD i Fp.zero).k.toNat ≠ c.toNat) : Fp.Found l c i false := by
  refine ⟨h.ln, h.lt, h.ge, fun h0 => (by cases h0), fun _ hi he => hm hi ?_⟩
  rw [getD_pr hi, he]

set_option maxRecDepth 100000 in
set_option maxHeartbeats 1600000 in
theorem search_some (l : List Fp.Pr) (c : UInt8) (b off cap : Nat) (w : World) (hu : Fp.Up l) (hl : l.length ≤ 256)
    (hc : ∀ i, i < l.length → w.cell? ⟨b, off + i * 2, none⟩ = some (.int .u8 ((l.getD i Fp.zero).k.toNat : Int)) ∧ w.cell? ⟨b, off + i * 2 + 1, none⟩ = some (.string (l.getD i Fp.zero).v)) :
    Calls Try.prog 27 #[.slice (some ⟨b, off, none⟩) l.length cap, .int .u8 (c.toNat : Int), .func (.func 28) #[] #[]] w (SearchOut w l c) := by
  have HC := Lib.hid hc
  have HU := Lib.hid hu
  have HS := Lib.hid (Between.start l c)
  clear hc hu
  obtain ⟨len, hlen⟩ : ∃ len, l.length = len := ⟨_, rfl⟩
  rw [hlen] at hl HC HS ⊢
  have HL := Lib.hid hlen
  clear hlen
  go_enter Try.func27, Try.ntmps27
  go_wp2_with fail
  go_loopw [9, 10] (fun x y wr => ∃ lo hi : Nat, hi ≤ len ∧ x = .int .i64 lo ∧ y = .int .i64 hi ∧ Between l c lo hi ∧ Below w.heap.size w wr) (fun x y _ => (intOf y).toNat - (intOf x).toNat)
  case atStart => exact ⟨0, len, Nat.le_refl _, rfl, rfl, HS.out, Below.refl _ _⟩
  case round =>
    obtain ⟨lo, hi, hhi, rfl, rfl, hB, bel⟩ := hrel
    have HB := Lib.hid hB
    have hle := hB.le
    clear hB
    by_cases hlt : lo < hi
    · obtain ⟨m, hm⟩ : ∃ m, (lo + hi) / 2 = m := ⟨_, rfl⟩
      have hm1 : lo ≤ m := by omega
      have hm2 : m < hi := by omega
      have hmi : ((lo : Int) + (hi : Int)) / 2 = (m : Int) := by omega
      obtain ⟨c0, c1⟩ := HC.out m (by omega)
      have hbb := block_lt_of_cell c0
      have z0 : wr.cell? ⟨b, off + m * 2, none⟩ = some (.int .u8 ((l.getD m Fp.zero).k.toNat : Int)) := by rw [bel.cell (p := ⟨b, off + m * 2, none⟩) hbb]; exact c0
      have z1 : wr.cell? ⟨b, off + m * 2 + 1, none⟩ = some (.string (l.getD m Fp.zero).v) := by rw [bel.cell (p := ⟨b, off + m * 2 + 1, none⟩) hbb]; exact c1
      clear c0 c1 hm
      have BUP := Lib.hid fun h => HB.out.up HU.out hm2 h
      have BDN := Lib.hid fun h => HB.out.down HU.out hm1 hm2 h
      generalize l.getD m Fp.zero = p at *
      have C := fun W : World => byKey_any p c.toNat W
      unfold prVal at C
      by_cases hcm : p.k.toNat < c.toNat
      · rw [cmpI_lt hcm] at C
        have C := Lib.hid C
        have HN := Lib.hid (BUP.out hcm)
        clear hcm
        go_wp2_with fail
        refine (C.out _).mono ?_
        rintro e w1 ⟨rfl, b1⟩
        go_wp2_with fail
        go_roundw
        case rel => exact ⟨m + 1, hi, hhi, by go_num, rfl, HN.out, bel.trans (b1.mono bel.size)⟩
        case measure => simp [intOf]; omega
      · have hge : c.toNat ≤ p.k.toNat := by omega
        have HN := Lib.hid (BDN.out hge)
        obtain ⟨q, hq, hq0⟩ : ∃ q, cmpI p.k.toNat c.toNat = q ∧ 0 ≤ q := by
          rcases Nat.lt_or_ge c.toNat p.k.toNat with h | h
          · exact ⟨1, cmpI_gt h, by omega⟩
          · exact ⟨0, cmpI_eq (by omega), by omega⟩
        rw [hq] at C
        have C := Lib.hid C
        clear hcm hge hq
        go_wp2_with fail
        refine (C.out _).mono ?_
        rintro e w1 ⟨rfl, b1⟩
        go_wp2_with fail
        go_roundw
        case rel => exact ⟨lo, m, by omega, rfl, rfl, HN.out, bel.trans (b1.mono bel.size)⟩
        case measure => simp [intOf]; omega
    · obtain rfl : hi = lo := by omega
      by_cases hn : hi < len
      · obtain ⟨c0, c1⟩ := HC.out hi hn
        have hbb := block_lt_of_cell c0
        have z0 : wr.cell? ⟨b, off + hi * 2, none⟩ = some (.int .u8 ((l.getD hi Fp.zero).k.toNat : Int)) := by rw [bel.cell (p := ⟨b, off + hi * 2, none⟩) hbb]; exact c0
        have z1 : wr.cell? ⟨b, off + hi * 2 + 1, none⟩ = some (.string (l.getD hi Fp.zero).v) := by rw [bel.cell (p := ⟨b, off + hi * 2 + 1, none⟩) hbb]; exact c1
        clear c0 c1
        have BH := Lib.hid fun h => HB.out.hit (by rw [HL.out]; exact hn) h
        have BM := Lib.hid fun h => HB.out.miss h
        generalize l.getD hi Fp.zero = p at *
        have C := fun W : World => byKey_any p c.toNat W
        unfold prVal at C
        by_cases he : p.k.toNat = c.toNat
        · rw [cmpI_eq he] at C
          have C := Lib.hid C
          have HN := Lib.hid (BH.out he)
          clear he
          go_wp2_with fail
          refine (C.out _).mono ?_
          rintro e w1 ⟨rfl, b1⟩
          go_wp2_with fail
          go_ret2
          exact SearchOut.mk HN.out (bel.trans (b1.mono bel.size))
        · have HN := Lib.hid (BM.out fun _ => he)
          obtain ⟨q, hq, hq0⟩ : ∃ q, cmpI p.k.toNat c.toNat = q ∧ q ≠ 0 := by
            rcases Nat.lt_or_ge c.toNat p.k.toNat with h | h
            · exact ⟨1, cmpI_gt h, by omega⟩
            · exact ⟨-1, cmpI_lt (by omega), by omega⟩
          rw [hq] at C
          have C := Lib.hid C
          have HQ := Lib.hid (show (q == 0) = false by simpa using hq0)
          clear he hq
          go_wp2_with fail
          refine (C.out _).mono ?_
          rintro e w1 ⟨rfl, b1⟩
          go_wp2_with fail
          go_ret2
          rw [HQ.out]
          exact SearchOut.mk HN.out (bel.trans (b1.mono bel.size))
      · have HN := Lib.hid (HB.out.miss fun h => absurd h (by rw [HL.out]; exact hn))
        go_wp2_with fail
        go_ret2
        exact SearchOut.mk HN.out bel

set_option maxRecDepth 100000 in
set_option maxHeartbeats 800000 in
theorem search_none (a : Option Addr) (cap : Nat) (c : UInt8) (w : World) :
    Calls Try.prog 27 #[.slice a 0 cap, .int .u8 (c.toNat : Int), .func (.func 28) #[] #[]] w (SearchOut w [] c) := by
  have HN := Lib.hid ((Between.start [] c).miss fun h => absurd h (by simp))
  go_enter Try.func27, Try.ntmps27
  go_wp2_with fail
  refine wp_loop_rounds 1 ?_
  rw [rounds_succ]
  go_wp2_with fail
  go_ret2
  exact SearchOut.mk HN.out (Below.refl _ _)

theorem search_any (v : Value) (l : List Fp.Pr) (c : UInt8) (w : World) (hu : Fp.Up l) (h : IsPrs w v l) :
    Calls Try.prog 27 #[v, .int .u8 (c.toNat : Int), .func (.func 28) #[] #[]] w (SearchOut w l c) := by
  obtain ⟨a, cap, rfl, _, _, h3⟩ := h
  rcases h3 with rfl | ⟨b, off, rfl, h4⟩
  · exact search_none a cap c w
  · exact search_some l c b off cap w hu hu.len h4

end Go.Proofs.Ytndfpbolneofmaa
