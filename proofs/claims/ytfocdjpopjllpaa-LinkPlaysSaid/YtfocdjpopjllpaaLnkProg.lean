/-
  What the program's functions of layer 17 answer.
-/
import Derived.Test.YtfocdjpopjllpaaLnkRef2
namespace Go.Proofs.Ytfocdjpopjllpaa.Lk
open Go.RowKit

/-- The same list, with another room. -/
theorem ls_room {w : World} {a : Option Addr} {n c c' : Nat} {l : List ByteArray} (h : IsL LS w (.slice a n c) l) (hc : n ≤ c') : IsL LS w (.slice a n c') l := by
  obtain ⟨a', cap, e, h1, h2, h3⟩ := h
  injection e with e1 e2 e3
  subst e1 e2
  exact ⟨_, c', rfl, ⟨h1.1, hc⟩, h2, h3⟩

set_option maxRecDepth 100000 in
set_option maxHeartbeats 1600000 in
theorem has17_any (f t k : Int) (v : Value) (l : List ByteArray) (w : World) (hv : IsL LS w v l) :
    Calls Try.prog 15 #[.agg #[.int .i64 f, .int .i64 t, v], .int .i64 k] w fun e w' => e = .returned (.bool (hasB l k)) ∧ Below w.heap.size w w' := by
  obtain ⟨fa, fn, fc, rfl⟩ := lk_slice hv
  unfold hasB
  rw [← hv.len.1]
  clear hv
  have BW := Lib.hid ((Below.refl w.heap.size w).alloc (Nat.le_refl _) (.cells #[.int .i64 f, .int .i64 t, .slice fa fn fc] 24))
  by_cases h0 : 0 ≤ k
  · by_cases h1 : k < fn
    · have h : decide (0 ≤ k ∧ k < (fn : Int)) = true := decide_eq_true ⟨h0, h1⟩
      rw [h]
      clear h
      go_enter Try.func15, Try.ntmps15
      go_wp2_with fail
      go_ret
      exact ⟨by simp, BW.out⟩
    · have h : decide (0 ≤ k ∧ k < (fn : Int)) = false := decide_eq_false fun h => h1 h.2
      rw [h]
      clear h
      go_enter Try.func15, Try.ntmps15
      go_wp2_with fail
      go_ret
      exact ⟨by simp, BW.out⟩
  · have h : decide (0 ≤ k ∧ k < (fn : Int)) = false := decide_eq_false fun h => h0 h.1
    rw [h]
    clear h
    go_enter Try.func15, Try.ntmps15
    go_wp2_with fail
    go_ret
    exact ⟨by simp, BW.out⟩

set_option maxRecDepth 100000 in
set_option maxHeartbeats 1600000 in
theorem send_no (f t most : Int) (v : Value) (s : ByteArray) (l : List ByteArray) (w : World) (hv : IsL LS w v l) (hn : NilOk v) (hlt : most ≤ l.length) :
    Calls Try.prog 7 #[.agg #[.int .i64 f, .int .i64 t, v], .string s, .int .i64 most] w (SendOut w v f t l false) := by
  obtain ⟨fa, fn, fc, rfl⟩ := lk_slice hv
  rw [← hv.len.1] at hlt
  have FN := Lib.hid fun (W : World) (b : Below w.heap.size w W) => send_no_out (f := f) (t := t) hv hn b
  generalize hP : SendOut w (.slice fa fn fc) f t l false = P at *
  clear hP hv hn
  go_enter Try.func7, Try.ntmps7
  go_wp2_with fail
  refine bodyPost_ret (v := .tuple #[.agg #[.int .i64 f, .int .i64 t, .slice fa fn fc], .bool false]) (by simp [results, Try.results7, go_sem]) rfl ?_
  exact FN.out _ (((Below.refl _ _).alloc (Nat.le_refl _) _).alloc (by simp) _)

set_option maxRecDepth 100000 in
set_option maxHeartbeats 1600000 in
theorem first17_any (f t : Int) (k : Nat) (fa : Option Addr) (fn fc : Nat) (w : World) (hk : k ≤ fc) (hc : k ≤ 1000000) (hn : NilOk (.slice fa fn fc)) :
    Calls Try.prog 14 #[.agg #[.int .i64 f, .int .i64 t, .slice fa fn fc], .int .i64 k] w fun e w' => e = .returned (.slice fa k k) ∧ Below w.heap.size w w' := by
  have BW := Lib.hid ((Below.refl w.heap.size w).alloc (Nat.le_refl _) (.cells #[.int .i64 f, .int .i64 t, .slice fa fn fc] 24))
  cases fa with
  | none =>
    obtain rfl := hn _ _ rfl
    obtain rfl : k = 0 := by omega
    clear hn
    go_enter Try.func14, Try.ntmps14
    go_wp2_with fail
    go_ret
    exact ⟨by simp, BW.out⟩
  | some x =>
    clear hn
    go_enter Try.func14, Try.ntmps14
    go_wp2_with fail
    go_ret
    exact ⟨by simp, BW.out⟩

set_option maxRecDepth 100000 in
set_option maxHeartbeats 1600000 in
theorem send_yes (f t most : Int) (v : Value) (s : ByteArray) (l : List ByteArray) (w : World) (hv : IsL LS w v l) (hn : NilOk v) (hlt : (l.length : Int) < most) (hl : l.length ≤ 100000) :
    Calls Try.prog 7 #[.agg #[.int .i64 f, .int .i64 t, v], .string s, .int .i64 most] w (SendOut w v f t (l ++ [s]) true) := by
  obtain ⟨fa, fn, fc, rfl⟩ := lk_slice hv
  have hfl := hv.len.1
  have hroom := hv.room
  rw [← hfl] at hlt hl
  have e1 : decide (most ≤ (fn : Int)) = false := by simp; omega
  have BX := Bx.new w f t (.slice fa fn fc)
  obtain ⟨w2, hw2⟩ : ∃ w2, ((w.alloc (.cells #[.int .i64 f, .int .i64 t, .slice fa fn fc] 24)).alloc (.cells #[.int .i64 0, .int .i64 0, .slice none 0 0] 24)) = w2 := ⟨_, rfl⟩
  rw [hw2] at BX
  have FC := Lib.hid (first17_any f t fn fa fn fc w2 (by omega) (by omega) hn)
  have HV := Lib.hid fun (W : World) (b : Below w.heap.size w W) => ls_room (hv.keep b) (Nat.le_refl fn)
  have HN := Lib.hid (show fn + [s].length ≤ 1000000 by simp; omega)
  have HNil := Lib.hid (show NilOk (.slice fa fn fn) from fun n c e => by injection e with e1 e2 e3; have := hn fn fc (by rw [e1]); omega)
  have FN := Lib.hid fun (W : World) (B : Nat) (v' : Value) (h : OwnL LS W B v' (l ++ [s])) (hb : Below w.heap.size w W) (hB : w.heap.size ≤ B) => own_out (v0 := .slice fa fn fc) (f := f) (t := t) (b := true) h (show (l ++ [s] : List ByteArray).length ≤ 1000000 by simp; omega) hb hB
  generalize hP : SendOut w (.slice fa fn fc) f t (l ++ [s]) true = P at *
  replace BX := Lib.hid BX
  replace hw2 := Lib.hid hw2
  obtain ⟨⟨x0, x1, x2⟩, _⟩ := BX.out.cells
  clear hv hn hfl hP
  go_enter Try.func7, Try.ntmps7
  go_wp2_with (rw [hw2.out])
  refine FC.out.mono ?_
  rintro e w3 ⟨rfl, b3⟩
  have BX3 := Lib.hid (BX.out.keep b3)
  have BC := Lib.hid ((Below.refl w3.heap.size w3).alloc (Nat.le_refl _) (.cells #[.string s] 9))
  have hs3 := BX3.out.lt
  have HZ1 := Lib.hid (show w.heap.size + 1 < (w3.alloc (.cells #[.string s] 9)).heap.size by simp; omega)
  have hu := one_new w3 s
  have HU := Lib.hid hu
  obtain ⟨⟨x0, x1, x2⟩, ⟨y0, y1, y2⟩, q, q0, q1, q2⟩ := BX3.out.cells
  clear b3 hw2 hu hs3
  go_wp2_with (first | (at_builtin; refine wpl_run (.tmp 18) (.tmp 20) (.slice fa fn fn) _ rfl rfl rfl rfl _ (app_more _ (HV.out _ (BX3.out.w.trans (BC.out.mono BX3.out.w.size))) HNil.out HU.out (by simp) HN.out) ?_; rintro v2 w4 ⟨ho2, b4⟩; have C4 := Lib.hid (BC.out.trans (b4.mono BC.out.size)); have HO2 := Lib.hid ho2; obtain ⟨a2, m2, c2, rfl⟩ := own_slice ho2; obtain ⟨⟨x0, x1, x2⟩, ⟨y0, y1, y2⟩, q, q0, q1, q2⟩ := (BX3.out.keep C4.out).cells; clear ho2 b4) | fail)
  refine bodyPost_ret (v := .tuple #[.agg #[.int .i64 f, .int .i64 t, .slice a2 m2 c2], .bool true]) (by simp [results, Try.results7, go_sem, y0, y1, y2]) rfl ?_
  exact FN.out _ _ _ (own_put (own_put (own_put (own_put HO2.out (by have := HZ1.out; omega)) (by have := HZ1.out; omega)) (by have := HZ1.out; omega)) (by have := HZ1.out; omega)) (bel_put (bel_put (bel_put (bel_put (BX3.out.w.trans (C4.out.mono BX3.out.w.size)) (by omega)) (by omega)) (by omega)) (by omega)) (by have := HZ1.out; omega)

theorem send17_any (f t most : Int) (v : Value) (s : ByteArray) (l : List ByteArray) (w : World) (hv : IsL LS w v l) (hn : NilOk v) (hl : l.length ≤ 100000) :
    Calls Try.prog 7 #[.agg #[.int .i64 f, .int .i64 t, v], .string s, .int .i64 most] w (SendOut w v f t (sendL l s most) (sendB l most)) := by
  unfold sendL sendB
  by_cases h : (l.length : Int) < most
  · rw [if_pos h, decide_eq_true h]
    exact send_yes f t most v s l w hv hn h hl
  · rw [if_neg h, decide_eq_false h]
    exact send_no f t most v s l w hv hn (by omega)

end Go.Proofs.Ytfocdjpopjllpaa.Lk
