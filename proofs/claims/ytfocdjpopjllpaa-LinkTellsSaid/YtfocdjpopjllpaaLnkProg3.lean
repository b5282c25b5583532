/-
  What the program's Twice of layer 17 answers; the statements' example.
-/
import Derived.Test.YtfocdjpopjllpaaLnkProg2
namespace Go.Proofs.Ytfocdjpopjllpaa.Lk
open Go.RowKit

theorem take17_any (f t k : Int) (v : Value) (l : List ByteArray) (w : World) (hv : IsL LS w v l) (hn : NilOk v) (hl : l.length ≤ 100000) :
    Calls Try.prog 9 #[.agg #[.int .i64 f, .int .i64 t, v], .int .i64 k] w (TakeOut w v f t (takeL l k) (takeS l k) (hasB l k)) := by
  unfold takeL takeS
  by_cases h : 0 ≤ k ∧ k < l.length
  · have hB : hasB l k = true := decide_eq_true h
    rw [if_pos h, if_pos h, hB]
    obtain ⟨j, rfl, e, hj⟩ := nat_of h
    rw [e]
    exact take_yes f t j v l w hv hj hl
  · have hB : hasB l k = false := decide_eq_false h
    rw [if_neg h, if_neg h, hB]
    exact take_no f t k v l w hv hn hB

set_option maxRecDepth 100000 in
set_option maxHeartbeats 1600000 in
theorem twice_no (f t k most : Int) (v : Value) (l : List ByteArray) (w : World) (hv : IsL LS w v l) (hn : NilOk v) (hk : hasB l k = false) :
    Calls Try.prog 11 #[.agg #[.int .i64 f, .int .i64 t, v], .int .i64 k, .int .i64 most] w (SendOut w v f t l false) := by
  obtain ⟨fa, fn, fc, rfl⟩ := lk_slice hv
  have FN := Lib.hid fun (W : World) (b : Below w.heap.size w W) => send_no_out (f := f) (t := t) hv hn b
  have BX := Bx.new w f t (.slice fa fn fc)
  obtain ⟨w2, hw2⟩ : ∃ w2, ((w.alloc (.cells #[.int .i64 f, .int .i64 t, .slice fa fn fc] 24)).alloc (.cells #[.int .i64 0, .int .i64 0, .slice none 0 0] 24)) = w2 := ⟨_, rfl⟩
  rw [hw2] at BX
  have HS := has17_any f t k _ l w2 (hv.keep BX.w)
  rw [hk] at HS
  replace HS := Lib.hid HS
  generalize hP : SendOut w (.slice fa fn fc) f t l false = P at *
  replace BX := Lib.hid BX
  replace hw2 := Lib.hid hw2
  obtain ⟨⟨x0, x1, x2⟩, _⟩ := BX.out.cells
  clear hP hv hn hk
  go_enter Try.func11, Try.ntmps11
  go_wp2_with (rw [hw2.out])
  refine HS.out.mono ?_
  rintro e w3 ⟨rfl, b3⟩
  have B3 := Lib.hid b3
  obtain ⟨⟨x0, x1, x2⟩, ⟨y0, y1, y2⟩, q, q0, q1, q2⟩ := (BX.out.keep b3).cells
  clear b3
  go_wp2_with fail
  refine bodyPost_ret (v := .tuple #[.agg #[.int .i64 f, .int .i64 t, .slice fa fn fc], .bool false]) (by simp [results, Try.results11, go_sem, y0, y1, y2]) rfl ?_
  exact FN.out _ (bel_put (bel_put (bel_put (BX.out.w.trans (B3.out.mono BX.out.w.size)) (by omega)) (by omega)) (by omega))

set_option maxRecDepth 100000 in
set_option maxHeartbeats 1600000 in
theorem twice_yes (f t most : Int) (k : Nat) (v : Value) (l : List ByteArray) (w : World) (hv : IsL LS w v l) (hn : NilOk v) (hk : k < l.length) (hl : l.length ≤ 100000) :
    Calls Try.prog 11 #[.agg #[.int .i64 f, .int .i64 t, v], .int .i64 k, .int .i64 most] w (SendOut w v f t (sendL l (l.getD k ⟨#[]⟩) most) (sendB l most)) := by
  have mixed : Try.prog.follows Departure.mixedOrders = true := by kernel_rfl
  obtain ⟨fa, fn, fc, rfl⟩ := lk_slice hv
  have hfl := hv.len.1
  have h0 : l ≠ [] := fun e => by subst e; simp at hk
  have hB : hasB l (k : Int) = true := decide_eq_true ⟨by omega, by omega⟩
  rw [← hfl] at hk
  obtain ⟨s, hs⟩ : ∃ s, l.getD k ⟨#[]⟩ = s := ⟨_, rfl⟩
  have BX := Bx.new w f t (.slice fa fn fc)
  obtain ⟨w2, hw2⟩ : ∃ w2, ((w.alloc (.cells #[.int .i64 f, .int .i64 t, .slice fa fn fc] 24)).alloc (.cells #[.int .i64 0, .int .i64 0, .slice none 0 0] 24)) = w2 := ⟨_, rfl⟩
  rw [hw2] at BX
  have HS := has17_any f t k _ l w2 (hv.keep BX.w)
  rw [hB] at HS
  replace HS := Lib.hid HS
  obtain ⟨g, off, rfl, c0⟩ := ls_at (hv.keep BX.w) hk
  rw [hs] at c0 ⊢
  have RS := Lib.hid fun W (b : Below w.heap.size w W) => send17_any f t most _ s l W (hv.keep b) hn hl
  have FN := Lib.hid fun (W W1 : World) (a : Option Addr) (n c : Nat) (x y z : Value) (bx : Bx w f t (.slice (some ⟨g, off, none⟩) fn fc) W) (hi : IsL LS W1 (.slice a n c) (sendL l s most)) (hn : NilOk (.slice a n c)) (hr : Near W.heap.size (.slice (some ⟨g, off, none⟩) fn fc) (.slice a n c)) (k : Below W.heap.size W W1) => out_put (b := sendB l most) (x := x) (y := y) (z := z) bx hv hi hn hr h0 k
  generalize sendL l s most = r at *
  generalize sendB l most = d at *
  generalize hP : SendOut w (.slice (some ⟨g, off, none⟩) fn fc) f t r d = P at *
  replace BX := Lib.hid BX
  replace hw2 := Lib.hid hw2
  have HB0 := Lib.hid (block_lt_of_cell c0)
  clear hv hn hl hfl hP h0 hs hB
  obtain ⟨⟨x0, x1, x2⟩, _⟩ := BX.out.cells
  go_enter Try.func11, Try.ntmps11
  go_wp2_with (rw [hw2.out])
  refine HS.out.mono ?_
  rintro e w3 ⟨rfl, b3⟩
  have c1 := (b3.cell (p := ⟨g, off + k, none⟩) HB0.out).trans c0
  have BX3 := Lib.hid (BX.out.keep b3)
  obtain ⟨⟨x0, x1, x2⟩, ⟨y0, y1, y2⟩, q, q0, q1, q2⟩ := BX3.out.cells
  clear b3 hw2 c0
  go_wp2_with fail
  have BD := Lib.hid (BX3.out.keep (Below.refl _ _).drew)
  go_region_with (go_at_call 7; refine (RS.out _ BD.out.w).mono ?_; rintro e w4 ⟨a, n, c, rfl, hi, hn, hr, b4⟩; have HI := Lib.hid hi; have HN := Lib.hid hn; have HR := Lib.hid hr; have B4 := Lib.hid b4; obtain ⟨_, ⟨y0, y1, y2⟩, q, q0, q1, q2⟩ := (BD.out.keep b4).cells; clear hi hn hr b4)
  all_goals
    go_wp2_with fail
    refine bodyPost_ret (v := .tuple #[.agg #[.int .i64 f, .int .i64 t, .slice a n c], .bool d]) (by simp [results, Try.results11, go_sem, y0, y1, y2]) rfl ?_
    exact FN.out _ _ _ _ _ _ _ _ BD.out HI.out HN.out HR.out B4.out

theorem twice17_any (f t k most : Int) (v : Value) (l : List ByteArray) (w : World) (hv : IsL LS w v l) (hn : NilOk v) (hl : l.length ≤ 100000) :
    Calls Try.prog 11 #[.agg #[.int .i64 f, .int .i64 t, v], .int .i64 k, .int .i64 most] w (SendOut w v f t (twiceL l k most) (twiceB l k most)) := by
  unfold twiceL twiceB
  by_cases h : 0 ≤ k ∧ k < l.length
  · have hB : hasB l k = true := decide_eq_true h
    rw [if_pos h, hB, Bool.true_and]
    obtain ⟨j, rfl, e, hj⟩ := nat_of h
    rw [e]
    exact twice_yes f t most j v l w hv hn hj hl
  · have hB : hasB l k = false := decide_eq_false h
    rw [if_neg h, hB, Bool.false_and]
    exact twice_no f t k most v l w hv hn hB

end Go.Proofs.Ytfocdjpopjllpaa.Lk
