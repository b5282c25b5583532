/-
  What the document's functions of layer 17 answer, whatever comes in.
-/
import Derived.Test.YtfocdjpopjllpaaLnkRef
import Derived.Deep.RegionWith
namespace Go.Proofs.Ytfocdjpopjllpaa.Lk
open Go.RowKit

/-- A link with one more, without one, with one twice. -/
def sendL (l : List ByteArray) (s : ByteArray) (most : Int) : List ByteArray := if (l.length : Int) < most then l ++ [s] else l
def sendB (l : List ByteArray) (most : Int) : Bool := decide ((l.length : Int) < most)
def hasB (l : List ByteArray) (k : Int) : Bool := decide (0 ≤ k ∧ k < l.length)
def takeL (l : List ByteArray) (k : Int) : List ByteArray := if 0 ≤ k ∧ k < l.length then l.take k.toNat ++ l.drop (k.toNat + 1) else l
def takeS (l : List ByteArray) (k : Int) : ByteArray := if 0 ≤ k ∧ k < l.length then l.getD k.toNat ⟨#[]⟩ else ⟨#[]⟩
def twiceL (l : List ByteArray) (k most : Int) : List ByteArray := if 0 ≤ k ∧ k < l.length then sendL l (l.getD k.toNat ⟨#[]⟩) most else l
def twiceB (l : List ByteArray) (k most : Int) : Bool := hasB l k && sendB l most
theorem nat_of {k : Int} {n : Nat} (h : 0 ≤ k ∧ k < n) : ∃ j : Nat, k = j ∧ k.toNat = j ∧ j < n := ⟨k.toNat, by omega, rfl, by omega⟩

theorem rsend17_any (f t most : Int) (v : Value) (s : ByteArray) (l : List ByteArray) (w : World) (hv : IsL LS w v l) (hn : NilOk v) (hl : l.length ≤ 100000) :
    Calls Try.prog 8 #[.agg #[.int .i64 f, .int .i64 t, v], .string s, .int .i64 most] w (SendOut w v f t (sendL l s most) (sendB l most)) := by
  unfold sendL sendB
  by_cases h : (l.length : Int) < most
  · rw [if_pos h, decide_eq_true h]
    exact rsend_yes f t most v s l w hv h hl
  · rw [if_neg h, decide_eq_false h]
    exact rsend_no f t most v s l w hv hn (by omega)
theorem rtake17_any (f t k : Int) (v : Value) (l : List ByteArray) (w : World) (hv : IsL LS w v l) (hn : NilOk v) (hl : l.length ≤ 100000) :
    Calls Try.prog 10 #[.agg #[.int .i64 f, .int .i64 t, v], .int .i64 k] w (TakeOut w v f t (takeL l k) (takeS l k) (hasB l k)) := by
  unfold takeL takeS hasB
  by_cases h : 0 ≤ k ∧ k < l.length
  · rw [if_pos h, if_pos h, decide_eq_true h]
    obtain ⟨j, rfl, e, hj⟩ := nat_of h
    rw [e]
    exact rtake_yes f t j v l w hv hj hl
  · rw [if_neg h, if_neg h, decide_eq_false h]
    exact rtake_no f t k v l w hv hn (by omega)

set_option maxRecDepth 100000 in
set_option maxHeartbeats 1600000 in
theorem rtwice_no (f t k most : Int) (v : Value) (l : List ByteArray) (w : World) (hv : IsL LS w v l) (hn : NilOk v) (hk : k < 0 ∨ l.length ≤ k) :
    Calls Try.prog 12 #[.agg #[.int .i64 f, .int .i64 t, v], .int .i64 k, .int .i64 most] w (SendOut w v f t l false) := by
  obtain ⟨fa, fn, fc, rfl⟩ := lk_slice hv
  rw [← hv.len.1] at hk
  have FN := Lib.hid fun (W : World) (b : Below w.heap.size w W) => send_no_out (f := f) (t := t) hv hn b
  generalize hP : SendOut w (.slice fa fn fc) f t l false = P at *
  clear hP hv hn
  rcases hk with hk | hk
  · go_enter Try.func12, Try.ntmps12
    go_wp2_with fail
    refine bodyPost_ret (v := .tuple #[.agg #[.int .i64 f, .int .i64 t, .slice fa fn fc], .bool false]) (by simp [results, Try.results12, go_sem]) rfl ?_
    exact FN.out _ (((Below.refl _ _).alloc (Nat.le_refl _) _).alloc (by simp) _)
  · by_cases h0 : k < 0
    · omega
    go_enter Try.func12, Try.ntmps12
    go_wp2_with fail
    refine bodyPost_ret (v := .tuple #[.agg #[.int .i64 f, .int .i64 t, .slice fa fn fc], .bool false]) (by simp [results, Try.results12, go_sem]) rfl ?_
    exact FN.out _ (((Below.refl _ _).alloc (Nat.le_refl _) _).alloc (by simp) _)

/-- What a callee leaves, written into the answer's box. -/
theorem out_put {w W W1 : World} {f t : Int} {v0 v : Value} {a : Option Addr} {n c : Nat} {l0 l : List ByteArray} {b : Bool} {x y z : Value} (bx : Bx w f t v0 W) (hv : IsL LS w v l0) (hi : IsL LS W1 (.slice a n c) l) (hn : NilOk (.slice a n c)) (hr : Near W.heap.size v (.slice a n c)) (h0 : l0 ≠ []) (k : Below W.heap.size W W1) :
    SendOut w v f t l b (.returned (.tuple #[.agg #[.int .i64 f, .int .i64 t, .slice a n c], .bool b])) (((W1.setCell ⟨w.heap.size + 1, 0, none⟩ x).setCell ⟨w.heap.size + 1, 1, none⟩ y).setCell ⟨w.heap.size + 1, 2, none⟩ z) := by
  have hB := bx.lt
  have hp : ∀ a' n' c', (Value.slice a n c) = .slice (some a') n' c' → a'.block ≠ w.heap.size + 1 := fun a' n' c' e => by
    rcases hr a' n' c' e with h | ⟨p, m, d, e2, h⟩
    · omega
    · have := ls_lt hv h0 p m d e2
      omega
  exact ⟨a, n, c, rfl, ls_put (ls_put (ls_put hi _ _ _ hp) _ _ _ hp) _ _ _ hp, hn, fun p n' c' e => (hr p n' c' e).imp_left (Nat.le_trans (by omega)), bel_put (bel_put (bel_put (bx.w.trans (k.mono bx.w.size)) (by omega)) (by omega)) (by omega)⟩

set_option maxRecDepth 100000 in
set_option maxHeartbeats 1600000 in
theorem rtwice_yes (f t most : Int) (k : Nat) (v : Value) (l : List ByteArray) (w : World) (hv : IsL LS w v l) (hn : NilOk v) (hk : k < l.length) (hl : l.length ≤ 100000) :
    Calls Try.prog 12 #[.agg #[.int .i64 f, .int .i64 t, v], .int .i64 k, .int .i64 most] w (SendOut w v f t (sendL l (l.getD k ⟨#[]⟩) most) (sendB l most)) := by
  have mixed : Try.prog.follows Departure.mixedOrders = true := by kernel_rfl
  obtain ⟨fa, fn, fc, rfl⟩ := lk_slice hv
  have hfl := hv.len.1
  have h0 : l ≠ [] := fun e => by subst e; simp at hk
  rw [← hfl] at hk
  obtain ⟨s, hs⟩ : ∃ s, l.getD k ⟨#[]⟩ = s := ⟨_, rfl⟩
  have BX := Bx.new w f t (.slice fa fn fc)
  obtain ⟨w2, hw2⟩ : ∃ w2, ((w.alloc (.cells #[.int .i64 f, .int .i64 t, .slice fa fn fc] 24)).alloc (.cells #[.int .i64 0, .int .i64 0, .slice none 0 0] 24)) = w2 := ⟨_, rfl⟩
  rw [hw2] at BX
  obtain ⟨g, off, rfl, c0⟩ := ls_at (hv.keep BX.w) hk
  rw [hs] at c0 ⊢
  have RS := Lib.hid fun W (b : Below w.heap.size w W) => rsend17_any f t most _ s l W (hv.keep b) hn hl
  have FN := Lib.hid fun (W W1 : World) (a : Option Addr) (n c : Nat) (x y z : Value) (bx : Bx w f t (.slice (some ⟨g, off, none⟩) fn fc) W) (hi : IsL LS W1 (.slice a n c) (sendL l s most)) (hn : NilOk (.slice a n c)) (hr : Near W.heap.size (.slice (some ⟨g, off, none⟩) fn fc) (.slice a n c)) (k : Below W.heap.size W W1) => out_put (b := sendB l most) (x := x) (y := y) (z := z) bx hv hi hn hr h0 k
  generalize sendL l s most = r at *
  generalize sendB l most = d at *
  generalize hP : SendOut w (.slice (some ⟨g, off, none⟩) fn fc) f t r d = P at *
  replace BX := Lib.hid BX
  replace hw2 := Lib.hid hw2
  clear hv hn hl hfl hP h0 hs
  obtain ⟨⟨x0, x1, x2⟩, _⟩ := BX.out.cells
  have BD := Lib.hid (BX.out.keep (Below.refl _ _).drew)
  go_enter Try.func12, Try.ntmps12
  go_wp2_with (rw [hw2.out])
  go_region_with (go_at_call 8; refine (RS.out _ BD.out.w).mono ?_; rintro e w4 ⟨a, n, c, rfl, hi, hn, hr, b4⟩; have HI := Lib.hid hi; have HN := Lib.hid hn; have HR := Lib.hid hr; have B4 := Lib.hid b4; obtain ⟨_, ⟨y0, y1, y2⟩, q, q0, q1, q2⟩ := (BD.out.keep b4).cells; clear hi hn hr b4)
  all_goals
    go_wp2_with fail
    refine bodyPost_ret (v := .tuple #[.agg #[.int .i64 f, .int .i64 t, .slice a n c], .bool d]) (by simp [results, Try.results12, go_sem, y0, y1, y2]) rfl ?_
    exact FN.out _ _ _ _ _ _ _ _ BD.out HI.out HN.out HR.out B4.out

theorem rtwice17_any (f t k most : Int) (v : Value) (l : List ByteArray) (w : World) (hv : IsL LS w v l) (hn : NilOk v) (hl : l.length ≤ 100000) :
    Calls Try.prog 12 #[.agg #[.int .i64 f, .int .i64 t, v], .int .i64 k, .int .i64 most] w (SendOut w v f t (twiceL l k most) (twiceB l k most)) := by
  unfold twiceL twiceB hasB
  by_cases h : 0 ≤ k ∧ k < l.length
  · rw [if_pos h, decide_eq_true h, Bool.true_and]
    obtain ⟨j, rfl, e, hj⟩ := nat_of h
    rw [e]
    exact rtwice_yes f t most j v l w hv hn hj hl
  · rw [if_neg h, decide_eq_false h, Bool.false_and]
    exact rtwice_no f t k most v l w hv hn (by omega)

end Go.Proofs.Ytfocdjpopjllpaa.Lk
