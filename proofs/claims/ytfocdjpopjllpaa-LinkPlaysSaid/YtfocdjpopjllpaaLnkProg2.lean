/-
  What the program's Take and Twice of layer 17 answer.
-/
import Derived.Test.YtfocdjpopjllpaaLnkProg
namespace Go.Proofs.Ytfocdjpopjllpaa.Lk
open Go.RowKit

/-- What is left of a list, written into the two boxes. -/
theorem take_put {w W W1 : World} {f t : Int} {v : Value} {a : Option Addr} {n c : Nat} {l0 l : List ByteArray} {s : ByteArray} {b : Bool} {u x y z : Value} (bx : Bx w f t v W) (hv : IsL LS w v l0) (hi : IsL LS W1 (.slice a n c) l) (hn : NilOk (.slice a n c)) (hr : Near W.heap.size v (.slice a n c)) (h0 : l0 ≠ []) (k : Below W.heap.size W W1) :
    TakeOut w v f t l s b (.returned (.tuple #[.agg #[.int .i64 f, .int .i64 t, .slice a n c], .string s, .bool b])) ((((W1.setCell ⟨w.heap.size, 2, none⟩ u).setCell ⟨w.heap.size + 1, 0, none⟩ x).setCell ⟨w.heap.size + 1, 1, none⟩ y).setCell ⟨w.heap.size + 1, 2, none⟩ z) := by
  have hB := bx.lt
  have hp : ∀ q, q = w.heap.size ∨ q = w.heap.size + 1 → ∀ a' n' c', (Value.slice a n c) = .slice (some a') n' c' → a'.block ≠ q := fun q hq a' n' c' e => by
    rcases hr a' n' c' e with h | ⟨p, m, d, e2, h⟩
    · omega
    · have := ls_lt hv h0 p m d e2
      omega
  exact ⟨a, n, c, rfl, ls_put (ls_put (ls_put (ls_put hi _ _ _ (hp _ (.inl rfl))) _ _ _ (hp _ (.inr rfl))) _ _ _ (hp _ (.inr rfl))) _ _ _ (hp _ (.inr rfl)), hn, fun p n' c' e => (hr p n' c' e).imp_left (Nat.le_trans (by omega)), bel_put (bel_put (bel_put (bel_put (bx.w.trans (k.mono bx.w.size)) (by omega)) (by omega)) (by omega)) (by omega)⟩

set_option maxRecDepth 100000 in
set_option maxHeartbeats 1600000 in
theorem take_no (f t k : Int) (v : Value) (l : List ByteArray) (w : World) (hv : IsL LS w v l) (hn : NilOk v) (hk : hasB l k = false) :
    Calls Try.prog 9 #[.agg #[.int .i64 f, .int .i64 t, v], .int .i64 k] w (TakeOut w v f t l ⟨#[]⟩ false) := by
  obtain ⟨fa, fn, fc, rfl⟩ := lk_slice hv
  have FN := Lib.hid fun (W : World) (b : Below w.heap.size w W) => take_no_out (f := f) (t := t) hv hn b
  have BX := Bx.new w f t (.slice fa fn fc)
  obtain ⟨w2, hw2⟩ : ∃ w2, ((w.alloc (.cells #[.int .i64 f, .int .i64 t, .slice fa fn fc] 24)).alloc (.cells #[.int .i64 0, .int .i64 0, .slice none 0 0] 24)) = w2 := ⟨_, rfl⟩
  rw [hw2] at BX
  have HS := has17_any f t k _ l w2 (hv.keep BX.w)
  rw [hk] at HS
  replace HS := Lib.hid HS
  generalize hP : TakeOut w (.slice fa fn fc) f t l ⟨#[]⟩ false = P at *
  replace BX := Lib.hid BX
  replace hw2 := Lib.hid hw2
  obtain ⟨⟨x0, x1, x2⟩, _⟩ := BX.out.cells
  clear hP hv hn hk
  go_enter Try.func9, Try.ntmps9
  go_wp2_with (rw [hw2.out])
  refine HS.out.mono ?_
  rintro e w3 ⟨rfl, b3⟩
  have B3 := Lib.hid b3
  obtain ⟨⟨x0, x1, x2⟩, ⟨y0, y1, y2⟩, q, q0, q1, q2⟩ := (BX.out.keep b3).cells
  clear b3
  go_wp2_with fail
  refine bodyPost_ret (v := .tuple #[.agg #[.int .i64 f, .int .i64 t, .slice fa fn fc], .string ⟨#[]⟩, .bool false]) (by simp [results, Try.results9, go_sem, y0, y1, y2]) rfl ?_
  exact FN.out _ (bel_put (bel_put (bel_put (BX.out.w.trans (B3.out.mono BX.out.w.size)) (by omega)) (by omega)) (by omega))

set_option maxRecDepth 100000 in
set_option maxHeartbeats 1600000 in
theorem take_yes (f t : Int) (k : Nat) (v : Value) (l : List ByteArray) (w : World) (hv : IsL LS w v l) (hk : k < l.length) (hl : l.length ≤ 100000) :
    Calls Try.prog 9 #[.agg #[.int .i64 f, .int .i64 t, v], .int .i64 k] w (TakeOut w v f t (l.take k ++ l.drop (k + 1)) (l.getD k ⟨#[]⟩) true) := by
  have mixed : Try.prog.follows Departure.mixedOrders = true := by kernel_rfl
  obtain ⟨fa, fn, fc, rfl⟩ := lk_slice hv
  have hfl := hv.len.1
  have hroom := hv.room
  have hB : hasB l (k : Int) = true := decide_eq_true ⟨by omega, by omega⟩
  have h0 : l ≠ [] := fun e => by subst e; simp at hk
  rw [← hfl] at hk hl
  have BX := Bx.new w f t (.slice fa fn fc)
  obtain ⟨w2, hw2⟩ : ∃ w2, ((w.alloc (.cells #[.int .i64 f, .int .i64 t, .slice fa fn fc] 24)).alloc (.cells #[.int .i64 0, .int .i64 0, .slice none 0 0] 24)) = w2 := ⟨_, rfl⟩
  rw [hw2] at BX
  have HS := has17_any f t k _ l w2 (hv.keep BX.w)
  rw [hB] at HS
  replace HS := Lib.hid HS
  obtain ⟨g, off, rfl, c0⟩ := ls_at (hv.keep BX.w) hk
  obtain ⟨j, hj⟩ : ∃ j, k + 1 = j := ⟨_, rfl⟩
  rw [hj]
  have hjn : j ≤ fn := by omega
  have hjc : j ≤ fc := by omega
  have hwr : IntKind.i64.wrap ((k : Int) + 1) = (j : Int) := by rw [IntKind.wrap_i64]; omega
  obtain ⟨A, hA, hV2⟩ : ∃ A : Addr, (if fc = j then some (⟨g, off, none⟩ : Addr) else some ⟨g, off + j, none⟩) = some A ∧ ∀ (W : World), Below w.heap.size w W → IsL LS W (.slice (some A) (fn - j) (fc - j)) (l.drop j) := by
    by_cases h : fc = j
    · exact ⟨_, by rw [if_pos h], fun W b => (hv.keep b).drop hjn (fc - j) (by omega) (.inr (by omega))⟩
    · exact ⟨_, by rw [if_neg h], fun W b => (hv.keep b).drop (a := some ⟨g, off + j, none⟩) hjn (fc - j) (by omega) (.inl (by show _ = some (⟨g, off + j * 1, none⟩ : Addr); rw [Nat.mul_one]))⟩
  have HV1 := Lib.hid fun (W : World) (h : Below w.heap.size w W) => ls_room ((hv.keep h).take (k := k) (by omega)) (Nat.le_refl k)
  have FC := Lib.hid fun W => first17_any f t k (some ⟨g, off, none⟩) fn fc W (by omega) (by omega) (nil_some _ _ _)
  have HV2 := Lib.hid hV2
  have HN := Lib.hid (show k + (l.drop j).length ≤ 1000000 by simp; omega)
  obtain ⟨s, hs⟩ : ∃ s, l.getD k ⟨#[]⟩ = s := ⟨_, rfl⟩
  rw [hs] at c0 ⊢
  have FN := Lib.hid fun (W1 : World) (a : Option Addr) (n c : Nat) (u x y z : Value) (W : World) (bx : Bx w f t (.slice (some ⟨g, off, none⟩) fn fc) W) (hi : IsL LS W1 (.slice a n c) (l.take k ++ l.drop j)) (hn : NilOk (.slice a n c)) (hr : Near W.heap.size (.slice (some ⟨g, off, none⟩) fn fc) (.slice a n c)) (k : Below W.heap.size W W1) => take_put (s := s) (b := true) (u := u) (x := x) (y := y) (z := z) bx hv hi hn hr h0 k
  generalize hP : TakeOut w (.slice (some ⟨g, off, none⟩) fn fc) f t (l.take k ++ l.drop j) s true = P at *
  have hk1 : k ≤ fc := by omega
  generalize hxs : l.take k = xs at *
  generalize hys : l.drop j = ys at *
  clear hxs hys
  replace BX := Lib.hid BX
  replace hw2 := Lib.hid hw2
  have HB0 := Lib.hid (block_lt_of_cell c0)
  obtain ⟨⟨x0, x1, x2⟩, _⟩ := BX.out.cells
  clear hv hfl hP hs hV2 hj hroom h0 hB
  go_enter Try.func9, Try.ntmps9
  go_wp2_with (rw [hw2.out])
  refine HS.out.mono ?_
  rintro e w3 ⟨rfl, b3⟩
  have c1 := (b3.cell (p := ⟨g, off + k, none⟩) HB0.out).trans c0
  have BX3 := Lib.hid (BX.out.keep b3)
  obtain ⟨⟨x0, x1, x2⟩, ⟨y0, y1, y2⟩, q, q0, q1, q2⟩ := BX3.out.cells
  clear b3 hw2 c0
  go_wp2_with fail
  have BD := Lib.hid (BX3.out.keep (Below.refl _ _).drew)
  obtain ⟨⟨x0, x1, x2⟩, ⟨y0, y1, y2⟩, q, q0, q1, q2⟩ := BD.out.cells
  go_region_law_o (first | (refine step_append_run rfl (.tmp 20) (.tmp 25) 22 rfl (.slice (some ⟨g, off, none⟩) k k) (.slice (some A) (fn - j) (fc - j)) (by first | (simp [Act.eval]; done) | (simp [Act.eval, Act.put]; done)) (by first | (simp [Act.eval]; done) | (simp [Act.eval, Act.put]; done)) _ (app_full _ (HV1.out _ BE.out.w) (nil_some _ _ _) (HV2.out _ BE.out.w) HN.out) ?_; rintro v2 w5 ⟨hi2, hn2, hr2, b5⟩; have HI2 := Lib.hid hi2; obtain ⟨a2, m2, c2, rfl⟩ := lk_slice hi2; have HN2 := Lib.hid hn2; have HR2 := Lib.hid hr2; have B5 := Lib.hid b5; obtain ⟨⟨x0, x1, x2⟩, ⟨y0, y1, y2⟩, q, q0, q1, q2⟩ := (BE.out.keep b5).cells; clear hi2 hn2 hr2 b5) | (go_simp; go_at_call 14; refine (FC.out _).mono ?_; rintro e w4 ⟨rfl, b4⟩; have BE := Lib.hid (BD.out.keep b4); obtain ⟨⟨x0, x1, x2⟩, ⟨y0, y1, y2⟩, q, q0, q1, q2⟩ := BE.out.cells; clear b4))
  all_goals
    go_wp2_with fail
    refine bodyPost_ret (v := .tuple #[.agg #[.int .i64 f, .int .i64 t, .slice a2 m2 c2], .string s, .bool true]) (by simp [results, Try.results9, go_sem, y0, y1, y2]) rfl ?_
    exact FN.out _ _ _ _ _ _ _ _ _ BE.out HI2.out HN2.out (HR2.out.trans (Near.same _ rfl) (Nat.le_refl _)) B5.out

end Go.Proofs.Ytfocdjpopjllpaa.Lk
