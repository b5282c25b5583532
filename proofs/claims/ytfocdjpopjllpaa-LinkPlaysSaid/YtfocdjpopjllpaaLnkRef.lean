/-
  What the document's Send, Take and Twice of layer 17 answer.
-/
import Derived.Test.YtfocdjpopjllpaaLnkApp
import Derived.Laws.AppendOwnNone
import Derived.Outline
import Derived.Shelf.RegionOpenPlain
import Derived.Deep.DeepCutAuto
import Derived.Deep.DeepCutAuto
namespace Go.Proofs.Ytfocdjpopjllpaa.Lk
open Go.RowKit

/-- What Send and Twice leave. -/
def SendOut (w : World) (v : Value) (f t : Int) (l : List ByteArray) (b : Bool) (e : Ending) (w' : World) : Prop :=
  ∃ a n c, e = .returned (.tuple #[.agg #[.int .i64 f, .int .i64 t, .slice a n c], .bool b]) ∧ IsL LS w' (.slice a n c) l ∧ NilOk (.slice a n c) ∧ Near w.heap.size v (.slice a n c) ∧ Below w.heap.size w w'
/-- What Take leaves. -/
def TakeOut (w : World) (v : Value) (f t : Int) (l : List ByteArray) (s : ByteArray) (b : Bool) (e : Ending) (w' : World) : Prop :=
  ∃ a n c, e = .returned (.tuple #[.agg #[.int .i64 f, .int .i64 t, .slice a n c], .string s, .bool b]) ∧ IsL LS w' (.slice a n c) l ∧ NilOk (.slice a n c) ∧ Near w.heap.size v (.slice a n c) ∧ Below w.heap.size w w'

/-- The call's two boxes: the link that came in, and the answer's. -/
structure Bx (w : World) (f t : Int) (v : Value) (W : World) : Prop where
  b : W.heap[w.heap.size]? = some (.cells #[.int .i64 f, .int .i64 t, v] 24 (0, 0))
  r : W.heap[w.heap.size + 1]? = some (.cells #[.int .i64 0, .int .i64 0, .slice none 0 0] 24 (0, 0))
  w : Below w.heap.size w W
theorem Bx.new (w : World) (f t : Int) (v : Value) : Bx w f t v ((w.alloc (.cells #[.int .i64 f, .int .i64 t, v] 24)).alloc (.cells #[.int .i64 0, .int .i64 0, .slice none 0 0] 24)) := by
  refine ⟨?_, ?_, ((Below.refl _ _).alloc (Nat.le_refl _) _).alloc (by simp) _⟩
  · rw [heap_alloc_old _ _ (by simp)]; exact heap_alloc_new w _
  · have := heap_alloc_new (w.alloc (.cells #[.int .i64 f, .int .i64 t, v] 24)) (.cells #[.int .i64 0, .int .i64 0, .slice none 0 0] 24)
    simpa using this
theorem Bx.keep {w : World} {f t : Int} {v : Value} {W W' : World} (h : Bx w f t v W) (k : Below W.heap.size W W') : Bx w f t v W' :=
  ⟨(k.block _ (Array.getElem?_eq_some_iff.1 h.b).1).trans h.b, (k.block _ (Array.getElem?_eq_some_iff.1 h.r).1).trans h.r, h.w.trans (k.mono h.w.size)⟩
theorem Bx.lt {w : World} {f t : Int} {v : Value} {W : World} (h : Bx w f t v W) : w.heap.size + 2 ≤ W.heap.size := (Array.getElem?_eq_some_iff.1 h.r).1
theorem Bx.cells {w : World} {f t : Int} {v : Value} {W : World} (h : Bx w f t v W) :
    (W.cell? ⟨w.heap.size, 0, none⟩ = some (.int .i64 f) ∧ W.cell? ⟨w.heap.size, 1, none⟩ = some (.int .i64 t) ∧ W.cell? ⟨w.heap.size, 2, none⟩ = some v) ∧
    (W.cell? ⟨w.heap.size + 1, 0, none⟩ = some (.int .i64 0) ∧ W.cell? ⟨w.heap.size + 1, 1, none⟩ = some (.int .i64 0) ∧ W.cell? ⟨w.heap.size + 1, 2, none⟩ = some (.slice none 0 0)) ∧
    W.frozen? ⟨w.heap.size, 2, none⟩ = false ∧ W.frozen? ⟨w.heap.size + 1, 0, none⟩ = false ∧ W.frozen? ⟨w.heap.size + 1, 1, none⟩ = false ∧ W.frozen? ⟨w.heap.size + 1, 2, none⟩ = false :=
  ⟨⟨by rw [cell_of_row _ _ 0 _ _ _ h.b]; rfl, by rw [cell_of_row _ _ 1 _ _ _ h.b]; rfl, by rw [cell_of_row _ _ 2 _ _ _ h.b]; rfl⟩,
   ⟨by rw [cell_of_row _ _ 0 _ _ _ h.r]; rfl, by rw [cell_of_row _ _ 1 _ _ _ h.r]; rfl, by rw [cell_of_row _ _ 2 _ _ _ h.r]; rfl⟩,
   by unfold World.frozen?; rw [h.b]; rfl, by unfold World.frozen?; rw [h.r]; rfl, by unfold World.frozen?; rw [h.r]; rfl, by unfold World.frozen?; rw [h.r]; rfl⟩
/-- What is written into the two boxes stays in the call's own. -/
theorem bel_put {w W : World} {k j : Nat} {u : Value} (h : Below w.heap.size w W) (hk : w.heap.size ≤ k) : Below w.heap.size w (W.setCell ⟨k, j, none⟩ u) := h.setCell (p := ⟨k, j, none⟩) hk u
/-- A list lies apart from the two boxes. -/
theorem ls_put {W : World} {v : Value} {l : List ByteArray} (h : IsL LS W v l) (k j : Nat) (u : Value) (hv : ∀ a n c, v = .slice (some a) n c → a.block ≠ k) : IsL LS (W.setCell ⟨k, j, none⟩ u) v l := by
  obtain ⟨a, cap, rfl, h1, h2, h3⟩ := h
  refine ⟨a, cap, rfl, h1, h2, ?_⟩
  rcases h3 with h3 | ⟨b, off, rfl, h4⟩
  · exact .inl h3
  · refine .inr ⟨b, off, rfl, fun i x hi => ?_⟩
    have hb : b ≠ k := hv _ _ _ rfl
    unfold World.cell?
    rw [show (W.setCell ⟨k, j, none⟩ u).heap[(⟨b, off + i, none⟩ : Addr).block]? = W.heap[b]? from Below.heap_setCell _ _ _ _ hb]
    exact h4 i x hi



/-- What is left where it fails. -/
theorem send_no_out {w W : World} {f t : Int} {a : Option Addr} {n c : Nat} {l : List ByteArray} (h : IsL LS w (.slice a n c) l) (hn : NilOk (.slice a n c)) (b : Below w.heap.size w W) :
    SendOut w (.slice a n c) f t l false (.returned (.tuple #[.agg #[.int .i64 f, .int .i64 t, .slice a n c], .bool false])) W := ⟨a, n, c, rfl, h.keep b, hn, Near.same _ rfl, b⟩
theorem bel_own {W0 W W' : World} {B : Nat} {v : Value} {l : List ByteArray} (b : Below W0.heap.size W0 W) (ho : OwnL LS W B v l) (hB : W0.heap.size ≤ B) (g : W.grownBy W' v.ownBlock) : Below W0.heap.size W0 W' :=
  b.grown g b.size (fun q hq => Nat.le_trans hB (ho.lt q hq).1)
theorem own_slice {w : World} {B : Nat} {v : Value} {l : List ByteArray} (h : OwnL LS w B v l) : ∃ a n c, v = .slice a n c := by
  rcases h.2 with ⟨rfl, _⟩ | ⟨g, cap, cur, rfl, _⟩
  · exact ⟨_, _, _, rfl⟩
  · exact ⟨_, _, _, rfl⟩
/-- A list of the call's own, through what is written into the two boxes. -/
theorem own_put {W : World} {v : Value} {B k j : Nat} {l : List ByteArray} {u : Value} (h : OwnL LS W B v l) (hk : k < B) : OwnL LS (W.setCell ⟨k, j, none⟩ u) B v l := by
  refine ⟨h.1, ?_⟩
  rcases h.2 with h0 | ⟨g, cap, cur, h1, h2, h3, h4⟩
  · exact .inl h0
  · refine .inr ⟨g, cap, cur, h1, h2, ?_, h4⟩
    rw [Below.heap_setCell _ _ _ _ (show g ≠ k by omega)]
    exact h3
/-- The answer of a list of the call's own. -/
theorem own_out {w W : World} {B : Nat} {v0 : Value} {f t : Int} {v : Value} {b : Bool} {l : List ByteArray} (h : OwnL LS W B v l) (hl : l.length ≤ 1000000) (hb : Below w.heap.size w W) (hB : w.heap.size ≤ B) :
    SendOut w v0 f t l b (.returned (.tuple #[.agg #[.int .i64 f, .int .i64 t, v], .bool b])) W := by
  have hi := h.is (by unfold maxLen; omega) (fun _ _ => trivial)
  obtain ⟨a, n, c, rfl⟩ := lk_slice hi
  exact ⟨a, n, c, rfl, hi, own_nil h, Near.own h hB, hb⟩
theorem own_take {w W : World} {B : Nat} {v0 : Value} {f t : Int} {v : Value} {b : Bool} {l : List ByteArray} {s : ByteArray} (h : OwnL LS W B v l) (hl : l.length ≤ 1000000) (hb : Below w.heap.size w W) (hB : w.heap.size ≤ B) :
    TakeOut w v0 f t l s b (.returned (.tuple #[.agg #[.int .i64 f, .int .i64 t, v], .string s, .bool b])) W := by
  have hi := h.is (by unfold maxLen; omega) (fun _ _ => trivial)
  obtain ⟨a, n, c, rfl⟩ := lk_slice hi
  exact ⟨a, n, c, rfl, hi, own_nil h, Near.own h hB, hb⟩

set_option maxRecDepth 100000 in
set_option maxHeartbeats 1600000 in
theorem rsend_no (f t most : Int) (v : Value) (s : ByteArray) (l : List ByteArray) (w : World) (hv : IsL LS w v l) (hn : NilOk v) (hlt : most ≤ l.length) :
    Calls Try.prog 8 #[.agg #[.int .i64 f, .int .i64 t, v], .string s, .int .i64 most] w (SendOut w v f t l false) := by
  obtain ⟨fa, fn, fc, rfl⟩ := lk_slice hv
  rw [← hv.len.1] at hlt
  have FN := Lib.hid fun (W : World) (b : Below w.heap.size w W) => send_no_out (f := f) (t := t) hv hn b
  generalize hP : SendOut w (.slice fa fn fc) f t l false = P at *
  clear hP hv hn
  go_enter Try.func8, Try.ntmps8
  go_wp2_with fail
  refine bodyPost_ret (v := .tuple #[.agg #[.int .i64 f, .int .i64 t, .slice fa fn fc], .bool false]) (by simp [results, Try.results8, go_sem]) rfl ?_
  exact FN.out _ (((Below.refl _ _).alloc (Nat.le_refl _) _).alloc (by simp) _)

set_option maxRecDepth 100000 in
set_option maxHeartbeats 1600000 in
theorem rsend_yes (f t most : Int) (v : Value) (s : ByteArray) (l : List ByteArray) (w : World) (hv : IsL LS w v l) (hlt : (l.length : Int) < most) (hl : l.length ≤ 100000) :
    Calls Try.prog 8 #[.agg #[.int .i64 f, .int .i64 t, v], .string s, .int .i64 most] w (SendOut w v f t (l ++ [s]) true) := by
  obtain ⟨fa, fn, fc, rfl⟩ := lk_slice hv
  have hfl := hv.len.1
  rw [← hfl] at hlt
  have e1 : decide (most ≤ (fn : Int)) = false := by simp; omega
  have BX := Bx.new w f t (.slice fa fn fc)
  obtain ⟨w2, hw2⟩ : ∃ w2, ((w.alloc (.cells #[.int .i64 f, .int .i64 t, .slice fa fn fc] 24)).alloc (.cells #[.int .i64 0, .int .i64 0, .slice none 0 0] 24)) = w2 := ⟨_, rfl⟩
  have HZ : w2.heap.size = w.heap.size + 2 := by rw [← hw2]; simp
  rw [hw2] at BX
  have N0 := own_zero w2
  rw [HZ] at N0
  have BA := BX.w.alloc BX.w.size (.cells #[] 9)
  have HV := Lib.hid (hv.keep BA)
  have HN := Lib.hid (show ([] : List ByteArray).length + l.length ≤ 1000000 by simpa using by omega)
  have HN2 := Lib.hid (show ([] ++ l : List ByteArray).length + [s].length ≤ 1000000 by simp; omega)
  have FN := Lib.hid fun (W : World) (v' : Value) (h : OwnL LS W (w.heap.size + 2) v' ([] ++ l ++ [s])) (hb : Below w.heap.size w W) => own_out (v0 := .slice fa fn fc) (f := f) (t := t) (b := true) h (show ([] ++ l ++ [s] : List ByteArray).length ≤ 1000000 by simp; omega) hb (Nat.le_add_right _ _)
  rw [show ([] ++ l ++ [s] : List ByteArray) = l ++ [s] from rfl] at FN
  generalize hP : SendOut w (.slice fa fn fc) f t (l ++ [s]) true = P at *
  replace BX := Lib.hid BX
  replace N0 := Lib.hid N0
  have BC := Lib.hid ((Below.refl w2.heap.size w2).alloc (Nat.le_refl _) (.cells #[] 9))
  clear hv hfl hP
  replace hw2 := Lib.hid hw2
  replace HZ := Lib.hid HZ
  go_enter Try.func8, Try.ntmps8
  go_wp2_with (first | (at_builtin; rw [hw2.out]; refine wpl_run (.tmp 14) (.tmp 16) _ _ rfl rfl rfl rfl _ (app_own _ N0.out HV.out (by simp [HZ.out]) HN.out) ?_; rintro v1 w1 ⟨ho1, hg1⟩; have C1 := Lib.hid (bel_own BC.out N0.out (Nat.le_of_eq HZ.out) hg1); have HO1 := Lib.hid (ho1.alloc (.cells #[.string s] 9)); have HU1 := Lib.hid (one_new w1 s); have C2 := Lib.hid (C1.out.alloc C1.out.size (.cells #[.string s] 9)); clear ho1 hg1 hw2) | (at_builtin; refine wpl_run (.tmp 17) (.tmp 19) _ _ rfl rfl rfl rfl _ (app_own _ HO1.out HU1.out (Nat.le_trans (Nat.le_of_eq HZ.out.symm) C2.out.size) HN2.out) ?_; rintro v2 w3 ⟨ho2, hg2⟩; obtain ⟨a2, m2, c2, rfl⟩ := own_slice ho2; have C3 := Lib.hid (bel_own C2.out HO1.out (Nat.le_of_eq HZ.out) hg2); have HO2 := Lib.hid ho2; obtain ⟨⟨x0, x1, x2⟩, ⟨y0, y1, y2⟩, q, q0, q1, q2⟩ := (BX.out.keep C3.out).cells; clear ho2 hg2))
  refine bodyPost_ret (v := .tuple #[.agg #[.int .i64 f, .int .i64 t, .slice a2 m2 c2], .bool true]) (by simp [results, Try.results8, go_sem, y0, y1, y2]) rfl ?_
  refine FN.out _ _ (own_put (own_put (own_put (own_put HO2.out (by omega)) (by omega)) (by omega)) (by omega)) (bel_put (bel_put (bel_put (bel_put (BX.out.w.trans (C3.out.mono BX.out.w.size)) (by omega)) (by omega)) (by omega)) (by omega))

theorem take_no_out {w W : World} {f t : Int} {a : Option Addr} {n c : Nat} {l : List ByteArray} (h : IsL LS w (.slice a n c) l) (hn : NilOk (.slice a n c)) (b : Below w.heap.size w W) :
    TakeOut w (.slice a n c) f t l ⟨#[]⟩ false (.returned (.tuple #[.agg #[.int .i64 f, .int .i64 t, .slice a n c], .string ⟨#[]⟩, .bool false])) W := ⟨a, n, c, rfl, h.keep b, hn, Near.same _ rfl, b⟩

set_option maxRecDepth 100000 in
set_option maxHeartbeats 1600000 in
theorem rtake_no (f t k : Int) (v : Value) (l : List ByteArray) (w : World) (hv : IsL LS w v l) (hn : NilOk v) (hk : k < 0 ∨ l.length ≤ k) :
    Calls Try.prog 10 #[.agg #[.int .i64 f, .int .i64 t, v], .int .i64 k] w (TakeOut w v f t l ⟨#[]⟩ false) := by
  obtain ⟨fa, fn, fc, rfl⟩ := lk_slice hv
  rw [← hv.len.1] at hk
  have FN := Lib.hid fun (W : World) (b : Below w.heap.size w W) => take_no_out (f := f) (t := t) hv hn b
  generalize hP : TakeOut w (.slice fa fn fc) f t l ⟨#[]⟩ false = P at *
  clear hP hv hn
  rcases hk with hk | hk
  · go_enter Try.func10, Try.ntmps10
    go_wp2_with fail
    refine bodyPost_ret (v := .tuple #[.agg #[.int .i64 f, .int .i64 t, .slice fa fn fc], .string ⟨#[]⟩, .bool false]) (by simp [results, Try.results10, go_sem]) rfl ?_
    exact FN.out _ (((Below.refl _ _).alloc (Nat.le_refl _) _).alloc (by simp) _)
  · by_cases h0 : k < 0
    · omega
    go_enter Try.func10, Try.ntmps10
    go_wp2_with fail
    refine bodyPost_ret (v := .tuple #[.agg #[.int .i64 f, .int .i64 t, .slice fa fn fc], .string ⟨#[]⟩, .bool false]) (by simp [results, Try.results10, go_sem]) rfl ?_
    exact FN.out _ (((Below.refl _ _).alloc (Nat.le_refl _) _).alloc (by simp) _)

set_option maxRecDepth 100000 in
set_option maxHeartbeats 1600000 in
theorem rtake_yes (f t : Int) (k : Nat) (v : Value) (l : List ByteArray) (w : World) (hv : IsL LS w v l) (hk : k < l.length) (hl : l.length ≤ 100000) :
    Calls Try.prog 10 #[.agg #[.int .i64 f, .int .i64 t, v], .int .i64 k] w (TakeOut w v f t (l.take k ++ l.drop (k + 1)) (l.getD k ⟨#[]⟩) true) := by
  have mixed : Try.prog.follows Departure.mixedOrders = true := by kernel_rfl
  obtain ⟨fa, fn, fc, rfl⟩ := lk_slice hv
  have hfl := hv.len.1
  have hroom := hv.room
  rw [← hfl] at hk hl
  have BX := Bx.new w f t (.slice fa fn fc)
  obtain ⟨w2, hw2⟩ : ∃ w2, ((w.alloc (.cells #[.int .i64 f, .int .i64 t, .slice fa fn fc] 24)).alloc (.cells #[.int .i64 0, .int .i64 0, .slice none 0 0] 24)) = w2 := ⟨_, rfl⟩
  have HZ : w2.heap.size = w.heap.size + 2 := by rw [← hw2]; simp
  rw [hw2] at BX
  have N0 := own_zero w2
  obtain ⟨g, off, rfl, c0⟩ := ls_at (hv.keep BX.w) hk
  have HVI := hv
  have HV1 := Lib.hid fun (W : World) (h : Below w.heap.size w W) => (hv.keep h).take (k := k) (by omega)
  obtain ⟨j, hj⟩ : ∃ j, k + 1 = j := ⟨_, rfl⟩
  rw [hj]
  have hjn : j ≤ fn := by omega
  have hjc : j ≤ fc := by omega
  have hwr : IntKind.i64.wrap ((k : Int) + 1) = (j : Int) := by rw [IntKind.wrap_i64]; omega
  obtain ⟨A, hA, hV2⟩ : ∃ A : Addr, (if fc = j then some (⟨g, off, none⟩ : Addr) else some ⟨g, off + j, none⟩) = some A ∧ ∀ (W : World), Below w.heap.size w W → IsL LS W (.slice (some A) (fn - j) (fc - j)) (l.drop j) := by
    by_cases h : fc = j
    · exact ⟨_, by rw [if_pos h], fun W b => (hv.keep b).drop hjn (fc - j) (by omega) (.inr (by omega))⟩
    · exact ⟨_, by rw [if_neg h], fun W b => (hv.keep b).drop (a := some ⟨g, off + j, none⟩) hjn (fc - j) (by omega) (.inl (by show _ = some (⟨g, off + j * 1, none⟩ : Addr); rw [Nat.mul_one]))⟩
  have HV2 := Lib.hid hV2
  have HN := Lib.hid (show ([] : List ByteArray).length + (l.take k).length ≤ 1000000 by rw [List.length_take]; simp; omega)
  have HN2 := Lib.hid (show ([] ++ l.take k : List ByteArray).length + (l.drop j).length ≤ 1000000 by simp; omega)
  obtain ⟨s, hs⟩ : ∃ s, l.getD k ⟨#[]⟩ = s := ⟨_, rfl⟩
  rw [hs] at c0 ⊢
  have FN := Lib.hid fun (W : World) (v' : Value) (h : OwnL LS W w2.heap.size v' ([] ++ l.take k ++ l.drop j)) (hb : Below w.heap.size w W) => own_take (v0 := .slice (some ⟨g, off, none⟩) fn fc) (f := f) (t := t) (b := true) (s := s) h (show ([] ++ l.take k ++ l.drop j : List ByteArray).length ≤ 1000000 by simp; omega) hb (by omega)
  rw [show ([] ++ l.take k ++ l.drop j : List ByteArray) = l.take k ++ l.drop j from rfl] at FN
  generalize hP : TakeOut w (.slice (some ⟨g, off, none⟩) fn fc) f t (l.take k ++ l.drop j) s true = P at *
  replace BX := Lib.hid BX
  replace N0 := Lib.hid N0
  have BC := Lib.hid ((Below.refl w2.heap.size w2).alloc (Nat.le_refl _) (.cells #[] 9))
  clear hv hfl hP hs HVI hV2 hj
  replace hw2 := Lib.hid hw2
  replace HZ := Lib.hid HZ
  obtain ⟨⟨x0, x1, x2⟩, ⟨y0, y1, y2⟩, q, q0, q1, q2⟩ := BX.out.cells
  go_enter Try.func10, Try.ntmps10
  go_wp2_with (rw [hw2.out])
  generalize hxs : l.take k = xs at *
  generalize hys : l.drop j = ys at *
  clear hxs hys hw2
  obtain ⟨⟨_, _, z2⟩, _⟩ := (BX.out.keep BC.out).cells
  have ND := Lib.hid (N0.out.keep ((Below.refl _ _).drew))
  have BD := Lib.hid BC.out.drew
  have HS := Lib.hid BD.out.size
  have hk1 : k ≤ fc := by omega
  go_region_law_o (first | (refine step_append_run rfl (.tmp 23) (.tmp 27) 22 rfl (.slice (some ⟨w2.heap.size, 0, none⟩) 0 0) (.slice (some ⟨g, off, none⟩) k fc) (by first | (simp [Act.eval]; done) | (simp [Act.eval, Act.put]; done)) (by first | (simp [Act.eval]; done) | (simp [Act.eval, Act.put]; done)) _ (app_own _ ND.out (HV1.out _ (BX.out.w.trans (BD.out.mono BX.out.w.size))) HS.out HN.out) ?_; rintro v1 w1 ⟨ho1, hg1⟩; have C1 := Lib.hid (bel_own BD.out ND.out (Nat.le_refl _) hg1); obtain ⟨⟨x0, x1, x2⟩, ⟨y0, y1, y2⟩, q, q0, q1, q2⟩ := (BX.out.keep C1.out).cells; have HO1 := Lib.hid ho1; clear ho1 hg1) | (refine step_append_run rfl (.tmp 28) (.tmp 33) 22 rfl v1 (.slice (some A) (fn - j) (fc - j)) (by first | (simp [Act.eval]; done) | (simp [Act.eval, Act.put]; done)) (by first | (simp [Act.eval]; done) | (simp [Act.eval, Act.put]; done)) _ (app_own _ HO1.out (HV2.out _ (BX.out.w.trans (C1.out.mono BX.out.w.size))) C1.out.size HN2.out) ?_; rintro v2 w3 ⟨ho2, hg2⟩; have C3 := Lib.hid (bel_own C1.out HO1.out (Nat.le_refl _) hg2); have HO2 := Lib.hid ho2; obtain ⟨a2, m2, c2, rfl⟩ := own_slice ho2; obtain ⟨⟨x0, x1, x2⟩, ⟨y0, y1, y2⟩, q, q0, q1, q2⟩ := (BX.out.keep C3.out).cells; clear ho2 hg2))
  all_goals
    go_wp2_with fail
    refine bodyPost_ret (v := .tuple #[.agg #[.int .i64 f, .int .i64 t, .slice a2 m2 c2], .string s, .bool true]) (by simp [results, Try.results10, go_sem, y0, y1, y2]) rfl ?_
    refine FN.out _ _ (own_put (own_put (own_put (own_put HO2.out (by have := HZ.out; omega)) (by have := HZ.out; omega)) (by have := HZ.out; omega)) (by have := HZ.out; omega)) (bel_put (bel_put (bel_put (bel_put (BX.out.w.trans (C3.out.mono BX.out.w.size)) (by omega)) (by omega)) (by omega)) (by omega))

end Go.Proofs.Ytfocdjpopjllpaa.Lk
