/-
  Parts of what the laws of this seat stand on: DiskVal, DiskChg, DiskFacts.
-/
import Derived.Test.YthhhocgpoenigaaGreatBu1
import Derived.Test.YthhhocgpoenigaaGreatBu2
namespace Go.Proofs.YthhhocgpoenigaaGreat.Dsk
open Go.RowKit Go.Proofs.YthhhocgpoenigaaGreat.Dp

/-- A disk as a value. -/
def dkVal (v : Value) (D : Dk) : Value := .agg #[v, .int .i64 D.c, .bool D.a, .int .i64 D.l, .bool D.x]
/-- May memory hold its numbers? -/
def DkB (D : Dk) : Prop := (-9223372036854775808 ≤ D.c ∧ D.c ≤ 9223372036854775807) ∧ (-9223372036854775808 ≤ D.l ∧ D.l ≤ 9223372036854775807)
/-- The value V is that disk. -/
def IsDk (w : World) (V : Value) (D : Dk) : Prop := ∃ v, V = dkVal v D ∧ IsL FL w v D.f ∧ DkB D
theorem IsDk.keep {w w' : World} {V : Value} {D : Dk} (h : IsDk w V D) (b : Below w.heap.size w w') : IsDk w' V D := by
  obtain ⟨v, h1, h2, h3⟩ := h
  exact ⟨v, h1, h2.keep b, h3⟩
theorem IsDk.below {w w' : World} {B : Nat} {V : Value} {D : Dk} (h : IsDk w V D) (b : Below B w w') (hB : w.heap.size ≤ B) : IsDk w' V D := by
  obtain ⟨v, h1, h2, h3⟩ := h
  exact ⟨v, h1, h2.below b hB, h3⟩
/-- A row of the call's own, from an elder block on. -/
theorem own_base {α : Type} {Y : Lay α} {w : World} {B B' : Nat} {v : Value} {l : List α} (h : OwnL Y w B v l) (hb : B' ≤ B) : OwnL Y w B' v l := by
  refine ⟨h.1, ?_⟩
  rcases h.2 with h0 | ⟨g, cap, cur, h1, h2, h3⟩
  · exact .inl h0
  · exact .inr ⟨g, cap, cur, h1, Nat.le_trans hb h2, h3⟩
/-- Files that were there, or new ones. -/
def KeptOr (w : World) (B : Nat) (fv : Value) (l0 : List Fl) (v : Value) (l : List Fl) : Prop := (v = fv ∧ l = l0) ∨ OwnL FL w B v l
/-- What a change answers: a disk and an error. -/
structure DkRes (w : World) (fv : Value) (l0 : List Fl) (R : Dk) (v : Value) (w' : World) : Prop where
  k : KeptOr w' w.heap.size fv l0 v R.f
  b : DkB R
  f : ∀ f ∈ R.f, FlB f
  n : R.f.length ≤ 1000000001
  w : Below w.heap.size w w'
def DkOut (w : World) (fv : Value) (l0 : List Fl) (R : Dk × Int) (e : Ending) (w' : World) : Prop := ∃ v, e = .returned (.tuple #[dkVal v R.1, .int .i64 R.2]) ∧ DkRes w fv l0 R.1 v w'
theorem DkRes.is {w w' : World} {fv v : Value} {l0 : List Fl} {R : Dk} (h : DkRes w fv l0 R v w') (hv : IsL FL w fv l0) : IsDk w' (dkVal v R) R := by
  refine ⟨v, rfl, ?_, h.b⟩
  rcases h.k with ⟨rfl, e⟩ | k
  · rw [e]; exact hv.keep h.w
  · exact k.is (by have := h.n; unfold maxLen; omega) h.f
/-- What a step of a change answers: files of the call's own, or an error. -/
def StepOut (w : World) (base : Nat) (l : List Fl) (own : Int) (e : Ending) (w' : World) : Prop := ∃ a n c, e = .returned (.tuple #[.slice a n c, .int .i64 own]) ∧ (own = 0 → OwnL FL w' base (.slice a n c) l) ∧ Below base w w'
theorem StepOut.no {w w' : World} {base : Nat} {l : List Fl} {own : Int} (a : Option Addr) (n c : Nat) (h : own ≠ 0) (b : Below base w w') : StepOut w base l own (.returned (.tuple #[.slice a n c, .int .i64 own])) w' := ⟨a, n, c, rfl, fun h' => absurd h' h, b⟩
theorem StepOut.yes {w w' : World} {base : Nat} {l : List Fl} {a : Option Addr} {n c : Nat} (h : OwnL FL w' base (.slice a n c) l) (b : Below base w w') : StepOut w base l 0 (.returned (.tuple #[.slice a n c, .int .i64 0])) w' := ⟨a, n, c, rfl, fun _ => h, b⟩
theorem own_slice {w : World} {base : Nat} {v : Value} {l : List Fl} (h : OwnL FL w base v l) : ∃ a n c, v = .slice a n c := by
  rcases h.2 with ⟨h0, _⟩ | ⟨g, cap, cur, h1, _⟩
  · exact ⟨_, _, _, h0⟩
  · exact ⟨_, _, _, h1⟩

/-- Cells in place of some within the first n. -/
theorem splice_mid {cur : Array Value} {o n : Nat} {vs : List Value} (h : o + vs.length ≤ n) (hn : n ≤ cur.size) :
    (splice cur o vs).toList.take n = (cur.toList.take n).take o ++ vs ++ (cur.toList.take n).drop (o + vs.length) := by
  unfold splice
  show (cur.toList.take o ++ vs ++ cur.toList.drop (o + vs.length)).take n = _
  have hl : (cur.toList.take o ++ vs).length = o + vs.length := by rw [List.length_append, List.length_take, Array.length_toList]; omega
  rw [List.take_append, List.take_of_length_le (by omega), hl, List.take_take, Nat.min_eq_left (by omega), List.drop_take]
theorem own_set {w : World} {base g cap i : Nat} {cur : Array Value} {l : List Fl} (f : Fl) (hb : base ≤ g) (hg : w.heap[g]? = some (.cells cur 81 (0, 0))) (hc : l.length ≤ cap) (hm : cap ≤ maxLen) (hs : cur.size = cap * 3) (ht : cur.toList.take (l.length * 3) = FL.vals l) (hi : i < l.length) :
    OwnL FL (((w.setCell ⟨g, i * 3, none⟩ (.string f.n)).setCell ⟨g, i * 3 + 1, none⟩ (.string f.d)).setCell ⟨g, i * 3 + 2, none⟩ (.int .i64 f.s)) base (.slice (some ⟨g, 0, none⟩) l.length cap) (l.take i ++ [f] ++ l.drop (i + 1)) := by
  have h3 : (flCells f).length = 3 := rfl
  have e1 : (l.take i ++ [f] ++ l.drop (i + 1)).length = l.length := by simp; omega
  have hs1 := splice_size (cur := cur) (o := i * 3) (vs := flCells f) (by omega)
  have hg1 := setCells_heap (o := i * 3) (vs := flCells f) hg (by omega)
  have := own_mk (base := base) (l := l.take i ++ [f] ++ l.drop (i + 1)) hb hg1 (by omega) hm (by omega) (by
    rw [e1, splice_mid (by omega) (by omega), ht, h3, show i * 3 + 3 = (i + 1) * 3 from by omega, vals_take, vals_drop, FL.vals_append, FL.vals_append, FL.vals_one]; rfl)
  rw [e1] at this
  exact this
theorem bel_set3 {base g : Nat} {w : World} (hb : base ≤ g) (o : Nat) (x y z : Value) : Below base w (((w.setCell ⟨g, o, none⟩ x).setCell ⟨g, o + 1, none⟩ y).setCell ⟨g, o + 2, none⟩ z) := bel_setCells hb [x, y, z] o w

set_option maxRecDepth 100000 in
set_option maxHeartbeats 1600000 in
/-- disk's put. -/
theorem put_any (l : List Fl) (base : Nat) (v : Value) (f : Fl) (w : World) (ho : OwnL FL w base v l) (hbw : base ≤ w.heap.size) (hu : Up l) (hl : l.length ≤ 1000000000) (hb : ∀ x ∈ l, FlB x) :
    Calls Tryz.prog 128 #[v, .agg #[.string f.n, .string f.d, .int .i64 f.s]] w (OutL FL w base (withF l f)) := by
  have F := Lib.hid fun (W : World) (h : OwnL FL W base v l) => find_any v l f.n W hu (by omega) (h.is (by unfold maxLen; omega) hb)
  have HH := Lib.hid fun i (h : FoundF l f.n i true) => h.with_hit hu (f := f) rfl
  have HM := Lib.hid fun i (h : FoundF l f.n i false) => h.with_miss hu (f := f) rfl
  have HO := Lib.hid (ho.alloc (.cells #[.string f.n, .string f.d, .int .i64 f.s] 81))
  have B0 := Lib.hid ((Below.refl _ w).alloc hbw (.cells #[.string f.n, .string f.d, .int .i64 f.s] 81))
  have HN := Lib.hid (box_new w (.string f.n) (.string f.d) (.int .i64 f.s) 81)
  have HB := Lib.hid hbw
  clear ho hu hb hbw
  go_enter Tryz.func128, Tryz.ntmps128
  go_wp2_with fail
  refine (F.out _ HO.out).mono ?_
  rintro e w1 ⟨i, b, rfl, hf, b1⟩
  obtain ⟨z0, z1, z2, _⟩ := box_keep HN.out b1
  have HO1 := Lib.hid (HO.out.keep b1)
  have B1 := Lib.hid (B0.out.trans (b1.mono (by have := B0.out.size; have := HB.out; omega)))
  clear b1
  rcases b with _ | _
  · have hi := hf.le
    have HF := Lib.hid (HM.out i hf)
    clear hf
    go_wp2_with fail
    have hbw1 := Nat.le_trans HB.out (Nat.le_trans (by simp) (Nat.le_trans (Nat.le_refl _) B1.out.size))
    refine (ins_any l base i v f w1.heap.size _ (HO1.out.alloc _) hi hl (Nat.le_trans hbw1 (by simp)) (heap_alloc_new w1 _) (fun e => absurd (HO1.out.lt _ e).2 (Nat.lt_irrefl _))).mono ?_
    rintro e w2 ⟨v2, rfl, ho2, b2⟩
    have HG := Lib.hid (show OutL FL w base (withF l f) (.returned v2) w2 by rw [HF.out]; exact OutL.mk ho2 ((B1.out.alloc hbw1 _).trans b2))
    clear ho2 b2
    go_wp2_with fail
    go_ret
    exact HG.out
  · obtain ⟨hi, hx⟩ := hf.hit rfl
    clear hx
    have HF := Lib.hid (HH.out i hf)
    clear hf
    obtain ⟨g, cap, cur, rfl, hb, hg, hc, hm, hs, ht⟩ := own_open HO1.out (by omega)
    have HS := Lib.hid (own_set f hb hg hc hm hs ht hi)
    have HG := Lib.hid (show OutL FL w base (withF l f) (.returned (.slice (some ⟨g, 0, none⟩) l.length cap)) _ by rw [HF.out]; exact OutL.mk HS.out (B1.out.trans (bel_set3 hb _ _ _ _)))
    obtain ⟨y0, hy0⟩ := Option.isSome_iff_exists.1 (row_some hg (i * 3) (by omega)).1
    obtain ⟨y1, hy1⟩ := Option.isSome_iff_exists.1 (row_some hg (i * 3 + 1) (by omega)).1
    obtain ⟨y2, hy2⟩ := Option.isSome_iff_exists.1 (row_some hg (i * 3 + 2) (by omega)).1
    have hf0 := (row_some hg (i * 3) (by omega)).2
    have hf1 := (row_some hg (i * 3 + 1) (by omega)).2
    have hf2 := (row_some hg (i * 3 + 2) (by omega)).2
    clear hg hs ht HS hb
    generalize l.length = len at *
    go_wp2_with fail
    go_ret
    exact HG.out

end Go.Proofs.YthhhocgpoenigaaGreat.Dsk

namespace Go.Proofs.YthhhocgpoenigaaGreat.Dsk
open Go.RowKit Go.Proofs.YthhhocgpoenigaaGreat.Dp

theorem made_func (fn : Fn) (first cap : Array Value) (w : World) : (Instr.makeFunc fn first cap).run Tryz.prog w = .ok (.func fn first cap) w := rfl
/-- A block stays while old blocks do; its cells. -/
theorem hkeep {W W' : World} {k : Nat} {o : Obj} (h : W.heap[k]? = some o) (b : Below W.heap.size W W') : W'.heap[k]? = some o := by
  rw [b.block k (Array.getElem?_eq_some_iff.1 h).1]
  exact h
theorem halloc {w : World} {o : Obj} {k : Nat} {x : Obj} (h : w.heap[k]? = some x) : (w.alloc o).heap[k]? = some x := by
  rw [Lib.alloc_old w o k (Array.getElem?_eq_some_iff.1 h).1]
  exact h
theorem cells1 {W : World} {k : Nat} {T : TypeId} {x : Value} (h : W.heap[k]? = some (.cells #[x] T (0, 0))) : W.cell? ⟨k, 0, none⟩ = some x ∧ W.frozen? ⟨k, 0, none⟩ = false := ⟨by rw [Lib.cell_of_heap h]; rfl, Lib.frozen_of_heap h 0⟩
theorem cells3 {W : World} {k : Nat} {T : TypeId} {x y z : Value} (h : W.heap[k]? = some (.cells #[x, y, z] T (0, 0))) : W.cell? ⟨k, 0, none⟩ = some x ∧ W.cell? ⟨k, 1, none⟩ = some y ∧ W.cell? ⟨k, 2, none⟩ = some z :=
  ⟨by rw [Lib.cell_of_heap h]; rfl, by rw [Lib.cell_of_heap h]; rfl, by rw [Lib.cell_of_heap h]; rfl⟩
theorem frozen3 {W : World} {k : Nat} {T : TypeId} {cs : Array Value} (h : W.heap[k]? = some (.cells cs T (0, 0))) : W.frozen? ⟨k, 0, none⟩ = false ∧ W.frozen? ⟨k, 1, none⟩ = false ∧ W.frozen? ⟨k, 2, none⟩ = false :=
  ⟨Lib.frozen_of_heap h 0, Lib.frozen_of_heap h 1, Lib.frozen_of_heap h 2⟩
theorem cells5 {W : World} {k : Nat} {T : TypeId} {x y z u v : Value} (h : W.heap[k]? = some (.cells #[x, y, z, u, v] T (0, 0))) :
    W.cell? ⟨k, 0, none⟩ = some x ∧ W.cell? ⟨k, 1, none⟩ = some y ∧ W.cell? ⟨k, 2, none⟩ = some z ∧ W.cell? ⟨k, 3, none⟩ = some u ∧ W.cell? ⟨k, 4, none⟩ = some v :=
  ⟨by rw [Lib.cell_of_heap h]; rfl, by rw [Lib.cell_of_heap h]; rfl, by rw [Lib.cell_of_heap h]; rfl, by rw [Lib.cell_of_heap h]; rfl, by rw [Lib.cell_of_heap h]; rfl⟩
theorem frozen5 {W : World} {k : Nat} {T : TypeId} {cs : Array Value} (h : W.heap[k]? = some (.cells cs T (0, 0))) :
    W.frozen? ⟨k, 0, none⟩ = false ∧ W.frozen? ⟨k, 1, none⟩ = false ∧ W.frozen? ⟨k, 2, none⟩ = false ∧ W.frozen? ⟨k, 3, none⟩ = false ∧ W.frozen? ⟨k, 4, none⟩ = false :=
  ⟨Lib.frozen_of_heap h 0, Lib.frozen_of_heap h 1, Lib.frozen_of_heap h 2, Lib.frozen_of_heap h 3, Lib.frozen_of_heap h 4⟩
/-- An own row stays while cells of elder blocks are written. -/
theorem own_old {α : Type} {Y : Lay α} {W : World} {base : Nat} {v : Value} {l : List α} (h : OwnL Y W base v l) {k o : Nat} (hk : k < base) (x : Value) : OwnL Y (W.setCell ⟨k, o, none⟩ x) base v l := by
  refine ⟨h.1, ?_⟩
  rcases h.2 with h0 | ⟨g, cap, cur, h1, hb, hg, h2⟩
  · exact .inl h0
  · exact .inr ⟨g, cap, cur, h1, hb, by rw [heap_setCell_other _ _ _ _ (by show g ≠ k; omega)]; exact hg, h2⟩
/-- Two new blocks, one behind the other. -/
theorem boxes2 (w : World) (A B : Array Value) (T U : TypeId) : ((w.alloc (.cells A T)).alloc (.cells B U)).heap[w.heap.size]? = some (.cells A T (0, 0)) ∧ ((w.alloc (.cells A T)).alloc (.cells B U)).heap[w.heap.size + 1]? = some (.cells B U (0, 0)) ∧
    Below w.heap.size w ((w.alloc (.cells A T)).alloc (.cells B U)) ∧ ((w.alloc (.cells A T)).alloc (.cells B U)).heap.size = w.heap.size + 2 := by
  refine ⟨halloc (heap_alloc_new w _), ?_, ((Below.refl _ _).alloc (Nat.le_refl _) _).alloc (by simp) _, by simp⟩
  have := heap_alloc_new (w.alloc (.cells A T)) (.cells B U)
  rwa [show (w.alloc (.cells A T)).heap.size = w.heap.size + 1 from by simp] at this
theorem boxes3 (w : World) (A B C : Array Value) (T U V : TypeId) : (((w.alloc (.cells A T)).alloc (.cells B U)).alloc (.cells C V)).heap[w.heap.size]? = some (.cells A T (0, 0)) ∧ (((w.alloc (.cells A T)).alloc (.cells B U)).alloc (.cells C V)).heap[w.heap.size + 1]? = some (.cells B U (0, 0)) ∧
    (((w.alloc (.cells A T)).alloc (.cells B U)).alloc (.cells C V)).heap[w.heap.size + 1 + 1]? = some (.cells C V (0, 0)) ∧
    Below w.heap.size w (((w.alloc (.cells A T)).alloc (.cells B U)).alloc (.cells C V)) ∧ (((w.alloc (.cells A T)).alloc (.cells B U)).alloc (.cells C V)).heap.size = w.heap.size + 3 := by
  obtain ⟨h0, h1, hb, hs⟩ := boxes2 w A B T U
  refine ⟨halloc h0, halloc h1, ?_, hb.alloc hb.size _, by simp⟩
  have := heap_alloc_new ((w.alloc (.cells A T)).alloc (.cells B U)) (.cells C V)
  rwa [hs] at this
theorem boxes4 (w : World) (A B C D : Array Value) (T U V X : TypeId) : ((((w.alloc (.cells A T)).alloc (.cells B U)).alloc (.cells C V)).alloc (.cells D X)).heap[w.heap.size]? = some (.cells A T (0, 0)) ∧ ((((w.alloc (.cells A T)).alloc (.cells B U)).alloc (.cells C V)).alloc (.cells D X)).heap[w.heap.size + 1]? = some (.cells B U (0, 0)) ∧
    ((((w.alloc (.cells A T)).alloc (.cells B U)).alloc (.cells C V)).alloc (.cells D X)).heap[w.heap.size + 1 + 1]? = some (.cells C V (0, 0)) ∧ ((((w.alloc (.cells A T)).alloc (.cells B U)).alloc (.cells C V)).alloc (.cells D X)).heap[w.heap.size + 1 + 1 + 1]? = some (.cells D X (0, 0)) ∧
    Below w.heap.size w ((((w.alloc (.cells A T)).alloc (.cells B U)).alloc (.cells C V)).alloc (.cells D X)) ∧ ((((w.alloc (.cells A T)).alloc (.cells B U)).alloc (.cells C V)).alloc (.cells D X)).heap.size = w.heap.size + 4 := by
  obtain ⟨h0, h1, h2, hb, hs⟩ := boxes3 w A B C T U V
  refine ⟨halloc h0, halloc h1, halloc h2, ?_, hb.alloc hb.size _, by simp⟩
  have := heap_alloc_new (((w.alloc (.cells A T)).alloc (.cells B U)).alloc (.cells C V)) (.cells D X)
  rwa [hs] at this
/-- Three cells of a block. -/
def set3 (W : World) (k : Nat) (x y z : Value) : World := ((W.setCell ⟨k, 0, none⟩ x).setCell ⟨k, 1, none⟩ y).setCell ⟨k, 2, none⟩ z
theorem heap_set3 {W : World} {k : Nat} {T : TypeId} {a b c : Value} (h : W.heap[k]? = some (.cells #[a, b, c] T (0, 0))) (x y z : Value) : (set3 W k x y z).heap[k]? = some (.cells #[x, y, z] T (0, 0)) :=
  heap_setCell_same _ _ 2 _ _ z (heap_setCell_same _ _ 1 _ _ y (heap_setCell_same _ _ 0 _ _ x h))
theorem bel_st3 {base k : Nat} {w W : World} (h : Below base w W) (hk : base ≤ k) (x y z : Value) : Below base w (set3 W k x y z) :=
  ((h.setCell (p := ⟨k, 0, none⟩) hk x).setCell (p := ⟨k, 1, none⟩) hk y).setCell (p := ⟨k, 2, none⟩) hk z
/-- Five cells of a block. -/
def set5 (W : World) (k : Nat) (x y z u v : Value) : World := ((((W.setCell ⟨k, 0, none⟩ x).setCell ⟨k, 1, none⟩ y).setCell ⟨k, 2, none⟩ z).setCell ⟨k, 3, none⟩ u).setCell ⟨k, 4, none⟩ v
theorem bel_set5 {base k : Nat} {w W : World} (h : Below base w W) (hk : base ≤ k) (x y z u v : Value) : Below base w (set5 W k x y z u v) :=
  ((((h.setCell (p := ⟨k, 0, none⟩) hk x).setCell (p := ⟨k, 1, none⟩) hk y).setCell (p := ⟨k, 2, none⟩) hk z).setCell (p := ⟨k, 3, none⟩) hk u).setCell (p := ⟨k, 4, none⟩) hk v
theorem own_set5 {α : Type} {Y : Lay α} {W : World} {base : Nat} {v : Value} {l : List α} (h : OwnL Y W base v l) {k : Nat} (hk : k < base) (x y z u t : Value) : OwnL Y (set5 W k x y z u t) base v l :=
  own_old (own_old (own_old (own_old (own_old h hk _) hk _) hk _) hk _) hk _

/-- A change whose disk is laid in a block of this call's own. -/
theorem res_set5 {w w0 w1 : World} {fv v : Value} {l0 : List Fl} {R : Dk} (h : DkRes w0 fv l0 R v w1) (hb : Below w.heap.size w w0) {k : Nat} (h1 : w.heap.size ≤ k) (h2 : k < w0.heap.size) (x y z u t : Value) : DkRes w fv l0 R v (set5 w1 k x y z u t) := by
  refine ⟨?_, h.b, h.f, h.n, bel_set5 (hb.trans (h.w.mono hb.size)) h1 _ _ _ _ _⟩
  rcases h.k with k0 | k0
  · exact .inl k0
  · exact .inr (own_base (own_set5 k0 h2 _ _ _ _ _) hb.size)

set_option maxRecDepth 100000 in
set_option maxHeartbeats 3200000 in
theorem change_any (N : Nat) (caps : Array Value) (fv : Value) (D : Dk) (l : List Fl) (own : Int) (w : World) (hv : IsL FL w fv D.f) (hD : DkB D) (h0 : 0 ≤ D.l) (hl : D.f.length ≤ 1000000000)
    (hr : own = 0 → l.length ≤ 1000000001 ∧ ∀ f ∈ l, FlB f)
    (EN : ∀ args w, (callFunc N args).run Tryz.prog w = .ok (.enter N args) w)
    (C : ∀ base v W, OwnL FL W base v D.f → w.heap.size ≤ base → base ≤ W.heap.size → Below w.heap.size w W → Calls Tryz.prog N (#[v] ++ caps) W (StepOut W base l own)) :
    Calls Tryz.prog 112 #[.agg #[fv, .int .i64 D.c, .bool D.a, .int .i64 D.l, .bool D.x], .func (.func N) #[] caps] w (DkOut w fv D.f (change D l own)) := by
  obtain ⟨fa, fn, fc, rfl⟩ : ∃ a n c, fv = .slice a n c := by obtain ⟨a, c, h, _⟩ := hv; exact ⟨a, _, c, h⟩
  have HC := Lib.hid C
  have HE := Lib.hid EN
  have K := Lib.hid (fun (W : World) (h : IsL FL W (.slice fa fn fc) D.f) => clone_any (.slice fa fn fc) D.f W h (by omega))
  have HV := Lib.hid hv
  have HK := Lib.hid (show (∀ f ∈ D.f, FlB f) ∧ D.f.length ≤ 1000000001 from ⟨hv.ok, by omega⟩)
  have HR := Lib.hid hr
  obtain ⟨⟨hc1, hc2⟩, hl1, hl2⟩ := hD
  clear C hv hr hl EN
  obtain ⟨f, c, a, d, x⟩ := D
  dsimp only at *
  have key : Hid (x = true ∧ change ⟨f, c, a, d, x⟩ l own = (⟨f, c, a, d, true⟩, 10)) ∨ Hid (x = false ∧ own ≠ 0 ∧ change ⟨f, c, a, d, x⟩ l own = (⟨f, c, a, d, false⟩, own)) ∨ Hid (x = false ∧ own = 0 ∧ a = true ∧ d = 0 ∧ change ⟨f, c, a, d, x⟩ l own = (⟨f, c, true, 0, true⟩, 10)) ∨
      Hid (x = false ∧ own = 0 ∧ a = true ∧ d ≠ 0 ∧ change ⟨f, c, a, d, x⟩ l own = (⟨l, c, true, d - 1, false⟩, 0)) ∨ Hid (x = false ∧ own = 0 ∧ a = false ∧ change ⟨f, c, a, d, x⟩ l own = (⟨l, c, false, d, false⟩, 0)) := by
    rcases change_cases ⟨f, c, a, d, x⟩ l own with ⟨e, h1⟩ | ⟨e, h1, h2⟩ | ⟨e, h1, h2, h3, h4⟩ | ⟨e, h1, h2, h3, h4⟩ | ⟨e, h1, h2, h3⟩
    · exact .inl ⟨h1, by rw [e]; simp_all⟩
    · exact .inr (.inl ⟨h2, h1, by rw [e]; simp_all⟩)
    · exact .inr (.inr (.inl ⟨h2, h1, h3, h4, by rw [e]; simp_all⟩))
    · exact .inr (.inr (.inr (.inl ⟨h2, h1, h3, h4, by rw [e]; simp_all⟩)))
    · exact .inr (.inr (.inr (.inr ⟨h2, h1, h3, by rw [e]; simp_all⟩)))
  generalize change ⟨f, c, a, d, x⟩ l own = R at *
  rcases key with key | key
  · obtain ⟨rfl, e⟩ := key.out
    rw [e]
    clear key e HC K
    go_enter Tryz.func112, Tryz.ntmps112
    go_wp2_with fail
    refine bodyPost_ret (v := .tuple #[.agg #[.slice fa fn fc, .int .i64 c, .bool a, .int .i64 d, .bool true], .int .i64 10]) (by simp [results, Tryz.results112, go_sem]) rfl ?_
    have b := ((Below.refl w.heap.size w).alloc (Nat.le_refl _) (.cells #[.slice fa fn fc, .int .i64 c, .bool a, .int .i64 d, .bool true] 27)).alloc (by simp) (.cells #[.slice fa fn fc, .int .i64 c, .bool a, .int .i64 d, .bool true] 27)
    exact ⟨_, rfl, .inl ⟨rfl, rfl⟩, ⟨⟨hc1, hc2⟩, hl1, hl2⟩, HK.out.1, HK.out.2, b⟩
  · have hx : x = false := by rcases key with k | k | k | k <;> exact k.out.1
    subst hx
    go_enter Tryz.func112, Tryz.ntmps112
    go_wp2_with fail
    have B0 := Lib.hid (((Below.refl w.heap.size w).alloc (Nat.le_refl _) (.cells #[.slice fa fn fc, .int .i64 c, .bool a, .int .i64 d, .bool false] 27)).alloc (by simp) (.cells #[.slice none 0 0, .int .i64 0, .bool false, .int .i64 0, .bool false] 27))
    have P0 := Lib.hid (halloc (o := .cells #[.slice none 0 0, .int .i64 0, .bool false, .int .i64 0, .bool false] 27) (heap_alloc_new w (.cells #[.slice fa fn fc, .int .i64 c, .bool a, .int .i64 d, .bool false] 27)))
    have Q0 := Lib.hid (heap_alloc_new (w.alloc (.cells #[.slice fa fn fc, .int .i64 c, .bool a, .int .i64 d, .bool false] 27)) (.cells #[.slice none 0 0, .int .i64 0, .bool false, .int .i64 0, .bool false] 27))
    have hs0 : ((w.alloc (.cells #[.slice fa fn fc, .int .i64 c, .bool a, .int .i64 d, .bool false] 27)).alloc (.cells #[.slice none 0 0, .int .i64 0, .bool false, .int .i64 0, .bool false] 27)).heap.size = w.heap.size + 2 := by simp
    have hs1 : (w.alloc (.cells #[.slice fa fn fc, .int .i64 c, .bool a, .int .i64 d, .bool false] 27)).heap.size = w.heap.size + 1 := by simp
    rw [hs1] at Q0
    generalize (w.alloc _).alloc _ = w0 at B0 P0 Q0 hs0 ⊢
    refine (K.out w0 (HV.out.keep B0.out)).mono ?_
    rintro e w1 ⟨v1, rfl, ho1, b1⟩
    have P1 := Lib.hid (hkeep P0.out b1)
    have Q1 := Lib.hid (hkeep Q0.out b1)
    have B1 := Lib.hid (B0.out.trans (b1.mono (by omega)))
    have hz1 := b1.size
    rw [hs0] at ho1 hz1
    have HO := Lib.hid ho1
    clear ho1 b1
    go_wp2_with fail
    rw [HE.out, Oper.upon_enter]
    refine (HC.out (w.heap.size + 2) v1 w1 HO.out (by omega) hz1 B1.out).mono ?_
    rintro e w2 ⟨ga, gn, gc, rfl, ho2, b2⟩
    have P2 := Lib.hid ((b2.block w.heap.size (by omega)).trans P1.out)
    have Q2 := Lib.hid ((b2.block (w.heap.size + 1) (by omega)).trans Q1.out)
    have B2 := Lib.hid (B1.out.trans (b2.mono (by omega)))
    have HO2 := Lib.hid ho2
    obtain ⟨p0, p1, p2, p3, p4⟩ := cells5 P2.out
    obtain ⟨pf0, pf1, pf2, pf3, pf4⟩ := frozen5 P2.out
    obtain ⟨q0, q1, q2, q3, q4⟩ := cells5 Q2.out
    obtain ⟨qf0, qf1, qf2, qf3, qf4⟩ := frozen5 Q2.out
    clear ho2 b2 P0 Q0 P1 Q1 B0 B1 HO hs0 hs1 hz1 HC K
    rcases key with key | key | key | key
    · obtain ⟨_, hne, e⟩ := key.out
      have E := Lib.hid e
      clear key e
      go_wp2_with fail
      refine bodyPost_ret (v := .tuple #[.agg #[.slice fa fn fc, .int .i64 c, .bool a, .int .i64 d, .bool false], .int .i64 own]) (by simp [results, Tryz.results112, go_sem, q0, q1, q2, q3, q4]) rfl ?_
      rw [E.out]
      have b := bel_set5 B2.out (k := w.heap.size + 1) (by omega) (.slice fa fn fc) (.int .i64 c) (.bool a) (.int .i64 d) (.bool false)
      exact ⟨_, rfl, .inl ⟨rfl, rfl⟩, ⟨⟨hc1, hc2⟩, hl1, hl2⟩, HK.out.1, HK.out.2, b⟩
    · obtain ⟨_, rfl, rfl, rfl, e⟩ := key.out
      have E := Lib.hid e
      clear key e
      go_wp2_with fail
      refine bodyPost_ret (v := .tuple #[.agg #[.slice fa fn fc, .int .i64 c, .bool true, .int .i64 0, .bool true], .int .i64 10]) (by simp [results, Tryz.results112, go_sem, q0, q1, q2, q3, q4]) rfl ?_
      rw [E.out]
      have b := bel_set5 (B2.out.setCell (p := ⟨w.heap.size, 4, none⟩) (Nat.le_refl _) (.bool true)) (k := w.heap.size + 1) (by omega) (.slice fa fn fc) (.int .i64 c) (.bool true) (.int .i64 0) (.bool true)
      exact ⟨_, rfl, .inl ⟨rfl, rfl⟩, ⟨⟨hc1, hc2⟩, hl1, hl2⟩, HK.out.1, HK.out.2, b⟩
    · obtain ⟨_, rfl, rfl, hne, e⟩ := key.out
      have HO3 := Lib.hid (HO2.out rfl)
      have HR3 := Lib.hid (HR.out rfl)
      clear HO2 HR
      have E := Lib.hid e
      clear key e
      have hd0 : ¬ (d = 0) := hne
      go_wp2_with fail
      refine bodyPost_ret (v := .tuple #[.agg #[.slice ga gn gc, .int .i64 c, .bool true, .int .i64 (d - 1), .bool false], .int .i64 0]) (by simp [results, Tryz.results112, go_sem, q0, q1, q2, q3, q4]) rfl ?_
      rw [E.out]
      have b := bel_set5 ((B2.out.setCell (p := ⟨w.heap.size, 3, none⟩) (Nat.le_refl _) (.int .i64 (d - 1))).setCell (p := ⟨w.heap.size, 0, none⟩) (Nat.le_refl _) (.slice ga gn gc)) (k := w.heap.size + 1) (by omega) (.slice ga gn gc) (.int .i64 c) (.bool true) (.int .i64 (d - 1)) (.bool false)
      have o := own_set5 (own_old (own_old HO3.out (k := w.heap.size) (o := 3) (by omega) (.int .i64 (d - 1))) (k := w.heap.size) (o := 0) (by omega) (.slice ga gn gc)) (k := w.heap.size + 1) (by omega) (.slice ga gn gc) (.int .i64 c) (.bool true) (.int .i64 (d - 1)) (.bool false)
      exact ⟨_, rfl, .inr (own_base o (Nat.le_add_right _ _)), ⟨⟨hc1, hc2⟩, by show _ ≤ d - 1; omega, by show d - 1 ≤ _; omega⟩, HR3.out.2, HR3.out.1, b⟩
    · obtain ⟨_, rfl, rfl, e⟩ := key.out
      have HO3 := Lib.hid (HO2.out rfl)
      have HR3 := Lib.hid (HR.out rfl)
      clear HO2 HR
      have E := Lib.hid e
      clear key e
      go_wp2_with fail
      refine bodyPost_ret (v := .tuple #[.agg #[.slice ga gn gc, .int .i64 c, .bool false, .int .i64 d, .bool false], .int .i64 0]) (by simp [results, Tryz.results112, go_sem, q0, q1, q2, q3, q4]) rfl ?_
      rw [E.out]
      have b := bel_set5 (B2.out.setCell (p := ⟨w.heap.size, 0, none⟩) (Nat.le_refl _) (.slice ga gn gc)) (k := w.heap.size + 1) (by omega) (.slice ga gn gc) (.int .i64 c) (.bool false) (.int .i64 d) (.bool false)
      have o := own_set5 (own_old HO3.out (k := w.heap.size) (o := 0) (by omega) (.slice ga gn gc)) (k := w.heap.size + 1) (by omega) (.slice ga gn gc) (.int .i64 c) (.bool false) (.int .i64 d) (.bool false)
      exact ⟨_, rfl, .inr (own_base o (Nat.le_add_right _ _)), ⟨⟨hc1, hc2⟩, hl1, hl2⟩, HR3.out.2, HR3.out.1, b⟩

end Go.Proofs.YthhhocgpoenigaaGreat.Dsk

namespace Go.Proofs.YthhhocgpoenigaaGreat.Dp

/-- The own errors of an act, and what it would make of the files: the acts 0 to 5 are changes. -/
theorem act_change {D : Dk} {a : Act} (h0 : 0 ≤ a.k) (h5 : a.k ≤ 5) : ∃ l own, act D a = change D l own ∧ (own = 0 ∨ own = 1 ∨ own = 6 ∨ own = 7 ∨ own = 8 ∨ own = 9) := by
  unfold act
  split
  · unfold create
    split
    · exact ⟨_, _, rfl, by simp⟩
    · split
      · exact ⟨_, _, rfl, by simp⟩
      · exact ⟨_, _, rfl, by simp⟩
  split
  · unfold append
    split
    · exact ⟨_, _, rfl, by simp⟩
    · split
      · exact ⟨_, _, rfl, by simp⟩
      · exact ⟨_, _, rfl, by simp⟩
  split
  · unfold sync
    split
    · exact ⟨_, _, rfl, by simp⟩
    · exact ⟨_, _, rfl, by simp⟩
  split
  · unfold cut
    split
    · exact ⟨_, _, rfl, by simp⟩
    · split
      · exact ⟨_, _, rfl, by simp⟩
      · exact ⟨_, _, rfl, by simp⟩
  split
  · unfold rename
    split
    · exact ⟨_, _, rfl, by simp⟩
    · split
      · exact ⟨_, _, rfl, by simp⟩
      · exact ⟨_, _, rfl, by simp⟩
  split
  · unfold delete
    split
    · exact ⟨_, _, rfl, by simp⟩
    · exact ⟨_, _, rfl, by simp⟩
  · omega

/-- What a fuse keeps: N changes at most, and no power only when all are done. -/
structure Fuse (N : Int) (D : Dk) (done : Int) : Prop where
  armed : D.a = true
  left : D.l = N - done
  ge : 0 ≤ D.l
  down : D.x = true → D.l = 0
theorem Fuse.start (N : Int) (h : 0 ≤ N) : Fuse N (arm empty N) 0 := ⟨decide_eq_true h, by show max N 0 = N - 0; omega, by show 0 ≤ max N 0; omega, fun h => by cases h⟩
theorem Fuse.step {N done : Int} {D : Dk} (h : Fuse N D done) {a : Act} (h0 : 0 ≤ a.k) (h5 : a.k ≤ 5) :
    ∃ e x, act D a = (x, e) ∧ ((e = 0 ∧ Fuse N x (done + 1) ∧ x.x = false) ∨ (e ≠ 0 ∧ Fuse N x done ∧ ((e = 10 ∧ x.x = true ∧ done = N) ∨ (e ≠ 10 ∧ x.x = false)))) := by
  obtain ⟨l, own, ha, ho⟩ := act_change (D := D) h0 h5
  rw [ha]
  rcases change_cases D l own with ⟨e, h1⟩ | ⟨e, h1, h2⟩ | ⟨e, h1, h2, h3, h4⟩ | ⟨e, h1, h2, h3, h4⟩ | ⟨e, h1, h2, h3⟩
  · exact ⟨10, D, e, .inr ⟨by decide, h, .inl ⟨rfl, h1, by have := h.left; have := h.down h1; omega⟩⟩⟩
  · exact ⟨own, D, e, .inr ⟨h1, h, .inr ⟨by omega, h2⟩⟩⟩
  · exact ⟨10, _, e, .inr ⟨by decide, ⟨h3, h.left, h.ge, fun _ => h4⟩, .inl ⟨rfl, rfl, by have := h.left; omega⟩⟩⟩
  · exact ⟨0, _, e, .inl ⟨rfl, ⟨h3, by have := h.left; show D.l - 1 = N - (done + 1); omega, by have := h.ge; show 0 ≤ D.l - 1; omega, fun hx => by rw [show ({ D with f := l, l := D.l - 1 } : Dk).x = D.x from rfl, h2] at hx; cases hx⟩, h2⟩⟩
  · exact absurd h3 (by rw [h.armed]; decide)

/-- How many bytes there are. -/
theorem used_append (a b : List Fl) : used (a ++ b) = used a + used b := by unfold used; simp
theorem used_cons (f : Fl) (l : List Fl) : used (f :: l) = f.d.size + used l := by unfold used; simp
theorem used_split (l : List Fl) (n : ByteArray) : used (l.filter fun g => decide (Lt g.n n)) + used (l.filter fun g => decide (Lt n g.n)) = used (without l n) := by
  induction l with
  | nil => rfl
  | cons g l ih =>
    unfold without at ih ⊢
    rcases lt_tri g.n n with h | h | h
    · rw [List.filter_cons_of_pos (by simpa using h), List.filter_cons_of_neg (by simpa using h.asymm), List.filter_cons_of_pos (by simpa using h.ne), used_cons, used_cons]
      omega
    · rw [List.filter_cons_of_neg (by rw [h]; simpa using Lt.irrefl n), List.filter_cons_of_neg (by rw [h]; simpa using Lt.irrefl n), List.filter_cons_of_neg (by simpa using h)]
      exact ih
    · rw [List.filter_cons_of_neg (by simpa using h.asymm), List.filter_cons_of_pos (by simpa using h), List.filter_cons_of_pos (by simpa using fun e : g.n = n => h.ne e.symm), used_cons, used_cons]
      omega
theorem used_withF (l : List Fl) (f : Fl) : used (withF l f) = f.d.size + used (without l f.n) := by
  unfold withF
  rw [used_append, used_append, used_cons, ← used_split l f.n]
  show used _ + (f.d.size + 0) + used _ = _
  omega
theorem used_without_le (l : List Fl) (n : ByteArray) : used (without l n) ≤ used l := by
  induction l with
  | nil => exact Nat.le_refl _
  | cons g l ih =>
    unfold without at ih ⊢
    by_cases h : g.n = n
    · rw [List.filter_cons_of_neg (by simpa using h), used_cons]; omega
    · rw [List.filter_cons_of_pos (by simpa using h), used_cons, used_cons]; omega
theorem used_without {l : List Fl} {n : ByteArray} {f : Fl} (h : get l n = some f) : f.d.size + used (without l n) ≤ used l := by
  induction l with
  | nil => cases h
  | cons g l ih =>
    unfold get at h ih
    unfold without at ih ⊢
    by_cases hg : g.n = n
    · rw [List.find?_cons_of_pos (by simpa using hg)] at h
      have e := Option.some.inj h
      subst e
      have := used_without_le l n
      unfold without at this
      rw [List.filter_cons_of_neg (by simpa using hg), used_cons]
      omega
    · rw [List.find?_cons_of_neg (by simpa using hg)] at h
      rw [List.filter_cons_of_pos (by simpa using hg), used_cons, used_cons]
      have := ih h
      omega
theorem left_size (f : Fl) (k : Int) : (left f k).d.size ≤ f.d.size := by
  show (f.d.extract 0 _).size ≤ _
  rw [ByteArray.size_extract]
  omega
theorem crashF_used : ∀ (l : List Fl) (k : List Int), used (crashF l k) ≤ used l
  | [], _ => Nat.le_refl _
  | f :: l, [] => by rw [crashF, used_cons, used_cons]; have := left_size f 0; have := crashF_used l []; omega
  | f :: l, k :: r => by rw [crashF, used_cons, used_cons]; have := left_size f k; have := crashF_used l r; omega

/-- What is sure of a file is at the beginning of another one. -/
def Keeps (f g : Fl) : Prop := g.n = f.n ∧ f.s ≤ (g.d.size : Int) ∧ g.d.data.toList.take f.s.toNat = f.d.data.toList.take f.s.toNat
theorem Keeps.refl {f : Fl} (h : FOk f) : Keeps f f := ⟨rfl, h.2.2, rfl⟩
theorem ext_take (s : ByteArray) (m : Nat) : (s.extract 0 m).data.toList = s.data.toList.take m := by simp

/-- A crash leaves what is sure, and of the rest the beginning; a second one leaves all. -/
theorem crashF_len : ∀ (l : List Fl) (k : List Int), (crashF l k).length = l.length
  | [], _ => rfl
  | f :: l, [] => by rw [crashF, List.length_cons, List.length_cons, crashF_len l []]
  | f :: l, k :: r => by rw [crashF, List.length_cons, List.length_cons, crashF_len l r]

end Go.Proofs.YthhhocgpoenigaaGreat.Dp
