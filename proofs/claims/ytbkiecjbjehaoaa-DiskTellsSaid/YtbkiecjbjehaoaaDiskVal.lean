/-
  Disks as values; what a change leaves; files of the call's own that are changed in place.
-/
import Derived.Test.YtbkiecjbjehaoaaDiskFind
import Derived.Test.YtbkiecjbjehaoaaDiskIns
namespace Go.Proofs.Ytbkiecjbjehaoaa.Dsk
open Go.RowKit Go.Proofs.Ytbkiecjbjehaoaa.Dp

/-- A disk as a value. -/
def dkVal (v : Value) (D : Dk) : Value := .agg #[v, .int .i64 D.c, .bool D.a, .int .i64 D.l, .bool D.x]
/-- May memory hold its numbers? -/
def DkB (D : Dk) : Prop := (-9223372036854775808 ≤ D.c ∧ D.c ≤ 9223372036854775807) ∧ (-9223372036854775808 ≤ D.l ∧ D.l ≤ 9223372036854775807)
/-- The value V is that disk. -/
def IsDk (w : World) (V : Value) (D : Dk) : Prop := ∃ v, V = dkVal v D ∧ IsL FL w v D.f ∧ DkB D
theorem IsDk.keep {w w' : World} {V : Value} {D : Dk} (h : IsDk w V D) (b : Below w.heap.size w w') : IsDk w' V D := by
  obtain ⟨v, h1, h2, h3⟩ := h
  exact ⟨v, h1, h2.keep b, h3⟩
theorem IsDk.below {w w' : World} {B : Nat} {V : Value} {D : Dk} (h : IsDk w V D) (b : Below B w w') (hB : w.heap.size ≤ B) : IsDk w' V D := by
  obtain ⟨v, h1, h2, h3⟩ := h
  exact ⟨v, h1, h2.below b hB, h3⟩
/-- A row of the call's own, from an elder block on. -/
theorem own_base {α : Type} {Y : Lay α} {w : World} {B B' : Nat} {v : Value} {l : List α} (h : OwnL Y w B v l) (hb : B' ≤ B) : OwnL Y w B' v l := by
  refine ⟨h.1, ?_⟩
  rcases h.2 with h0 | ⟨g, cap, cur, h1, h2, h3⟩
  · exact .inl h0
  · exact .inr ⟨g, cap, cur, h1, Nat.le_trans hb h2, h3⟩
/-- Files that were there, or new ones. -/
def KeptOr (w : World) (B : Nat) (fv : Value) (l0 : List Fl) (v : Value) (l : List Fl) : Prop := (v = fv ∧ l = l0) ∨ OwnL FL w B v l
/-- What a change answers: a disk and an error. -/
structure DkRes (w : World) (fv : Value) (l0 : List Fl) (R : Dk) (v : Value) (w' : World) : Prop where
  k : KeptOr w' w.heap.size fv l0 v R.f
  b : DkB R
  f : ∀ f ∈ R.f, FlB f
  n : R.f.length ≤ 1000000001
  w : Below w.heap.size w w'
def DkOut (w : World) (fv : Value) (l0 : List Fl) (R : Dk × Int) (e : Ending) (w' : World) : Prop := ∃ v, e = .returned (.tuple #[dkVal v R.1, .int .i64 R.2]) ∧ DkRes w fv l0 R.1 v w'
theorem DkRes.is {w w' : World} {fv v : Value} {l0 : List Fl} {R : Dk} (h : DkRes w fv l0 R v w') (hv : IsL FL w fv l0) : IsDk w' (dkVal v R) R := by
  refine ⟨v, rfl, ?_, h.b⟩
  rcases h.k with ⟨rfl, e⟩ | k
  · rw [e]; exact hv.keep h.w
  · exact k.is (by have := h.n; unfold maxLen; omega) h.f
/-- What a call answers that can't fail: a disk. -/
def DkOne (w : World) (D : Dk) (e : Ending) (w' : World) : Prop := ∃ V, e = .returned V ∧ IsDk w' V D ∧ Below w.heap.size w w'
/-- What a step of a change answers: files of the call's own, or an error. -/
def StepOut (w : World) (base : Nat) (l : List Fl) (own : Int) (e : Ending) (w' : World) : Prop := ∃ a n c, e = .returned (.tuple #[.slice a n c, .int .i64 own]) ∧ (own = 0 → OwnL FL w' base (.slice a n c) l) ∧ Below base w w'
theorem StepOut.no {w w' : World} {base : Nat} {l : List Fl} {own : Int} (a : Option Addr) (n c : Nat) (h : own ≠ 0) (b : Below base w w') : StepOut w base l own (.returned (.tuple #[.slice a n c, .int .i64 own])) w' := ⟨a, n, c, rfl, fun h' => absurd h' h, b⟩
theorem StepOut.yes {w w' : World} {base : Nat} {l : List Fl} {a : Option Addr} {n c : Nat} (h : OwnL FL w' base (.slice a n c) l) (b : Below base w w') : StepOut w base l 0 (.returned (.tuple #[.slice a n c, .int .i64 0])) w' := ⟨a, n, c, rfl, fun _ => h, b⟩
theorem own_slice {w : World} {base : Nat} {v : Value} {l : List Fl} (h : OwnL FL w base v l) : ∃ a n c, v = .slice a n c := by
  rcases h.2 with ⟨h0, _⟩ | ⟨g, cap, cur, h1, _⟩
  · exact ⟨_, _, _, h0⟩
  · exact ⟨_, _, _, h1⟩

/-- Cells in place of some within the first n. -/
theorem splice_mid {cur : Array Value} {o n : Nat} {vs : List Value} (h : o + vs.length ≤ n) (hn : n ≤ cur.size) :
    (splice cur o vs).toList.take n = (cur.toList.take n).take o ++ vs ++ (cur.toList.take n).drop (o + vs.length) := by
  unfold splice
  show (cur.toList.take o ++ vs ++ cur.toList.drop (o + vs.length)).take n = _
  have hl : (cur.toList.take o ++ vs).length = o + vs.length := by rw [List.length_append, List.length_take, Array.length_toList]; omega
  rw [List.take_append, List.take_of_length_le (by omega), hl, List.take_take, Nat.min_eq_left (by omega), List.drop_take]
theorem own_set {w : World} {base g cap i : Nat} {cur : Array Value} {l : List Fl} (f : Fl) (hb : base ≤ g) (hg : w.heap[g]? = some (.cells cur 43 (0, 0))) (hc : l.length ≤ cap) (hm : cap ≤ maxLen) (hs : cur.size = cap * 3) (ht : cur.toList.take (l.length * 3) = FL.vals l) (hi : i < l.length) :
    OwnL FL (((w.setCell ⟨g, i * 3, none⟩ (.string f.n)).setCell ⟨g, i * 3 + 1, none⟩ (.string f.d)).setCell ⟨g, i * 3 + 2, none⟩ (.int .i64 f.s)) base (.slice (some ⟨g, 0, none⟩) l.length cap) (l.take i ++ [f] ++ l.drop (i + 1)) := by
  have h3 : (flCells f).length = 3 := rfl
  have e1 : (l.take i ++ [f] ++ l.drop (i + 1)).length = l.length := by simp; omega
  have hs1 := splice_size (cur := cur) (o := i * 3) (vs := flCells f) (by omega)
  have hg1 := setCells_heap (o := i * 3) (vs := flCells f) hg (by omega)
  have := own_mk (base := base) (l := l.take i ++ [f] ++ l.drop (i + 1)) hb hg1 (by omega) hm (by omega) (by
    rw [e1, splice_mid (by omega) (by omega), ht, h3, show i * 3 + 3 = (i + 1) * 3 from by omega, vals_take, vals_drop, FL.vals_append, FL.vals_append, FL.vals_one]; rfl)
  rw [e1] at this
  exact this
theorem bel_set3 {base g : Nat} {w : World} (hb : base ≤ g) (o : Nat) (x y z : Value) : Below base w (((w.setCell ⟨g, o, none⟩ x).setCell ⟨g, o + 1, none⟩ y).setCell ⟨g, o + 2, none⟩ z) := bel_setCells hb [x, y, z] o w

set_option maxRecDepth 100000 in
set_option maxHeartbeats 1600000 in
/-- disk's put. -/
theorem put_any (l : List Fl) (base : Nat) (v : Value) (f : Fl) (w : World) (ho : OwnL FL w base v l) (hbw : base ≤ w.heap.size) (hu : Up l) (hl : l.length ≤ 1000000000) (hb : ∀ x ∈ l, FlB x) :
    Calls Try.prog 52 #[v, .agg #[.string f.n, .string f.d, .int .i64 f.s]] w (OutL FL w base (withF l f)) := by
  have F := Lib.hid fun (W : World) (h : OwnL FL W base v l) => find_any v l f.n W hu (by omega) (h.is (by unfold maxLen; omega) hb)
  have HH := Lib.hid fun i (h : FoundF l f.n i true) => h.with_hit hu (f := f) rfl
  have HM := Lib.hid fun i (h : FoundF l f.n i false) => h.with_miss hu (f := f) rfl
  have HO := Lib.hid (ho.alloc (.cells #[.string f.n, .string f.d, .int .i64 f.s] 43))
  have B0 := Lib.hid ((Below.refl _ w).alloc hbw (.cells #[.string f.n, .string f.d, .int .i64 f.s] 43))
  have HN := Lib.hid (box_new w (.string f.n) (.string f.d) (.int .i64 f.s) 43)
  have HB := Lib.hid hbw
  clear ho hu hb hbw
  go_enter Try.func52, Try.ntmps52
  go_wp2_with fail
  refine (F.out _ HO.out).mono ?_
  rintro e w1 ⟨i, b, rfl, hf, b1⟩
  obtain ⟨z0, z1, z2, _⟩ := box_keep HN.out b1
  have HO1 := Lib.hid (HO.out.keep b1)
  have B1 := Lib.hid (B0.out.trans (b1.mono (by have := B0.out.size; have := HB.out; omega)))
  clear b1
  rcases b with _ | _
  · have hi := hf.le
    have HF := Lib.hid (HM.out i hf)
    clear hf
    go_wp2_with fail
    have hbw1 := Nat.le_trans HB.out (Nat.le_trans (by simp) (Nat.le_trans (Nat.le_refl _) B1.out.size))
    refine (ins_any l base i v f w1.heap.size _ (HO1.out.alloc _) hi hl (Nat.le_trans hbw1 (by simp)) (heap_alloc_new w1 _) (fun e => absurd (HO1.out.lt _ e).2 (Nat.lt_irrefl _))).mono ?_
    rintro e w2 ⟨v2, rfl, ho2, b2⟩
    have HG := Lib.hid (show OutL FL w base (withF l f) (.returned v2) w2 by rw [HF.out]; exact OutL.mk ho2 ((B1.out.alloc hbw1 _).trans b2))
    clear ho2 b2
    go_wp2_with fail
    go_ret
    exact HG.out
  · obtain ⟨hi, hx⟩ := hf.hit rfl
    clear hx
    have HF := Lib.hid (HH.out i hf)
    clear hf
    obtain ⟨g, cap, cur, rfl, hb, hg, hc, hm, hs, ht⟩ := own_open HO1.out (by omega)
    have HS := Lib.hid (own_set f hb hg hc hm hs ht hi)
    have HG := Lib.hid (show OutL FL w base (withF l f) (.returned (.slice (some ⟨g, 0, none⟩) l.length cap)) _ by rw [HF.out]; exact OutL.mk HS.out (B1.out.trans (bel_set3 hb _ _ _ _)))
    obtain ⟨y0, hy0⟩ := Option.isSome_iff_exists.1 (row_some hg (i * 3) (by omega)).1
    obtain ⟨y1, hy1⟩ := Option.isSome_iff_exists.1 (row_some hg (i * 3 + 1) (by omega)).1
    obtain ⟨y2, hy2⟩ := Option.isSome_iff_exists.1 (row_some hg (i * 3 + 2) (by omega)).1
    have hf0 := (row_some hg (i * 3) (by omega)).2
    have hf1 := (row_some hg (i * 3 + 1) (by omega)).2
    have hf2 := (row_some hg (i * 3 + 2) (by omega)).2
    clear hg hs ht HS hb
    generalize l.length = len at *
    go_wp2_with fail
    go_ret
    exact HG.out

end Go.Proofs.Ytbkiecjbjehaoaa.Dsk
