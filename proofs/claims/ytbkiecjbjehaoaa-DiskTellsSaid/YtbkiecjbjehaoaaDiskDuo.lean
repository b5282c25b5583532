/-
  The program's disk and the document's in two variables, and what acts make of them in two more.
-/
import Derived.Test.YtbkiecjbjehaoaaDiskTwo
import Derived.Test.YtbkiecjbjehaoaaDiskWant
import Derived.Test.YtbkiecjbjehaoaaDiskRight
namespace Go.Proofs.Ytbkiecjbjehaoaa.Dsk
open Go.RowKit Go.Proofs.Ytbkiecjbjehaoaa.Dp

/-- The same disk in two variables. -/
structure Duo (base b1 b2 : Nat) (v1 v2 : Value) (D : Dk) (W : World) : Prop where
  a : W.heap[b1]? = some (.cells #[v1, .int .i64 D.c, .bool D.a, .int .i64 D.l, .bool D.x] 24 (0, 0))
  b : W.heap[b2]? = some (.cells #[v2, .int .i64 D.c, .bool D.a, .int .i64 D.l, .bool D.x] 24 (0, 0))
  h11 : Held W base b1 v1 D.f
  h12 : Held W base b2 v1 D.f
  h21 : Held W base b1 v2 D.f
  h22 : Held W base b2 v2 D.f
  ne : b1 ≠ b2
theorem Duo.keep {base b1 b2 : Nat} {v1 v2 : Value} {D : Dk} {W W' : World} (h : Duo base b1 b2 v1 v2 D W) (bel : Below W.heap.size W W') : Duo base b1 b2 v1 v2 D W' :=
  ⟨hkeep h.a bel, hkeep h.b bel, h.h11.keep bel, h.h12.keep bel, h.h21.keep bel, h.h22.keep bel, h.ne⟩
theorem Duo.lt1 {base b1 b2 : Nat} {v1 v2 : Value} {D : Dk} {W : World} (h : Duo base b1 b2 v1 v2 D W) : b1 < W.heap.size := (Array.getElem?_eq_some_iff.1 h.a).1
theorem Duo.lt2 {base b1 b2 : Nat} {v1 v2 : Value} {D : Dk} {W : World} (h : Duo base b1 b2 v1 v2 D W) : b2 < W.heap.size := (Array.getElem?_eq_some_iff.1 h.b).1
/-- What an act made, in a variable of its own. -/
structure One (base b1 b2 t : Nat) (v : Value) (D : Dk) (W : World) : Prop where
  h : W.heap[t]? = some (.cells #[v, .int .i64 D.c, .bool D.a, .int .i64 D.l, .bool D.x] 24 (0, 0))
  k1 : Held W base b1 v D.f
  k2 : Held W base b2 v D.f
  n1 : b1 ≠ t
  n2 : b2 ≠ t
theorem One.keep {base b1 b2 t : Nat} {v : Value} {D : Dk} {W W' : World} (h : One base b1 b2 t v D W) (bel : Below W.heap.size W W') : One base b1 b2 t v D W' :=
  ⟨hkeep h.h bel, h.k1.keep bel, h.k2.keep bel, h.n1, h.n2⟩
theorem One.lt {base b1 b2 t : Nat} {v : Value} {D : Dk} {W : World} (h : One base b1 b2 t v D W) : t < W.heap.size := (Array.getElem?_eq_some_iff.1 h.h).1
/-- The cells of another block stand where five cells of one are set. -/
theorem heap_other5 {W : World} {k j : Nat} (h : j ≠ k) (x y z u t : Value) : (Dsk.set5 W k x y z u t).heap[j]? = W.heap[j]? := by
  unfold Dsk.set5
  rw [heap_setCell_other _ _ _ _ h, heap_setCell_other _ _ _ _ h, heap_setCell_other _ _ _ _ h, heap_setCell_other _ _ _ _ h, heap_setCell_other _ _ _ _ h]
theorem Held.set5o {W : World} {base b t : Nat} {v : Value} {l : List Fl} (h : Held W base b v l) (ht : v.ownBlock ≠ some t) (x1 x2 x3 x4 x5 : Value) : Held (Dsk.set5 W t x1 x2 x3 x4 x5) base b v l :=
  ⟨own_other (own_other (own_other (own_other (own_other h.1 ht _) ht _) ht _) ht _) ht _, h.2⟩
theorem Duo.set5 {base b1 b2 t : Nat} {v1 v2 : Value} {D : Dk} {W : World} (h : Duo base b1 b2 v1 v2 D W) (n1 : b1 ≠ t) (n2 : b2 ≠ t) (o1 : v1.ownBlock ≠ some t) (o2 : v2.ownBlock ≠ some t) (x1 x2 x3 x4 x5 : Value) : Duo base b1 b2 v1 v2 D (Dsk.set5 W t x1 x2 x3 x4 x5) :=
  ⟨(heap_other5 n1 _ _ _ _ _).trans h.a, (heap_other5 n2 _ _ _ _ _).trans h.b, h.h11.set5o o1 _ _ _ _ _, h.h12.set5o o1 _ _ _ _ _, h.h21.set5o o2 _ _ _ _ _, h.h22.set5o o2 _ _ _ _ _, h.ne⟩
theorem One.set5 {base b1 b2 t s : Nat} {v : Value} {D : Dk} {W : World} (h : One base b1 b2 s v D W) (n : s ≠ t) (o : v.ownBlock ≠ some t) (x1 x2 x3 x4 x5 : Value) : One base b1 b2 s v D (Dsk.set5 W t x1 x2 x3 x4 x5) :=
  ⟨(heap_other5 n _ _ _ _ _).trans h.h, h.k1.set5o o _ _ _ _ _, h.k2.set5o o _ _ _ _ _, h.n1, h.n2⟩
theorem OwnL.new {W : World} {base : Nat} {v : Value} {l : List Fl} (h : OwnL FL W base v l) : v.ownBlock ≠ some W.heap.size := fun e => absurd (h.lt _ e).2 (Nat.lt_irrefl _)
/-- A variable that is made behind the call. -/
theorem One.after {base b1 b2 : Nat} {v v' : Value} {l : List Fl} {D' : Dk} {W W' : World} (h1 : Held W base b1 v l) (h2 : Held W base b2 v l) (l1 : b1 < W.heap.size) (l2 : b2 < W.heap.size) (hB : base ≤ W.heap.size) (hk : KeptOr W' W.heap.size v l v' D'.f) (bel : Below W.heap.size W W') :
    One base b1 b2 W'.heap.size v' D' (W'.alloc (.cells #[v', .int .i64 D'.c, .bool D'.a, .int .i64 D'.l, .bool D'.x] 24)) :=
  ⟨heap_alloc_new W' _, (h1.step l1 hB hk bel).alloc _, (h2.step l2 hB hk bel).alloc _, by have := bel.size; omega, by have := bel.size; omega⟩
/-- A variable that was made ahead of the call. -/
theorem One.before {base b1 b2 t : Nat} {v v' : Value} {l : List Fl} {D' : Dk} {W W' : World} {x1 x2 x3 x4 x5 : Value} (ht : W.heap[t]? = some (.cells #[x1, x2, x3, x4, x5] 24 (0, 0))) (h1 : Held W base b1 v l) (h2 : Held W base b2 v l) (h3 : Held W base t v l) (l1 : b1 < W.heap.size) (l2 : b2 < W.heap.size) (n1 : b1 ≠ t) (n2 : b2 ≠ t) (hB : base ≤ W.heap.size) (hk : KeptOr W' W.heap.size v l v' D'.f) (bel : Below W.heap.size W W') :
    One base b1 b2 t v' D' (Dsk.set5 W' t v' (.int .i64 D'.c) (.bool D'.a) (.int .i64 D'.l) (.bool D'.x)) := by
  have h4 := h3.step (Array.getElem?_eq_some_iff.1 ht).1 hB hk bel
  exact ⟨heap_set5 (hkeep ht bel) _ _ _ _ _, (h1.step l1 hB hk bel).set5o h4.2 _ _ _ _ _, (h2.step l2 hB hk bel).set5o h4.2 _ _ _ _ _, n1, n2⟩
/-- The new disks in the elder ones' variables, whichever is laid first. -/
theorem Duo.next {base b1 b2 s t : Nat} {v1 v2 u1 u2 : Value} {D D' : Dk} {W : World} (h : Duo base b1 b2 v1 v2 D W) (o1 : One base b1 b2 s u1 D' W) (o2 : One base b1 b2 t u2 D' W) :
    Duo base b1 b2 u1 u2 D' (Dsk.set5 (Dsk.set5 W b1 u1 (.int .i64 D'.c) (.bool D'.a) (.int .i64 D'.l) (.bool D'.x)) b2 u2 (.int .i64 D'.c) (.bool D'.a) (.int .i64 D'.l) (.bool D'.x)) :=
  ⟨(heap_other5 h.ne _ _ _ _ _).trans (heap_set5 h.a _ _ _ _ _), heap_set5 ((heap_other5 h.ne.symm _ _ _ _ _).trans h.b) _ _ _ _ _,
    (o1.k1.set5o o1.k1.2 _ _ _ _ _).set5o o1.k2.2 _ _ _ _ _, (o1.k2.set5o o1.k1.2 _ _ _ _ _).set5o o1.k2.2 _ _ _ _ _, (o2.k1.set5o o2.k1.2 _ _ _ _ _).set5o o2.k2.2 _ _ _ _ _, (o2.k2.set5o o2.k1.2 _ _ _ _ _).set5o o2.k2.2 _ _ _ _ _, h.ne⟩
theorem Duo.next' {base b1 b2 s t : Nat} {v1 v2 u1 u2 : Value} {D D' : Dk} {W : World} (h : Duo base b1 b2 v1 v2 D W) (o1 : One base b1 b2 s u1 D' W) (o2 : One base b1 b2 t u2 D' W) :
    Duo base b1 b2 u1 u2 D' (Dsk.set5 (Dsk.set5 W b2 u2 (.int .i64 D'.c) (.bool D'.a) (.int .i64 D'.l) (.bool D'.x)) b1 u1 (.int .i64 D'.c) (.bool D'.a) (.int .i64 D'.l) (.bool D'.x)) :=
  ⟨heap_set5 ((heap_other5 h.ne _ _ _ _ _).trans h.a) _ _ _ _ _, (heap_other5 h.ne.symm _ _ _ _ _).trans (heap_set5 h.b _ _ _ _ _),
    (o1.k1.set5o o1.k2.2 _ _ _ _ _).set5o o1.k1.2 _ _ _ _ _, (o1.k2.set5o o1.k2.2 _ _ _ _ _).set5o o1.k1.2 _ _ _ _ _, (o2.k1.set5o o2.k2.2 _ _ _ _ _).set5o o2.k1.2 _ _ _ _ _, (o2.k2.set5o o2.k2.2 _ _ _ _ _).set5o o2.k1.2 _ _ _ _ _, h.ne⟩

/-- The law's round behind the program's act. -/
structure DoA (base b1 b2 t : Nat) (v1 v2 u : Value) (D D' : Dk) (w W : World) : Prop where
  d : Duo base b1 b2 v1 v2 D W
  o : One base b1 b2 t u D' W
  bel : Below w.heap.size w W
  ht : w.heap.size ≤ t
theorem DoA.keep {base b1 b2 t : Nat} {v1 v2 u : Value} {D D' : Dk} {w W W' : World} (h : DoA base b1 b2 t v1 v2 u D D' w W) (bel : Below W.heap.size W W') : DoA base b1 b2 t v1 v2 u D D' w W' :=
  ⟨h.d.keep bel, h.o.keep bel, h.bel.trans (bel.mono h.bel.size), h.ht⟩
theorem DoA.after {base b1 b2 : Nat} {v1 v2 v' : Value} {D D' : Dk} {w W W' : World} (h : Duo base b1 b2 v1 v2 D W) (hB : base ≤ W.heap.size) (hk : KeptOr W' W.heap.size v1 D.f v' D'.f) (bel : Below W.heap.size W W') (hw : Below w.heap.size w W) :
    DoA base b1 b2 W'.heap.size v1 v2 v' D D' w (W'.alloc (.cells #[v', .int .i64 D'.c, .bool D'.a, .int .i64 D'.l, .bool D'.x] 24)) :=
  have hww := hw.trans (bel.mono hw.size)
  ⟨(h.keep bel).keep ((Below.refl _ _).alloc (Nat.le_refl _) _), One.after h.h11 h.h12 h.lt1 h.lt2 hB hk bel, hww.alloc hww.size _, hww.size⟩
theorem DoA.before {base b1 b2 t : Nat} {v1 v2 v' : Value} {D D' : Dk} {w W W' : World} {x1 x2 x3 x4 x5 : Value} (h : Duo base b1 b2 v1 v2 D W) (ht : W.heap[t]? = some (.cells #[x1, x2, x3, x4, x5] 24 (0, 0))) (h3 : Held W base t v1 D.f) (h4 : Held W base t v2 D.f) (n1 : b1 ≠ t) (n2 : b2 ≠ t) (hB : base ≤ W.heap.size) (hk : KeptOr W' W.heap.size v1 D.f v' D'.f) (bel : Below W.heap.size W W') (hw : Below w.heap.size w W) (hwt : w.heap.size ≤ t) :
    DoA base b1 b2 t v1 v2 v' D D' w (Dsk.set5 W' t v' (.int .i64 D'.c) (.bool D'.a) (.int .i64 D'.l) (.bool D'.x)) :=
  ⟨(h.keep bel).set5 n1 n2 h3.2 h4.2 _ _ _ _ _, One.before ht h.h11 h.h12 h3 h.lt1 h.lt2 n1 n2 hB hk bel, bel_set5 (hw.trans (bel.mono hw.size)) hwt _ _ _ _ _, hwt⟩
/-- The law's round behind the document's act, too. -/
structure DoB (base b1 b2 s t : Nat) (v1 v2 u u' : Value) (D D' : Dk) (w W : World) : Prop where
  a : DoA base b1 b2 s v1 v2 u D D' w W
  o : One base b1 b2 t u' D' W
theorem DoB.keep {base b1 b2 s t : Nat} {v1 v2 u u' : Value} {D D' : Dk} {w W W' : World} (h : DoB base b1 b2 s t v1 v2 u u' D D' w W) (bel : Below W.heap.size W W') : DoB base b1 b2 s t v1 v2 u u' D D' w W' :=
  ⟨h.a.keep bel, h.o.keep bel⟩
theorem DoB.after {base b1 b2 s : Nat} {v1 v2 u v' : Value} {D D' : Dk} {w W W' : World} (h : DoA base b1 b2 s v1 v2 u D D' w W) (hB : base ≤ W.heap.size) (hk : KeptOr W' W.heap.size v2 D.f v' D'.f) (bel : Below W.heap.size W W') :
    DoB base b1 b2 s W'.heap.size v1 v2 u v' D D' w (W'.alloc (.cells #[v', .int .i64 D'.c, .bool D'.a, .int .i64 D'.l, .bool D'.x] 24)) :=
  ⟨(h.keep bel).keep ((Below.refl _ _).alloc (Nat.le_refl _) _), One.after h.d.h21 h.d.h22 h.d.lt1 h.d.lt2 hB hk bel⟩
theorem DoB.before {base b1 b2 s t : Nat} {v1 v2 u v' : Value} {D D' : Dk} {w W W' : World} {x1 x2 x3 x4 x5 : Value} (h : DoA base b1 b2 s v1 v2 u D D' w W) (ht : W.heap[t]? = some (.cells #[x1, x2, x3, x4, x5] 24 (0, 0))) (h3 : Held W base t v1 D.f) (h4 : Held W base t v2 D.f) (h5 : Held W base t u D'.f) (n1 : b1 ≠ t) (n2 : b2 ≠ t) (n3 : s ≠ t) (hB : base ≤ W.heap.size) (hk : KeptOr W' W.heap.size v2 D.f v' D'.f) (bel : Below W.heap.size W W') (hwt : w.heap.size ≤ t) :
    DoB base b1 b2 s t v1 v2 u v' D D' w (Dsk.set5 W' t v' (.int .i64 D'.c) (.bool D'.a) (.int .i64 D'.l) (.bool D'.x)) :=
  ⟨⟨(h.d.keep bel).set5 n1 n2 h3.2 h4.2 _ _ _ _ _, (h.o.keep bel).set5 n3 h5.2 _ _ _ _ _, bel_set5 (h.bel.trans (bel.mono h.bel.size)) hwt _ _ _ _ _, h.ht⟩, One.before ht h.d.h21 h.d.h22 h4 h.d.lt1 h.d.lt2 n1 n2 hB hk bel⟩

/-- The cells of the act at a place, in whatever world behind. -/
theorem act_cells {w : World} {g off fn fc : Nat} {l : List Ra} (h : IsActs w (.slice (some ⟨g, off, none⟩) fn fc) l) {k : Nat} (hk : k < fn) : ∀ W, Below w.heap.size w W → W.cell? ⟨g, off + k * 5, none⟩ = some (.int .i64 (l.getD k rzero).x.k) ∧ W.cell? ⟨g, off + k * 5 + 1, none⟩ = some (.int .i64 (l.getD k rzero).x.i) ∧ W.cell? ⟨g, off + k * 5 + 2, none⟩ = some (.string (l.getD k rzero).x.n) ∧
      W.cell? ⟨g, off + k * 5 + 3, none⟩ = some (.string (l.getD k rzero).x.t) ∧ W.cell? ⟨g, off + k * 5 + 4, none⟩ = some (l.getD k rzero).kv := by
  intro W b
  obtain ⟨_, g', off', e, c⟩ := acts_at h b hk
  obtain ⟨rfl, rfl⟩ : g = g' ∧ off = off' := by simpa using e
  exact c

end Go.Proofs.Ytbkiecjbjehaoaa.Dsk
