/-
  Two disks in two variables, the elder one's files apart from both.
-/
import Derived.Test.YtbkiecjbjehaoaaDiskVar
import Derived.Test.YtbkiecjbjehaoaaDiskSame
namespace Go.Proofs.Ytbkiecjbjehaoaa.Dsk
open Go.RowKit Go.Proofs.Ytbkiecjbjehaoaa.Dp

/-- As Two, and the elder one's files are in neither variable. -/
structure Two2 (base b t : Nat) (v v' : Value) (D D' : Dk) (w w2 : World) : Prop where
  tw : Two base b t v v' D D' w w2
  g : Held w2 base t v D.f
  ne : b ≠ t
theorem Two2.before {w W W' : World} {base b t : Nat} {v v' : Value} {D D' : Dk} {x1 x2 x3 x4 x5 : Value} (hv : Var W base b v D) (hl : Held W base t v D.f) (ht : W.heap[t]? = some (.cells #[x1, x2, x3, x4, x5] 24 (0, 0))) (hB : base ≤ W.heap.size) (hne : b ≠ t) (hk : KeptOr W' W.heap.size v D.f v' D'.f) (bel : Below W.heap.size W W')
    (hw : Below w.heap.size w W) (hwt : w.heap.size ≤ t) : Two2 base b t v v' D D' w (set5 W' t v' (.int .i64 D'.c) (.bool D'.a) (.int .i64 D'.l) (.bool D'.x)) :=
  ⟨Two.before hv hl ht hB hne hk bel hw hwt, (hl.keep bel).set5 _ _ _ _ _, hne⟩
theorem Two2.after {w W W' : World} {base b : Nat} {v v' : Value} {D D' : Dk} (hv : Var W base b v D) (hB : base ≤ W.heap.size) (hk : KeptOr W' W.heap.size v D.f v' D'.f) (bel : Below W.heap.size W W') (hw : Below w.heap.size w W) :
    Two2 base b W'.heap.size v v' D D' w (W'.alloc (.cells #[v', .int .i64 D'.c, .bool D'.a, .int .i64 D'.l, .bool D'.x] 24)) :=
  ⟨Two.after hv hB hk bel hw, ((hv.l.keep bel).to (Nat.le_refl _)).alloc _, by have := (hv.keep bel).lt; omega⟩
theorem Two.keep {base b t : Nat} {v v' : Value} {D D' : Dk} {w w2 w3 : World} (h : Two base b t v v' D D' w w2) (bel : Below w2.heap.size w2 w3) : Two base b t v v' D D' w w3 := ⟨h.o.keep bel, h.n.keep bel, h.h.keep bel, h.b.trans (bel.mono h.b.size)⟩
theorem Two2.keep {base b t : Nat} {v v' : Value} {D D' : Dk} {w w2 w3 : World} (h : Two2 base b t v v' D D' w w2) (bel : Below w2.heap.size w2 w3) : Two2 base b t v v' D D' w w3 := ⟨h.tw.keep bel, h.g.keep bel, h.ne⟩
/-- The new disk's power is set. -/
theorem Two2.power {base b t : Nat} {v v' : Value} {D : Dk} {f : List Fl} {c l : Int} {a x : Bool} {w w2 : World} (h : Two2 base b t v v' D ⟨f, c, a, l, x⟩ w w2) (hwt : w.heap.size ≤ t) (y : Bool) : Two2 base b t v v' D ⟨f, c, a, l, y⟩ w (w2.setCell ⟨t, 4, none⟩ (.bool y)) :=
  ⟨⟨⟨by rw [heap_setCell_other _ _ _ _ h.ne]; exact h.tw.o.h, own_other h.tw.o.l.1 h.g.2 _, h.tw.o.l.2⟩, ⟨heap_setCell_same _ _ 4 _ _ _ h.tw.n.h, own_other h.tw.n.l.1 h.tw.n.l.2 _, h.tw.n.l.2⟩, ⟨own_other h.tw.h.1 h.tw.n.l.2 _, h.tw.h.2⟩, h.tw.b.setCell (p := ⟨t, 4, none⟩) hwt _⟩, ⟨own_other h.g.1 h.g.2 _, h.g.2⟩, h.ne⟩

end Go.Proofs.Ytbkiecjbjehaoaa.Dsk
