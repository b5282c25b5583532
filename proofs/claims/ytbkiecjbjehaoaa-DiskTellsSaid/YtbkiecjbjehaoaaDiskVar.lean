/-
  Disks in variables: what a law's round does with them.
-/
import Derived.Test.YtbkiecjbjehaoaaDiskAwake
import Derived.Test.YtbkiecjbjehaoaaDiskDoAny
import Derived.Deep.DeepCutAuto
import Derived.Deep.RegionWith
namespace Go.Proofs.Ytbkiecjbjehaoaa.Dsk
open Go.RowKit Go.Proofs.Ytbkiecjbjehaoaa.Dp

theorem Bd.mono {D : Dk} {k j : Nat} (h : Bd D k) (hj : k ≤ j) : Bd D j := ⟨h.b, h.r, Nat.le_trans h.n hj, Nat.le_trans h.u (Nat.mul_le_mul_right _ hj)⟩
theorem Held.to {W : World} {base b b' : Nat} {v : Value} {l : List Fl} (h : Held W base b v l) (hb : W.heap.size ≤ b') : Held W base b' v l := ⟨h.1, fun e => by have := (h.1.lt _ e).2; omega⟩
theorem kept_own {W W' : World} {base : Nat} {v v' : Value} {l l' : List Fl} (h : OwnL FL W base v l) (hB : base ≤ W.heap.size) (hk : KeptOr W' W.heap.size v l v' l') (bel : Below W.heap.size W W') : OwnL FL W' base v' l' := by
  rcases hk with ⟨rfl, rfl⟩ | k
  · exact h.keep bel
  · exact own_base k hB
/-- A variable that was made ahead of the call whose disk it holds. -/
theorem Var.before {W W' : World} {base t : Nat} {v v' : Value} {l : List Fl} {D' : Dk} {a b c d e : Value} (h : W.heap[t]? = some (.cells #[a, b, c, d, e] 24 (0, 0))) (hl : Held W base t v l) (hB : base ≤ W.heap.size) (hk : KeptOr W' W.heap.size v l v' D'.f) (bel : Below W.heap.size W W') :
    Var (set5 W' t v' (.int .i64 D'.c) (.bool D'.a) (.int .i64 D'.l) (.bool D'.x)) base t v' D' :=
  ⟨heap_set5 (hkeep h bel) _ _ _ _ _, (hl.step (Array.getElem?_eq_some_iff.1 h).1 hB hk bel).set5 _ _ _ _ _⟩
theorem RaOk.rzero (w : World) : RaOk w rzero := ⟨by unfold RaB; decide, IsL.nil w none 0⟩
/-- What a round knows of the act at its place. -/
theorem acts_at {w wr : World} {fa : Option Addr} {fn fc : Nat} {l : List Ra} (h : IsActs w (.slice fa fn fc) l) (b : Below w.heap.size w wr) {k : Nat} (hk : k < fn) :
    RaOk wr (l.getD k rzero) ∧ ∃ g off, fa = some ⟨g, off, none⟩ ∧ wr.cell? ⟨g, off + k * 5, none⟩ = some (.int .i64 (l.getD k rzero).x.k) ∧ wr.cell? ⟨g, off + k * 5 + 1, none⟩ = some (.int .i64 (l.getD k rzero).x.i) ∧ wr.cell? ⟨g, off + k * 5 + 2, none⟩ = some (.string (l.getD k rzero).x.n) ∧
      wr.cell? ⟨g, off + k * 5 + 3, none⟩ = some (.string (l.getD k rzero).x.t) ∧ wr.cell? ⟨g, off + k * 5 + 4, none⟩ = some (l.getD k rzero).kv := by
  have hl : k < l.length := by rw [← h.1.len.1]; exact hk
  exact ⟨(h.2 _ (by rw [getD_ra hl]; exact List.getElem_mem hl)).keep b, isA_at (h.1.keep b) hk⟩
theorem Short.at {l : List Ra} (h : Short l) (k : Nat) : (l.getD k rzero).x.n.size ≤ 100 ∧ (l.getD k rzero).x.t.size ≤ 100 := by
  by_cases hk : k < l.length
  · rw [getD_ra hk]; exact h.2 _ (List.getElem_mem hk)
  · rw [List.getD_eq_getElem?_getD, List.getElem?_eq_none (by omega)]; exact ⟨by decide, by decide⟩
/-- Two disks in two variables, one of them what an act makes of the other. -/
structure Two (base b t : Nat) (v v' : Value) (D D' : Dk) (w w2 : World) : Prop where
  o : Var w2 base b v D
  n : Var w2 base t v' D'
  h : Held w2 base b v' D'.f
  b : Below w.heap.size w w2
theorem Two.before {w W W' : World} {base b t : Nat} {v v' : Value} {D D' : Dk} {x1 x2 x3 x4 x5 : Value} (hv : Var W base b v D) (hl : Held W base t v D.f) (ht : W.heap[t]? = some (.cells #[x1, x2, x3, x4, x5] 24 (0, 0))) (hB : base ≤ W.heap.size) (hne : b ≠ t) (hk : KeptOr W' W.heap.size v D.f v' D'.f) (bel : Below W.heap.size W W')
    (hw : Below w.heap.size w W) (hwt : w.heap.size ≤ t) : Two base b t v v' D D' w (set5 W' t v' (.int .i64 D'.c) (.bool D'.a) (.int .i64 D'.l) (.bool D'.x)) := by
  refine ⟨⟨?_, ?_⟩, Var.before ht hl hB hk bel, ?_, bel_set5 (hw.trans (bel.mono hw.size)) hwt _ _ _ _ _⟩
  · have := hkeep hv.h bel
    unfold set5
    rw [heap_setCell_other _ _ _ _ hne, heap_setCell_other _ _ _ _ hne, heap_setCell_other _ _ _ _ hne, heap_setCell_other _ _ _ _ hne, heap_setCell_other _ _ _ _ hne]
    exact this
  · have h1 := hv.l.keep bel
    have h2 := hl.keep bel
    exact ⟨own_other (own_other (own_other (own_other (own_other h1.1 h2.2 _) h2.2 _) h2.2 _) h2.2 _) h2.2 _, h1.2⟩
  · have h1 := hv.l.step hv.lt hB hk bel
    have h2 := hl.step (Array.getElem?_eq_some_iff.1 ht).1 hB hk bel
    exact ⟨own_other (own_other (own_other (own_other (own_other h1.1 h2.2 _) h2.2 _) h2.2 _) h2.2 _) h2.2 _, h1.2⟩
theorem Two.after {w W W' : World} {base b : Nat} {v v' : Value} {D D' : Dk} (hv : Var W base b v D) (hB : base ≤ W.heap.size) (hk : KeptOr W' W.heap.size v D.f v' D'.f) (bel : Below W.heap.size W W') (hw : Below w.heap.size w W) :
    Two base b W'.heap.size v v' D D' w (W'.alloc (.cells #[v', .int .i64 D'.c, .bool D'.a, .int .i64 D'.l, .bool D'.x] 24)) :=
  ⟨⟨halloc (hkeep hv.h bel), (hv.l.keep bel).alloc _⟩, Var.new (kept_own hv.l.1 hB hk bel), (hv.l.step hv.lt hB hk bel).alloc _, (hw.trans (bel.mono hw.size)).alloc (Nat.le_trans hw.size bel.size) _⟩
/-- The new disk in the elder one's variable. -/
theorem Two.next {base b t : Nat} {v v' : Value} {D D' : Dk} {w w2 : World} (h : Two base b t v v' D D' w w2) : Var (set5 w2 b v' (.int .i64 D'.c) (.bool D'.a) (.int .i64 D'.l) (.bool D'.x)) base b v' D' :=
  ⟨heap_set5 h.o.h _ _ _ _ _, h.h.set5 _ _ _ _ _⟩

end Go.Proofs.Ytbkiecjbjehaoaa.Dsk
