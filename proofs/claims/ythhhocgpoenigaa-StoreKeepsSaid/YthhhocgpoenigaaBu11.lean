/-
  Parts of what the laws of this seat stand on: StoSync, StoCreate, StoRoll, StoKw.
-/
import Derived.Deep.RegionHeld3
import Derived.IntWalk
import Derived.Test.YthhhocgpoenigaaBu10
import Derived.Test.YthhhocgpoenigaaBu8
namespace Go.Proofs.Ythhhocgpoenigaa.Sto
open Go.RowKit Go.Proofs.Ythhhocgpoenigaa.So Go.Proofs.Ythhhocgpoenigaa.Dsk Go.Proofs.Ythhhocgpoenigaa.Rts

/-- A store in a box, and the box of the result behind it. -/
structure Ts (w : World) (b : Nat) (fv0 gv0 fv gv : Value) (S : St) (W : World) : Prop where
  d : W.heap[b]? = some (.cells #[fv, .int .i64 S.d.c, .bool S.d.a, .int .i64 S.d.l, .bool S.d.x, .int .i64 S.v, gv, .int .i64 S.x, .int .i64 S.s, .int .i64 S.z, .int .u32 S.c] 31 (0, 0))
  r : W.heap[b + 1]? = some (.cells #[.slice none 0 0, .int .i64 0, .bool false, .int .i64 0, .bool false, .int .i64 0, .slice none 0 0, .int .i64 0, .int .i64 0, .int .i64 0, .int .u32 0] 31 (0, 0))
  f : IsL FL W fv S.d.f
  g : IsL SL W gv S.g
  s : Sep fv b ∧ Sep fv (b + 1) ∧ Sep gv b ∧ Sep gv (b + 1)
  k : ∀ t, t < b → Sep fv0 t → Sep gv0 t → Sep fv t ∧ Sep gv t
  w : Below b w W
section
variable {w W W' : World} {b : Nat} {fv0 gv0 fv gv fv' gv' : Value} {S : St} {D' : Dp.Dk}
theorem Ts.lt (h : Ts w b fv0 gv0 fv gv S W) : b + 1 < W.heap.size := (Array.getElem?_eq_some_iff.1 h.r).1
theorem Ts.keep (h : Ts w b fv0 gv0 fv gv S W) (k : Below W.heap.size W W') : Ts w b fv0 gv0 fv gv S W' :=
  ⟨hkeep h.d k, hkeep h.r k, h.f.keep k, h.g.keep k, h.s, h.k, h.w.trans (k.mono (by have := h.lt; omega))⟩
theorem five_other {j : Nat} (hj : j ≠ b) {o : Obj} (e : W.heap[j]? = some o) (x y z u v : Value) : (set5 W b x y z u v).heap[j]? = some o := by
  unfold set5
  rw [Below.heap_setCell _ _ _ j (fun e => hj e), Below.heap_setCell _ _ _ j (fun e => hj e), Below.heap_setCell _ _ _ j (fun e => hj e), Below.heap_setCell _ _ _ j (fun e => hj e), Below.heap_setCell _ _ _ j (fun e => hj e)]
  exact e
/-- Another disk is laid in the store. -/
theorem Ts.disk (h : Ts w b fv0 gv0 fv gv S W) (hf : IsL FL W fv' D'.f) (hs : Sep fv' b ∧ Sep fv' (b + 1)) (hk : ∀ t, t < b → Sep fv0 t → Sep gv0 t → Sep fv' t) :
    ∃ Z, ((((W.setCell ⟨b, 0, none⟩ fv').setCell ⟨b, 1, none⟩ (.int .i64 D'.c)).setCell ⟨b, 2, none⟩ (.bool D'.a)).setCell ⟨b, 3, none⟩ (.int .i64 D'.l)).setCell ⟨b, 4, none⟩ (.bool D'.x) = Z ∧ Ts w b fv0 gv0 fv' gv { S with d := D' } Z ∧ (∀ j, j ≠ b → ∀ o, W.heap[j]? = some o → Z.heap[j]? = some o) ∧ (∀ v l, IsL FL W v l → Sep v b → IsL FL Z v l) :=
  ⟨_, rfl, ⟨heap_setCell_same _ _ 4 _ _ _ (heap_setCell_same _ _ 3 _ _ _ (heap_setCell_same _ _ 2 _ _ _ (heap_setCell_same _ _ 1 _ _ _ (heap_setCell_same _ _ 0 _ _ _ h.d)))),
    five_other (by omega) h.r _ _ _ _ _, IsL.set5 hf hs.1 _ _ _ _ _, IsL.set5 h.g h.s.2.2.1 _ _ _ _ _, ⟨hs.1, hs.2, h.s.2.2.1, h.s.2.2.2⟩, fun t ht a c => ⟨hk t ht a c, (h.k t ht a c).2⟩, bel_set5 h.w (Nat.le_refl _) _ _ _ _ _⟩,
    fun j hj o e => five_other hj e _ _ _ _ _, fun v l hv hs => IsL.set5 hv hs _ _ _ _ _⟩
/-- What is sure is laid in the store. -/
theorem Ts.sure (h : Ts w b fv0 gv0 fv gv S W) (x : Int) : Ts w b fv0 gv0 fv gv { S with s := x } (W.setCell ⟨b, 8, none⟩ (.int .i64 x)) :=
  ⟨heap_setCell_same _ _ 8 _ _ _ h.d, (Below.heap_setCell _ _ _ _ (fun e => by have e : b + 1 = b := e; omega)).trans h.r, IsL.setC h.f h.s.1 _ _, IsL.setC h.g h.s.2.2.1 _ _, h.s, h.k, h.w.setCell (p := ⟨b, 8, none⟩) (Nat.le_refl _) _⟩
/-- A store's cells, written into a box. -/
theorem set11 {k : Nat} {T : TypeId} {a0 a1 a2 a3 a4 a5 a6 a7 a8 a9 a10 : Value} (hh : W.heap[k]? = some (.cells #[a0, a1, a2, a3, a4, a5, a6, a7, a8, a9, a10] T (0, 0))) (v0 v1 v2 v3 v4 v5 v6 v7 v8 v9 v10 : Value) :
    ∃ Z, ((((((((((W.setCell ⟨k, 0, none⟩ v0).setCell ⟨k, 1, none⟩ v1).setCell ⟨k, 2, none⟩ v2).setCell ⟨k, 3, none⟩ v3).setCell ⟨k, 4, none⟩ v4).setCell ⟨k, 5, none⟩ v5).setCell ⟨k, 6, none⟩ v6).setCell ⟨k, 7, none⟩ v7).setCell ⟨k, 8, none⟩ v8).setCell ⟨k, 9, none⟩ v9).setCell ⟨k, 10, none⟩ v10 = Z ∧
      Z.heap[k]? = some (.cells #[v0, v1, v2, v3, v4, v5, v6, v7, v8, v9, v10] T (0, 0)) ∧ (∀ j, j ≠ k → ∀ o, W.heap[j]? = some o → Z.heap[j]? = some o) ∧ (∀ v l, IsL FL W v l → Sep v k → IsL FL Z v l) ∧ (∀ v l, IsL SL W v l → Sep v k → IsL SL Z v l) ∧ ∀ c w, c ≤ k → Below c w W → Below c w Z := by
  obtain ⟨W0, e0⟩ : ∃ U, W.setCell ⟨k, 0, none⟩ v0 = U := ⟨_, rfl⟩
  have k0 : W0.heap[k]? = some (.cells #[v0, a1, a2, a3, a4, a5, a6, a7, a8, a9, a10] T (0, 0)) := by rw [← e0]; exact heap_setCell_same _ _ 0 _ _ _ hh
  obtain ⟨W1, e1⟩ : ∃ U, W0.setCell ⟨k, 1, none⟩ v1 = U := ⟨_, rfl⟩
  have k1 : W1.heap[k]? = some (.cells #[v0, v1, a2, a3, a4, a5, a6, a7, a8, a9, a10] T (0, 0)) := by rw [← e1]; exact heap_setCell_same _ _ 1 _ _ _ k0
  obtain ⟨W2, e2⟩ : ∃ U, W1.setCell ⟨k, 2, none⟩ v2 = U := ⟨_, rfl⟩
  have k2 : W2.heap[k]? = some (.cells #[v0, v1, v2, a3, a4, a5, a6, a7, a8, a9, a10] T (0, 0)) := by rw [← e2]; exact heap_setCell_same _ _ 2 _ _ _ k1
  obtain ⟨W3, e3⟩ : ∃ U, W2.setCell ⟨k, 3, none⟩ v3 = U := ⟨_, rfl⟩
  have k3 : W3.heap[k]? = some (.cells #[v0, v1, v2, v3, a4, a5, a6, a7, a8, a9, a10] T (0, 0)) := by rw [← e3]; exact heap_setCell_same _ _ 3 _ _ _ k2
  obtain ⟨W4, e4⟩ : ∃ U, W3.setCell ⟨k, 4, none⟩ v4 = U := ⟨_, rfl⟩
  have k4 : W4.heap[k]? = some (.cells #[v0, v1, v2, v3, v4, a5, a6, a7, a8, a9, a10] T (0, 0)) := by rw [← e4]; exact heap_setCell_same _ _ 4 _ _ _ k3
  obtain ⟨W5, e5⟩ : ∃ U, W4.setCell ⟨k, 5, none⟩ v5 = U := ⟨_, rfl⟩
  have k5 : W5.heap[k]? = some (.cells #[v0, v1, v2, v3, v4, v5, a6, a7, a8, a9, a10] T (0, 0)) := by rw [← e5]; exact heap_setCell_same _ _ 5 _ _ _ k4
  obtain ⟨W6, e6⟩ : ∃ U, W5.setCell ⟨k, 6, none⟩ v6 = U := ⟨_, rfl⟩
  have k6 : W6.heap[k]? = some (.cells #[v0, v1, v2, v3, v4, v5, v6, a7, a8, a9, a10] T (0, 0)) := by rw [← e6]; exact heap_setCell_same _ _ 6 _ _ _ k5
  obtain ⟨W7, e7⟩ : ∃ U, W6.setCell ⟨k, 7, none⟩ v7 = U := ⟨_, rfl⟩
  have k7 : W7.heap[k]? = some (.cells #[v0, v1, v2, v3, v4, v5, v6, v7, a8, a9, a10] T (0, 0)) := by rw [← e7]; exact heap_setCell_same _ _ 7 _ _ _ k6
  obtain ⟨W8, e8⟩ : ∃ U, W7.setCell ⟨k, 8, none⟩ v8 = U := ⟨_, rfl⟩
  have k8 : W8.heap[k]? = some (.cells #[v0, v1, v2, v3, v4, v5, v6, v7, v8, a9, a10] T (0, 0)) := by rw [← e8]; exact heap_setCell_same _ _ 8 _ _ _ k7
  obtain ⟨W9, e9⟩ : ∃ U, W8.setCell ⟨k, 9, none⟩ v9 = U := ⟨_, rfl⟩
  have k9 : W9.heap[k]? = some (.cells #[v0, v1, v2, v3, v4, v5, v6, v7, v8, v9, a10] T (0, 0)) := by rw [← e9]; exact heap_setCell_same _ _ 9 _ _ _ k8
  obtain ⟨W10, e10⟩ : ∃ U, W9.setCell ⟨k, 10, none⟩ v10 = U := ⟨_, rfl⟩
  have k10 : W10.heap[k]? = some (.cells #[v0, v1, v2, v3, v4, v5, v6, v7, v8, v9, v10] T (0, 0)) := by rw [← e10]; exact heap_setCell_same _ _ 10 _ _ _ k9
  refine ⟨W10, by rw [e0, e1, e2, e3, e4, e5, e6, e7, e8, e9, e10], k10, ?_, ?_, ?_, ?_⟩
  · intro j hj o e
    have q : ∀ {U V : World} {i : Nat} {x : Value}, U.setCell ⟨k, i, none⟩ x = V → U.heap[j]? = some o → V.heap[j]? = some o := fun e h => by rw [← e]; exact (Below.heap_setCell _ _ _ j (fun e => hj e)).trans h
    exact q e10 (q e9 (q e8 (q e7 (q e6 (q e5 (q e4 (q e3 (q e2 (q e1 (q e0 e))))))))))
  · intro v l h hs
    have q : ∀ {U V : World} {i : Nat} {x : Value}, U.setCell ⟨k, i, none⟩ x = V → IsL FL U v l → IsL FL V v l := fun e h => by rw [← e]; exact IsL.setC h hs _ _
    exact q e10 (q e9 (q e8 (q e7 (q e6 (q e5 (q e4 (q e3 (q e2 (q e1 (q e0 h))))))))))
  · intro v l h hs
    have q : ∀ {U V : World} {i : Nat} {x : Value}, U.setCell ⟨k, i, none⟩ x = V → IsL SL U v l → IsL SL V v l := fun e h => by rw [← e]; exact IsL.setC h hs _ _
    exact q e10 (q e9 (q e8 (q e7 (q e6 (q e5 (q e4 (q e3 (q e2 (q e1 (q e0 h))))))))))
  · intro c w hc h
    have q : ∀ {U V : World} {i : Nat} {x : Value}, U.setCell ⟨k, i, none⟩ x = V → Below c w U → Below c w V := fun {U V i x} e h => by rw [← e]; exact h.setCell (p := ⟨k, i, none⟩) hc x
    exact q e10 (q e9 (q e8 (q e7 (q e6 (q e5 (q e4 (q e3 (q e2 (q e1 (q e0 h))))))))))
/-- The box's store is what is answered, laid in the result. -/
theorem Ts.fin {fa ga : Option Addr} {fn fc gn gc : Nat} (h : Ts w w.heap.size fv0 gv0 (.slice fa fn fc) (.slice ga gn gc) S W) :
    ∃ Z, ((((((((((W.setCell ⟨w.heap.size + 1, 0, none⟩ (.slice fa fn fc)).setCell ⟨w.heap.size + 1, 1, none⟩ (.int .i64 S.d.c)).setCell ⟨w.heap.size + 1, 2, none⟩ (.bool S.d.a)).setCell ⟨w.heap.size + 1, 3, none⟩ (.int .i64 S.d.l)).setCell ⟨w.heap.size + 1, 4, none⟩ (.bool S.d.x)).setCell ⟨w.heap.size + 1, 5, none⟩ (.int .i64 S.v)).setCell ⟨w.heap.size + 1, 6, none⟩ (.slice ga gn gc)).setCell ⟨w.heap.size + 1, 7, none⟩ (.int .i64 S.x)).setCell ⟨w.heap.size + 1, 8, none⟩ (.int .i64 S.s)).setCell ⟨w.heap.size + 1, 9, none⟩ (.int .i64 S.z)).setCell ⟨w.heap.size + 1, 10, none⟩ (.int .u32 S.c) = Z ∧
      Z.heap[w.heap.size + 1]? = some (.cells #[.slice fa fn fc, .int .i64 S.d.c, .bool S.d.a, .int .i64 S.d.l, .bool S.d.x, .int .i64 S.v, .slice ga gn gc, .int .i64 S.x, .int .i64 S.s, .int .i64 S.z, .int .u32 S.c] 31 (0, 0)) ∧ StS w fv0 gv0 S (.slice fa fn fc) (.slice ga gn gc) Z := by
  obtain ⟨Z, h1, h2, _, h4, h5, h6⟩ := set11 h.r (.slice fa fn fc) (.int .i64 S.d.c) (.bool S.d.a) (.int .i64 S.d.l) (.bool S.d.x) (.int .i64 S.v) (.slice ga gn gc) (.int .i64 S.x) (.int .i64 S.s) (.int .i64 S.z) (.int .u32 S.c)
  exact ⟨Z, h1, h2, h4 _ _ h.f h.s.2.1, h5 _ _ h.g h.s.2.2.2, h.k, h6 _ _ (Nat.le_succ _) h.w⟩
theorem Ts.new {W0 : World} (hf : IsL FL w fv S.d.f) (hg : IsL SL w gv S.g) (e : (w.alloc (.cells #[fv, .int .i64 S.d.c, .bool S.d.a, .int .i64 S.d.l, .bool S.d.x, .int .i64 S.v, gv, .int .i64 S.x, .int .i64 S.s, .int .i64 S.z, .int .u32 S.c] 31)).alloc (.cells #[.slice none 0 0, .int .i64 0, .bool false, .int .i64 0, .bool false, .int .i64 0, .slice none 0 0, .int .i64 0, .int .i64 0, .int .i64 0, .int .u32 0] 31) = W0) : Ts w w.heap.size fv gv fv gv S W0 := by
  obtain ⟨g0, g1, gb, gs⟩ := boxes2 w #[fv, .int .i64 S.d.c, .bool S.d.a, .int .i64 S.d.l, .bool S.d.x, .int .i64 S.v, gv, .int .i64 S.x, .int .i64 S.s, .int .i64 S.z, .int .u32 S.c] #[.slice none 0 0, .int .i64 0, .bool false, .int .i64 0, .bool false, .int .i64 0, .slice none 0 0, .int .i64 0, .int .i64 0, .int .i64 0, .int .u32 0] 31 31
  rw [e] at g0 g1 gb gs
  exact ⟨g0, g1, hf.keep gb, hg.keep gb, ⟨IsL.sep_new hf (Nat.le_refl _), IsL.sep_new hf (by omega), IsL.sep_new hg (Nat.le_refl _), IsL.sep_new hg (by omega)⟩, fun _ _ a c => ⟨a, c⟩, gb⟩
end

/-- A disk in a box of its own, beside a store's. -/
structure Db (W : World) (b t : Nat) (fv : Value) (D : Dp.Dk) : Prop where
  lt : b + 1 < t
  d : W.heap[t]? = some (.cells #[fv, .int .i64 D.c, .bool D.a, .int .i64 D.l, .bool D.x] 27 (0, 0))
  f : IsL FL W fv D.f
  s : Sep fv b ∧ Sep fv (b + 1) ∧ Sep fv t
/-- A store in its box, and a disk, in a box of its own, that a call answered. -/
def SyR (w : World) (b : Nat) (fv0 gv0 fv gv : Value) (S : St) (D : Dp.Dk) (t : Nat) (W : World) : Prop := ∃ a n c, Ts w b fv0 gv0 fv gv S W ∧ Db W b t (.slice a n c) D ∧ ∀ j, j < b → Sep fv0 j → Sep gv0 j → Sep (.slice a n c) j
theorem keepS {w W W' : World} {b : Nat} {v0 v1 v2 v3 v4 v5 v6 v7 v8 v9 v10 : Value}
    (h : W.cell? ⟨b, 0, none⟩ = some v0 ∧ W.cell? ⟨b, 1, none⟩ = some v1 ∧ W.cell? ⟨b, 2, none⟩ = some v2 ∧ W.cell? ⟨b, 3, none⟩ = some v3 ∧ W.cell? ⟨b, 4, none⟩ = some v4 ∧ W.cell? ⟨b, 5, none⟩ = some v5 ∧ W.cell? ⟨b, 6, none⟩ = some v6 ∧ W.cell? ⟨b, 7, none⟩ = some v7 ∧ W.cell? ⟨b, 8, none⟩ = some v8 ∧ W.cell? ⟨b, 9, none⟩ = some v9 ∧ W.cell? ⟨b, 10, none⟩ = some v10 ∧ Below w.heap.size w W) (k : Below W.heap.size W W') :
    W'.cell? ⟨b, 0, none⟩ = some v0 ∧ W'.cell? ⟨b, 1, none⟩ = some v1 ∧ W'.cell? ⟨b, 2, none⟩ = some v2 ∧ W'.cell? ⟨b, 3, none⟩ = some v3 ∧ W'.cell? ⟨b, 4, none⟩ = some v4 ∧ W'.cell? ⟨b, 5, none⟩ = some v5 ∧ W'.cell? ⟨b, 6, none⟩ = some v6 ∧ W'.cell? ⟨b, 7, none⟩ = some v7 ∧ W'.cell? ⟨b, 8, none⟩ = some v8 ∧ W'.cell? ⟨b, 9, none⟩ = some v9 ∧ W'.cell? ⟨b, 10, none⟩ = some v10 ∧ Below w.heap.size w W' := by
  obtain ⟨h0, h1, h2, h3, h4, h5, h6, h7, h8, h9, h10, hb⟩ := h
  have q : ∀ {o : Nat} {x : Value}, W.cell? ⟨b, o, none⟩ = some x → W'.cell? ⟨b, o, none⟩ = some x := fun e => (World.cell?_of_block (k.block b (block_lt_of_cell e))).trans e
  exact ⟨q h0, q h1, q h2, q h3, q h4, q h5, q h6, q h7, q h8, q h9, q h10, hb.trans (k.mono hb.size)⟩

theorem belS {w W : World} {b : Nat} {v0 v1 v2 v3 v4 v5 v6 v7 v8 v9 v10 : Value}
    (h : W.cell? ⟨b, 0, none⟩ = some v0 ∧ W.cell? ⟨b, 1, none⟩ = some v1 ∧ W.cell? ⟨b, 2, none⟩ = some v2 ∧ W.cell? ⟨b, 3, none⟩ = some v3 ∧ W.cell? ⟨b, 4, none⟩ = some v4 ∧ W.cell? ⟨b, 5, none⟩ = some v5 ∧ W.cell? ⟨b, 6, none⟩ = some v6 ∧ W.cell? ⟨b, 7, none⟩ = some v7 ∧ W.cell? ⟨b, 8, none⟩ = some v8 ∧ W.cell? ⟨b, 9, none⟩ = some v9 ∧ W.cell? ⟨b, 10, none⟩ = some v10 ∧ Below w.heap.size w W) : Below w.heap.size w W := h.2.2.2.2.2.2.2.2.2.2.2

theorem keepA {w W : World} {b : Nat} {o : Obj} {v0 v1 v2 v3 v4 v5 v6 v7 v8 v9 v10 : Value}
    (h : W.cell? ⟨b, 0, none⟩ = some v0 ∧ W.cell? ⟨b, 1, none⟩ = some v1 ∧ W.cell? ⟨b, 2, none⟩ = some v2 ∧ W.cell? ⟨b, 3, none⟩ = some v3 ∧ W.cell? ⟨b, 4, none⟩ = some v4 ∧ W.cell? ⟨b, 5, none⟩ = some v5 ∧ W.cell? ⟨b, 6, none⟩ = some v6 ∧ W.cell? ⟨b, 7, none⟩ = some v7 ∧ W.cell? ⟨b, 8, none⟩ = some v8 ∧ W.cell? ⟨b, 9, none⟩ = some v9 ∧ W.cell? ⟨b, 10, none⟩ = some v10 ∧ Below w.heap.size w W) : (W.alloc o).cell? ⟨b, 0, none⟩ = some v0 ∧ (W.alloc o).cell? ⟨b, 1, none⟩ = some v1 ∧ (W.alloc o).cell? ⟨b, 2, none⟩ = some v2 ∧ (W.alloc o).cell? ⟨b, 3, none⟩ = some v3 ∧ (W.alloc o).cell? ⟨b, 4, none⟩ = some v4 ∧ (W.alloc o).cell? ⟨b, 5, none⟩ = some v5 ∧ (W.alloc o).cell? ⟨b, 6, none⟩ = some v6 ∧ (W.alloc o).cell? ⟨b, 7, none⟩ = some v7 ∧ (W.alloc o).cell? ⟨b, 8, none⟩ = some v8 ∧ (W.alloc o).cell? ⟨b, 9, none⟩ = some v9 ∧ (W.alloc o).cell? ⟨b, 10, none⟩ = some v10 ∧ Below w.heap.size w (W.alloc o) := keepS h ((Below.refl _ _).alloc (Nat.le_refl _) _)
theorem keep5 {w W : World} {b : Nat} {o : Obj} {v0 v1 v2 v3 v4 v5 v6 v7 v8 v9 v10 x0 x1 x2 x3 x4 : Value}
    (h : W.cell? ⟨b, 0, none⟩ = some v0 ∧ W.cell? ⟨b, 1, none⟩ = some v1 ∧ W.cell? ⟨b, 2, none⟩ = some v2 ∧ W.cell? ⟨b, 3, none⟩ = some v3 ∧ W.cell? ⟨b, 4, none⟩ = some v4 ∧ W.cell? ⟨b, 5, none⟩ = some v5 ∧ W.cell? ⟨b, 6, none⟩ = some v6 ∧ W.cell? ⟨b, 7, none⟩ = some v7 ∧ W.cell? ⟨b, 8, none⟩ = some v8 ∧ W.cell? ⟨b, 9, none⟩ = some v9 ∧ W.cell? ⟨b, 10, none⟩ = some v10 ∧ Below w.heap.size w W) : ((((((W.alloc o).setCell ⟨W.heap.size, 0, none⟩ x0).setCell ⟨W.heap.size, 1, none⟩ x1).setCell ⟨W.heap.size, 2, none⟩ x2).setCell ⟨W.heap.size, 3, none⟩ x3).setCell ⟨W.heap.size, 4, none⟩ x4).cell? ⟨b, 0, none⟩ = some v0 ∧ ((((((W.alloc o).setCell ⟨W.heap.size, 0, none⟩ x0).setCell ⟨W.heap.size, 1, none⟩ x1).setCell ⟨W.heap.size, 2, none⟩ x2).setCell ⟨W.heap.size, 3, none⟩ x3).setCell ⟨W.heap.size, 4, none⟩ x4).cell? ⟨b, 1, none⟩ = some v1 ∧ ((((((W.alloc o).setCell ⟨W.heap.size, 0, none⟩ x0).setCell ⟨W.heap.size, 1, none⟩ x1).setCell ⟨W.heap.size, 2, none⟩ x2).setCell ⟨W.heap.size, 3, none⟩ x3).setCell ⟨W.heap.size, 4, none⟩ x4).cell? ⟨b, 2, none⟩ = some v2 ∧ ((((((W.alloc o).setCell ⟨W.heap.size, 0, none⟩ x0).setCell ⟨W.heap.size, 1, none⟩ x1).setCell ⟨W.heap.size, 2, none⟩ x2).setCell ⟨W.heap.size, 3, none⟩ x3).setCell ⟨W.heap.size, 4, none⟩ x4).cell? ⟨b, 3, none⟩ = some v3 ∧ ((((((W.alloc o).setCell ⟨W.heap.size, 0, none⟩ x0).setCell ⟨W.heap.size, 1, none⟩ x1).setCell ⟨W.heap.size, 2, none⟩ x2).setCell ⟨W.heap.size, 3, none⟩ x3).setCell ⟨W.heap.size, 4, none⟩ x4).cell? ⟨b, 4, none⟩ = some v4 ∧ ((((((W.alloc o).setCell ⟨W.heap.size, 0, none⟩ x0).setCell ⟨W.heap.size, 1, none⟩ x1).setCell ⟨W.heap.size, 2, none⟩ x2).setCell ⟨W.heap.size, 3, none⟩ x3).setCell ⟨W.heap.size, 4, none⟩ x4).cell? ⟨b, 5, none⟩ = some v5 ∧ ((((((W.alloc o).setCell ⟨W.heap.size, 0, none⟩ x0).setCell ⟨W.heap.size, 1, none⟩ x1).setCell ⟨W.heap.size, 2, none⟩ x2).setCell ⟨W.heap.size, 3, none⟩ x3).setCell ⟨W.heap.size, 4, none⟩ x4).cell? ⟨b, 6, none⟩ = some v6 ∧ ((((((W.alloc o).setCell ⟨W.heap.size, 0, none⟩ x0).setCell ⟨W.heap.size, 1, none⟩ x1).setCell ⟨W.heap.size, 2, none⟩ x2).setCell ⟨W.heap.size, 3, none⟩ x3).setCell ⟨W.heap.size, 4, none⟩ x4).cell? ⟨b, 7, none⟩ = some v7 ∧ ((((((W.alloc o).setCell ⟨W.heap.size, 0, none⟩ x0).setCell ⟨W.heap.size, 1, none⟩ x1).setCell ⟨W.heap.size, 2, none⟩ x2).setCell ⟨W.heap.size, 3, none⟩ x3).setCell ⟨W.heap.size, 4, none⟩ x4).cell? ⟨b, 8, none⟩ = some v8 ∧ ((((((W.alloc o).setCell ⟨W.heap.size, 0, none⟩ x0).setCell ⟨W.heap.size, 1, none⟩ x1).setCell ⟨W.heap.size, 2, none⟩ x2).setCell ⟨W.heap.size, 3, none⟩ x3).setCell ⟨W.heap.size, 4, none⟩ x4).cell? ⟨b, 9, none⟩ = some v9 ∧ ((((((W.alloc o).setCell ⟨W.heap.size, 0, none⟩ x0).setCell ⟨W.heap.size, 1, none⟩ x1).setCell ⟨W.heap.size, 2, none⟩ x2).setCell ⟨W.heap.size, 3, none⟩ x3).setCell ⟨W.heap.size, 4, none⟩ x4).cell? ⟨b, 10, none⟩ = some v10 ∧ Below w.heap.size w ((((((W.alloc o).setCell ⟨W.heap.size, 0, none⟩ x0).setCell ⟨W.heap.size, 1, none⟩ x1).setCell ⟨W.heap.size, 2, none⟩ x2).setCell ⟨W.heap.size, 3, none⟩ x3).setCell ⟨W.heap.size, 4, none⟩ x4) :=
  keepS (W' := (((((W.alloc o).setCell ⟨W.heap.size, 0, none⟩ x0).setCell ⟨W.heap.size, 1, none⟩ x1).setCell ⟨W.heap.size, 2, none⟩ x2).setCell ⟨W.heap.size, 3, none⟩ x3).setCell ⟨W.heap.size, 4, none⟩ x4) h (bel_set5 (w := W) (W := W.alloc o) ((Below.refl _ _).alloc (Nat.le_refl _) _) (Nat.le_refl _) _ _ _ _ _)

theorem belQ {w W W' : World} {b : Nat} {v0 v1 v2 v3 v4 v5 v6 v7 v8 v9 v10 : Value}
    (h : W.cell? ⟨b, 0, none⟩ = some v0 ∧ W.cell? ⟨b, 1, none⟩ = some v1 ∧ W.cell? ⟨b, 2, none⟩ = some v2 ∧ W.cell? ⟨b, 3, none⟩ = some v3 ∧ W.cell? ⟨b, 4, none⟩ = some v4 ∧ W.cell? ⟨b, 5, none⟩ = some v5 ∧ W.cell? ⟨b, 6, none⟩ = some v6 ∧ W.cell? ⟨b, 7, none⟩ = some v7 ∧ W.cell? ⟨b, 8, none⟩ = some v8 ∧ W.cell? ⟨b, 9, none⟩ = some v9 ∧ W.cell? ⟨b, 10, none⟩ = some v10 ∧ Below w.heap.size w W) (_ : Below W.heap.size W W') : Below w.heap.size w W := belS h
theorem keepAD {w W : World} {b : Nat} {o : Obj} {v0 v1 v2 v3 v4 v5 v6 v7 v8 v9 v10 : Value}
    (h : W.cell? ⟨b, 0, none⟩ = some v0 ∧ W.cell? ⟨b, 1, none⟩ = some v1 ∧ W.cell? ⟨b, 2, none⟩ = some v2 ∧ W.cell? ⟨b, 3, none⟩ = some v3 ∧ W.cell? ⟨b, 4, none⟩ = some v4 ∧ W.cell? ⟨b, 5, none⟩ = some v5 ∧ W.cell? ⟨b, 6, none⟩ = some v6 ∧ W.cell? ⟨b, 7, none⟩ = some v7 ∧ W.cell? ⟨b, 8, none⟩ = some v8 ∧ W.cell? ⟨b, 9, none⟩ = some v9 ∧ W.cell? ⟨b, 10, none⟩ = some v10 ∧ Below w.heap.size w W) : (W.alloc o).drew.cell? ⟨b, 0, none⟩ = some v0 ∧ (W.alloc o).drew.cell? ⟨b, 1, none⟩ = some v1 ∧ (W.alloc o).drew.cell? ⟨b, 2, none⟩ = some v2 ∧ (W.alloc o).drew.cell? ⟨b, 3, none⟩ = some v3 ∧ (W.alloc o).drew.cell? ⟨b, 4, none⟩ = some v4 ∧ (W.alloc o).drew.cell? ⟨b, 5, none⟩ = some v5 ∧ (W.alloc o).drew.cell? ⟨b, 6, none⟩ = some v6 ∧ (W.alloc o).drew.cell? ⟨b, 7, none⟩ = some v7 ∧ (W.alloc o).drew.cell? ⟨b, 8, none⟩ = some v8 ∧ (W.alloc o).drew.cell? ⟨b, 9, none⟩ = some v9 ∧ (W.alloc o).drew.cell? ⟨b, 10, none⟩ = some v10 ∧ Below w.heap.size w (W.alloc o).drew := keepS h ((Below.refl _ _).alloc (Nat.le_refl _) _).drew
theorem alloc_drew_new (w : World) (cs : Array Value) (T : TypeId) : (w.alloc (.cells cs T)).drew.heap[w.heap.size]? = some (.cells cs T (0, 0)) := heap_alloc_new w _
theorem alloc_drew_size (w : World) (o : Obj) : w.heap.size ≤ (w.alloc o).drew.heap.size := ((Below.refl _ _).alloc (Nat.le_refl _) _).drew.size
theorem alloc_drew_lt (w : World) (o : Obj) : w.heap.size < (w.alloc o).drew.heap.size := by show w.heap.size < (w.alloc o).heap.size; simp
theorem keep6 {w W : World} {b t : Nat} {v0 v1 v2 v3 v4 v5 v6 v7 v8 v9 v10 x0 x1 x2 x3 x4 : Value} (hb : b < w.heap.size)
    (h : W.cell? ⟨b, 0, none⟩ = some v0 ∧ W.cell? ⟨b, 1, none⟩ = some v1 ∧ W.cell? ⟨b, 2, none⟩ = some v2 ∧ W.cell? ⟨b, 3, none⟩ = some v3 ∧ W.cell? ⟨b, 4, none⟩ = some v4 ∧ W.cell? ⟨b, 5, none⟩ = some v5 ∧ W.cell? ⟨b, 6, none⟩ = some v6 ∧ W.cell? ⟨b, 7, none⟩ = some v7 ∧ W.cell? ⟨b, 8, none⟩ = some v8 ∧ W.cell? ⟨b, 9, none⟩ = some v9 ∧ W.cell? ⟨b, 10, none⟩ = some v10 ∧ Below w.heap.size w W) (ht : w.heap.size ≤ t) : (((((W.setCell ⟨t, 0, none⟩ x0).setCell ⟨t, 1, none⟩ x1).setCell ⟨t, 2, none⟩ x2).setCell ⟨t, 3, none⟩ x3).setCell ⟨t, 4, none⟩ x4).cell? ⟨b, 0, none⟩ = some v0 ∧ (((((W.setCell ⟨t, 0, none⟩ x0).setCell ⟨t, 1, none⟩ x1).setCell ⟨t, 2, none⟩ x2).setCell ⟨t, 3, none⟩ x3).setCell ⟨t, 4, none⟩ x4).cell? ⟨b, 1, none⟩ = some v1 ∧ (((((W.setCell ⟨t, 0, none⟩ x0).setCell ⟨t, 1, none⟩ x1).setCell ⟨t, 2, none⟩ x2).setCell ⟨t, 3, none⟩ x3).setCell ⟨t, 4, none⟩ x4).cell? ⟨b, 2, none⟩ = some v2 ∧ (((((W.setCell ⟨t, 0, none⟩ x0).setCell ⟨t, 1, none⟩ x1).setCell ⟨t, 2, none⟩ x2).setCell ⟨t, 3, none⟩ x3).setCell ⟨t, 4, none⟩ x4).cell? ⟨b, 3, none⟩ = some v3 ∧ (((((W.setCell ⟨t, 0, none⟩ x0).setCell ⟨t, 1, none⟩ x1).setCell ⟨t, 2, none⟩ x2).setCell ⟨t, 3, none⟩ x3).setCell ⟨t, 4, none⟩ x4).cell? ⟨b, 4, none⟩ = some v4 ∧ (((((W.setCell ⟨t, 0, none⟩ x0).setCell ⟨t, 1, none⟩ x1).setCell ⟨t, 2, none⟩ x2).setCell ⟨t, 3, none⟩ x3).setCell ⟨t, 4, none⟩ x4).cell? ⟨b, 5, none⟩ = some v5 ∧ (((((W.setCell ⟨t, 0, none⟩ x0).setCell ⟨t, 1, none⟩ x1).setCell ⟨t, 2, none⟩ x2).setCell ⟨t, 3, none⟩ x3).setCell ⟨t, 4, none⟩ x4).cell? ⟨b, 6, none⟩ = some v6 ∧ (((((W.setCell ⟨t, 0, none⟩ x0).setCell ⟨t, 1, none⟩ x1).setCell ⟨t, 2, none⟩ x2).setCell ⟨t, 3, none⟩ x3).setCell ⟨t, 4, none⟩ x4).cell? ⟨b, 7, none⟩ = some v7 ∧ (((((W.setCell ⟨t, 0, none⟩ x0).setCell ⟨t, 1, none⟩ x1).setCell ⟨t, 2, none⟩ x2).setCell ⟨t, 3, none⟩ x3).setCell ⟨t, 4, none⟩ x4).cell? ⟨b, 8, none⟩ = some v8 ∧ (((((W.setCell ⟨t, 0, none⟩ x0).setCell ⟨t, 1, none⟩ x1).setCell ⟨t, 2, none⟩ x2).setCell ⟨t, 3, none⟩ x3).setCell ⟨t, 4, none⟩ x4).cell? ⟨b, 9, none⟩ = some v9 ∧ (((((W.setCell ⟨t, 0, none⟩ x0).setCell ⟨t, 1, none⟩ x1).setCell ⟨t, 2, none⟩ x2).setCell ⟨t, 3, none⟩ x3).setCell ⟨t, 4, none⟩ x4).cell? ⟨b, 10, none⟩ = some v10 ∧ Below w.heap.size w (((((W.setCell ⟨t, 0, none⟩ x0).setCell ⟨t, 1, none⟩ x1).setCell ⟨t, 2, none⟩ x2).setCell ⟨t, 3, none⟩ x3).setCell ⟨t, 4, none⟩ x4) := by
  obtain ⟨h0, h1, h2, h3, h4, h5, h6, h7, h8, h9, h10, hw⟩ := h
  have q : ∀ {o : Nat} {x : Value}, W.cell? ⟨b, o, none⟩ = some x → (((((W.setCell ⟨t, 0, none⟩ x0).setCell ⟨t, 1, none⟩ x1).setCell ⟨t, 2, none⟩ x2).setCell ⟨t, 3, none⟩ x3).setCell ⟨t, 4, none⟩ x4).cell? ⟨b, o, none⟩ = some x := fun {o x} e => by
    have n : ∀ j, (⟨t, j, none⟩ : Addr) ≠ ⟨b, o, none⟩ := fun j e => by injection e with e; omega
    rw [World.cell?_setCell_other _ _ _ _ (n _), World.cell?_setCell_other _ _ _ _ (n _), World.cell?_setCell_other _ _ _ _ (n _), World.cell?_setCell_other _ _ _ _ (n _), World.cell?_setCell_other _ _ _ _ (n _)]
    exact e
  exact ⟨q h0, q h1, q h2, q h3, q h4, q h5, q h6, q h7, q h8, q h9, q h10, bel_set5 hw ht _ _ _ _ _⟩
section
variable {w w0 Wc W5 : World} {b : Nat} {fv0 gv0 fv gv : Value} {S : St} {D : Dp.Dk} {a : Option Addr} {n c : Nat}
/-- The box is made behind the call. -/
theorem SyR.A (T : Ts w b fv0 gv0 fv gv S w0) (q : Below w0.heap.size w0 Wc) (k : DkS Wc fv D (.slice a n c) W5) : SyR w b fv0 gv0 fv gv S D W5.heap.size (W5.alloc (.cells #[.slice a n c, .int .i64 D.c, .bool D.a, .int .i64 D.l, .bool D.x] 27)) := by
  have h1 := T.lt
  have h2 := q.size
  have h3 := k.w.size
  have al := (Below.refl W5.heap.size W5).alloc (Nat.le_refl _) (.cells #[.slice a n c, .int .i64 D.c, .bool D.a, .int .i64 D.l, .bool D.x] 27)
  refine ⟨a, n, c, (T.keep (q.trans (k.w.mono h2))).keep al, ⟨by omega, heap_alloc_new W5 _, k.f.keep al, k.s _ (by omega) T.s.1, k.s _ (by omega) T.s.2.1, IsL.sep_new k.f (Nat.le_refl _)⟩, fun j hj h h' => k.s _ (by omega) (T.k j hj h h').1⟩
/-- The box was made ahead of the call. -/
theorem SyR.B (T : Ts w b fv0 gv0 fv gv S w0) (q : Below w0.heap.size w0 Wc) (k : DkS Wc fv D (.slice a n c) W5) {t : Nat} {x0 x1 x2 x3 x4 : Value} (hz : W5.heap[t]? = some (.cells #[x0, x1, x2, x3, x4] 27 (0, 0))) (h4 : w0.heap.size ≤ t) (h5 : t < Wc.heap.size) :
    SyR w b fv0 gv0 fv gv S D t (((((W5.setCell ⟨t, 0, none⟩ (.slice a n c)).setCell ⟨t, 1, none⟩ (.int .i64 D.c)).setCell ⟨t, 2, none⟩ (.bool D.a)).setCell ⟨t, 3, none⟩ (.int .i64 D.l)).setCell ⟨t, 4, none⟩ (.bool D.x)) := by
  have h1 := T.lt
  have h2 := q.size
  have h3 := k.w.size
  have hs : Sep (.slice a n c) t := k.s t h5 (IsL.sep_new T.f h4)
  have T5 := T.keep (q.trans (k.w.mono h2))
  have o : ∀ j, j ≠ t → ∀ o, W5.heap[j]? = some o → (set5 W5 t (.slice a n c) (.int .i64 D.c) (.bool D.a) (.int .i64 D.l) (.bool D.x)).heap[j]? = some o := fun j hj o e => five_other hj e _ _ _ _ _
  refine ⟨a, n, c, ⟨o _ (by omega) _ T5.d, o _ (by omega) _ T5.r, IsL.set5 T5.f (IsL.sep_new T.f h4) _ _ _ _ _, ?_, T5.s, T5.k, bel_set5 T5.w (by omega) _ _ _ _ _⟩, ⟨by omega, heap_set5 hz _ _ _ _ _, IsL.set5 k.f hs _ _ _ _ _, k.s _ (by omega) T.s.1, k.s _ (by omega) T.s.2.1, hs⟩, fun j hj h h' => k.s _ (by omega) (T.k j hj h h').1⟩
  exact IsL.set5 T5.g (IsL.sep_new T.g h4) _ _ _ _ _
end

end Go.Proofs.Ythhhocgpoenigaa.Sto

namespace Go.Proofs.Ythhhocgpoenigaa.Sto
open Go.RowKit Go.Proofs.Ythhhocgpoenigaa.So Go.Proofs.Ythhhocgpoenigaa.Dsk Go.Proofs.Ythhhocgpoenigaa.Rts

/-- A disk in a box, and the box of a result, a store, behind it. -/
structure Cs (w : World) (b : Nat) (fv0 fv : Value) (D : Dp.Dk) (W : World) : Prop where
  d : W.heap[b]? = some (.cells #[fv, .int .i64 D.c, .bool D.a, .int .i64 D.l, .bool D.x] 27 (0, 0))
  r : W.heap[b + 1]? = some (.cells #[.slice none 0 0, .int .i64 0, .bool false, .int .i64 0, .bool false, .int .i64 0, .slice none 0 0, .int .i64 0, .int .i64 0, .int .i64 0, .int .u32 0] 31 (0, 0))
  f : IsL FL W fv D.f
  s : Sep fv b ∧ Sep fv (b + 1)
  k : ∀ t, t < b → Sep fv0 t → Sep fv t
  w : Below b w W
section
variable {w W W' : World} {b : Nat} {fv0 fv fv' : Value} {D D' : Dp.Dk}
theorem Cs.lt (h : Cs w b fv0 fv D W) : b + 1 < W.heap.size := (Array.getElem?_eq_some_iff.1 h.r).1
theorem Cs.keep (h : Cs w b fv0 fv D W) (k : Below W.heap.size W W') : Cs w b fv0 fv D W' :=
  ⟨hkeep h.d k, hkeep h.r k, h.f.keep k, h.s, h.k, h.w.trans (k.mono (by have := h.lt; omega))⟩
/-- Another disk is laid in the variable. -/
theorem Cs.lay (h : Cs w b fv0 fv D W) (k : DkS W fv D' fv' W') :
    ∃ Z, ((((W'.setCell ⟨b, 0, none⟩ fv').setCell ⟨b, 1, none⟩ (.int .i64 D'.c)).setCell ⟨b, 2, none⟩ (.bool D'.a)).setCell ⟨b, 3, none⟩ (.int .i64 D'.l)).setCell ⟨b, 4, none⟩ (.bool D'.x) = Z ∧ Cs w b fv0 fv' D' Z ∧ (∀ j, j ≠ b → ∀ o, W'.heap[j]? = some o → Z.heap[j]? = some o) ∧ (∀ v l, IsL SL W' v l → Sep v b → IsL SL Z v l) := by
  have h1 := h.lt
  have s0 := k.s b (by omega) h.s.1
  exact ⟨_, rfl, ⟨heap_set5 (hkeep h.d k.w) _ _ _ _ _, five_other (by omega) (hkeep h.r k.w) _ _ _ _ _, IsL.set5 k.f s0 _ _ _ _ _, ⟨s0, k.s _ h1 h.s.2⟩, fun t ht hs => k.s t (by omega) (h.k t ht hs), bel_set5 (h.w.trans (k.w.mono (by omega))) (Nat.le_refl _) _ _ _ _ _⟩,
    fun j hj o e => five_other hj e _ _ _ _ _, fun v l hv hs => IsL.set5 hv hs _ _ _ _ _⟩
/-- The variable's disk is what is answered, as a store that is none. -/
theorem Cs.fin {a : Option Addr} {n c : Nat} (h : Cs w w.heap.size fv0 (.slice a n c) D W) :
    ∃ Z, ((((((((((W.setCell ⟨w.heap.size + 1, 0, none⟩ (.slice a n c)).setCell ⟨w.heap.size + 1, 1, none⟩ (.int .i64 D.c)).setCell ⟨w.heap.size + 1, 2, none⟩ (.bool D.a)).setCell ⟨w.heap.size + 1, 3, none⟩ (.int .i64 D.l)).setCell ⟨w.heap.size + 1, 4, none⟩ (.bool D.x)).setCell ⟨w.heap.size + 1, 5, none⟩ (.int .i64 0)).setCell ⟨w.heap.size + 1, 6, none⟩ (.slice none 0 0)).setCell ⟨w.heap.size + 1, 7, none⟩ (.int .i64 0)).setCell ⟨w.heap.size + 1, 8, none⟩ (.int .i64 0)).setCell ⟨w.heap.size + 1, 9, none⟩ (.int .i64 0)).setCell ⟨w.heap.size + 1, 10, none⟩ (.int .u32 0) = Z ∧
      Z.heap[w.heap.size + 1]? = some (.cells #[.slice a n c, .int .i64 D.c, .bool D.a, .int .i64 D.l, .bool D.x, .int .i64 0, .slice none 0 0, .int .i64 0, .int .i64 0, .int .i64 0, .int .u32 0] 31 (0, 0)) ∧ StS w fv0 (.slice none 0 0) ⟨D, 0, [], 0, 0, 0, 0⟩ (.slice a n c) (.slice none 0 0) Z := by
  obtain ⟨Z, h1, h2, _, h4, _, h6⟩ := set11 h.r (.slice a n c) (.int .i64 D.c) (.bool D.a) (.int .i64 D.l) (.bool D.x) (.int .i64 0) (.slice none 0 0) (.int .i64 0) (.int .i64 0) (.int .i64 0) (.int .u32 0)
  exact ⟨Z, h1, h2, h4 _ _ h.f h.s.2, IsL.nil _ none 0, fun t ht hs _ => ⟨h.k t ht hs, Sep.nil _ _ _⟩, h6 _ _ (Nat.le_succ _) h.w⟩
theorem Cs.new {W0 : World} (hf : IsL FL w fv D.f) (e : (w.alloc (.cells #[fv, .int .i64 D.c, .bool D.a, .int .i64 D.l, .bool D.x] 27)).alloc (.cells #[.slice none 0 0, .int .i64 0, .bool false, .int .i64 0, .bool false, .int .i64 0, .slice none 0 0, .int .i64 0, .int .i64 0, .int .i64 0, .int .u32 0] 31) = W0) : Cs w w.heap.size fv fv D W0 := by
  obtain ⟨g0, g1, gb, gs⟩ := boxes2 w #[fv, .int .i64 D.c, .bool D.a, .int .i64 D.l, .bool D.x] #[.slice none 0 0, .int .i64 0, .bool false, .int .i64 0, .bool false, .int .i64 0, .slice none 0 0, .int .i64 0, .int .i64 0, .int .i64 0, .int .u32 0] 27 31
  rw [e] at g0 g1 gb gs
  exact ⟨g0, g1, hf.keep gb, ⟨IsL.sep_new hf (Nat.le_refl _), IsL.sep_new hf (by omega)⟩, fun _ _ a => a, gb⟩
end

/-- Beside them a new store in a box of its own. -/
structure Cx (w : World) (b x : Nat) (fv0 fv fv1 gv : Value) (D D1 : Dp.Dk) (W : World) : Prop where
  c : Cs w b fv0 fv D W
  o : W.heap[x]? = some (.cells #[fv1, .int .i64 D1.c, .bool D1.a, .int .i64 D1.l, .bool D1.x, .int .i64 1, gv, .int .i64 0, .int .i64 0, .int .i64 0, .int .u32 0] 31 (0, 0))
  g : IsL SL W gv [⟨0, 0, 0⟩]
  lt : b + 1 < x
  s : Sep fv x ∧ Sep gv b ∧ Sep gv (b + 1) ∧ Sep gv x
  k : ∀ t, t < b → Sep gv t
section
variable {w W W' : World} {b x : Nat} {fv0 fv fv1 fv' gv : Value} {D D1 D' : Dp.Dk}
theorem Cx.keep (h : Cx w b x fv0 fv fv1 gv D D1 W) (k : Below W.heap.size W W') : Cx w b x fv0 fv fv1 gv D D1 W' := ⟨h.c.keep k, hkeep h.o k, h.g.keep k, h.lt, h.s, h.k⟩
theorem Cx.new (h : Cs w b fv0 fv D W) : Cx w b (W.heap.size + 1) fv0 fv fv (.slice (some ⟨W.heap.size, 0, none⟩) 1 1) D D ((W.alloc (.cells #[.int .i64 0, .int .i64 0, .int .i64 0] 49)).alloc (.cells #[fv, .int .i64 D.c, .bool D.a, .int .i64 D.l, .bool D.x, .int .i64 1, (.slice (some ⟨W.heap.size, 0, none⟩) 1 1), .int .i64 0, .int .i64 0, .int .i64 0, .int .u32 0] 31)) := by
  have h1 := h.lt
  have a1 := (Below.refl W.heap.size W).alloc (Nat.le_refl _) (.cells #[.int .i64 0, .int .i64 0, .int .i64 0] 49)
  have hx := heap_alloc_new (W.alloc (.cells #[.int .i64 0, .int .i64 0, .int .i64 0] 49)) (.cells #[fv, .int .i64 D.c, .bool D.a, .int .i64 D.l, .bool D.x, .int .i64 1, (.slice (some ⟨W.heap.size, 0, none⟩) 1 1), .int .i64 0, .int .i64 0, .int .i64 0, .int .u32 0] 31)
  rw [show (W.alloc (.cells #[.int .i64 0, .int .i64 0, .int .i64 0] 49)).heap.size = W.heap.size + 1 from by simp] at hx
  have g1 : IsL SL (W.alloc (.cells #[.int .i64 0, .int .i64 0, .int .i64 0] 49)) (.slice (some ⟨W.heap.size, 0, none⟩) 1 1) [⟨0, 0, 0⟩] := by
    refine ⟨_, 1, rfl, ⟨(by decide : 1 ≤ maxLen), Nat.le_refl 1⟩, fun y hy => ?_, .inr ⟨W.heap.size, 0, rfl, fun j u hj => ?_⟩⟩
    · rw [List.mem_singleton] at hy
      subst hy
      exact ⟨⟨by decide, by decide⟩, ⟨by decide, by decide⟩, ⟨by decide, by decide⟩⟩
    · have := news_new W W.heap.size [.int .i64 0, .int .i64 0, .int .i64 0] 49 rfl j u hj
      rwa [addr_plain] at this
  have a2 := (Below.refl _ (W.alloc (.cells #[.int .i64 0, .int .i64 0, .int .i64 0] 49))).alloc (Nat.le_refl _) (.cells #[fv, .int .i64 D.c, .bool D.a, .int .i64 D.l, .bool D.x, .int .i64 1, (.slice (some ⟨W.heap.size, 0, none⟩) 1 1), .int .i64 0, .int .i64 0, .int .i64 0, .int .u32 0] 31)
  have ne : ∀ t, t ≠ W.heap.size → Sep (.slice (some ⟨W.heap.size, 0, none⟩) 1 1) t := fun t ht a k c e _ => by injection e with e _ _; injection e with e; rw [← e]; exact fun e' => ht e'.symm
  exact ⟨(h.keep a1).keep a2, hx, g1.keep a2, by omega, ⟨IsL.sep_new h.f (by omega), ne _ (by omega), ne _ (by omega), ne _ (by omega)⟩, fun t ht => ne _ (by omega)⟩
theorem Cx.lay (h : Cx w b x fv0 fv fv1 gv D D1 W) (k : DkS W fv D' fv' W') : ∃ Z, ((((W'.setCell ⟨b, 0, none⟩ fv').setCell ⟨b, 1, none⟩ (.int .i64 D'.c)).setCell ⟨b, 2, none⟩ (.bool D'.a)).setCell ⟨b, 3, none⟩ (.int .i64 D'.l)).setCell ⟨b, 4, none⟩ (.bool D'.x) = Z ∧ Cx w b x fv0 fv' fv1 gv D' D1 Z := by
  obtain ⟨Z, h1, h2, h3, h4⟩ := h.c.lay k
  have hx : x < W.heap.size := (Array.getElem?_eq_some_iff.1 h.o).1
  have := h.lt
  exact ⟨Z, h1, h2, h3 x (by omega) _ (hkeep h.o k.w), h4 _ _ (h.g.keep k.w) h.s.2.1, h.lt, ⟨k.s x hx h.s.1, h.s.2⟩, h.k⟩
theorem Cx.disk (h : Cx w b x fv0 fv fv1 gv D D1 W) : ∃ Z, ((((W.setCell ⟨x, 0, none⟩ fv).setCell ⟨x, 1, none⟩ (.int .i64 D.c)).setCell ⟨x, 2, none⟩ (.bool D.a)).setCell ⟨x, 3, none⟩ (.int .i64 D.l)).setCell ⟨x, 4, none⟩ (.bool D.x) = Z ∧ Z.heap[x]? = some (.cells #[fv, .int .i64 D.c, .bool D.a, .int .i64 D.l, .bool D.x, .int .i64 1, gv, .int .i64 0, .int .i64 0, .int .i64 0, .int .u32 0] 31 (0, 0)) ∧ Z.heap[b + 1]? = some (.cells #[.slice none 0 0, .int .i64 0, .bool false, .int .i64 0, .bool false, .int .i64 0, .slice none 0 0, .int .i64 0, .int .i64 0, .int .i64 0, .int .u32 0] 31 (0, 0)) ∧ IsL FL Z fv D.f ∧ IsL SL Z gv [⟨0, 0, 0⟩] ∧ Below b w Z := by
  have := h.lt
  exact ⟨_, rfl, heap_setCell_same _ _ 4 _ _ _ (heap_setCell_same _ _ 3 _ _ _ (heap_setCell_same _ _ 2 _ _ _ (heap_setCell_same _ _ 1 _ _ _ (heap_setCell_same _ _ 0 _ _ _ h.o)))), five_other (by omega) h.c.r _ _ _ _ _, IsL.set5 h.c.f h.s.1 _ _ _ _ _, IsL.set5 h.g h.s.2.2.2 _ _ _ _ _, bel_set5 h.c.w (by omega) _ _ _ _ _⟩
end
theorem stb1 {D : Dp.Dk} (h : Sm D) : Stb ⟨D, 1, [⟨0, 0, 0⟩], 0, 0, 0, 0⟩ :=
  have h0 : (0 : Int) ≤ 0 ∧ (0 : Int) ≤ 1152921504606846976 := ⟨by decide, by decide⟩
  have h1 : (0 : Int) ≤ 1 ∧ (1 : Int) ≤ 1152921504606846976 := ⟨by decide, by decide⟩
  have h2 : (0 : Int) ≤ 0 ∧ (0 : Int) < 4294967296 := ⟨by decide, by decide⟩
  ⟨h, h1, (by decide : 1 ≤ 1000), fun g hg => by rw [List.mem_singleton] at hg; subst hg; exact ⟨h0, h0, h0⟩, h0, h0, h0, h2⟩

end Go.Proofs.Ythhhocgpoenigaa.Sto

namespace Go.Proofs.Ythhhocgpoenigaa.Sto
open Go.RowKit Go.Proofs.Ythhhocgpoenigaa.So Go.Proofs.Ythhhocgpoenigaa.Dsk Go.Proofs.Ythhhocgpoenigaa.Rts

section
variable {w W W' : World} {b : Nat} {fv0 gv0 fv gv fv' gv' : Value} {S T : St}
end

theorem seg_size {x : Int} (h : 0 ≤ x ∧ x ≤ 1099511627776) : (segN x).size ≤ 3000 := by
  obtain ⟨n, rfl⟩ : ∃ n : Nat, x = (n : Int) := ⟨x.toNat, by omega⟩
  show (Np.nameL 115 ((n : Nat) : Int)).toArray.size ≤ 3000
  rw [List.size_toArray, Np.name_len 115 (by omega)]
  omega
theorem syncT_facts (S : St) {k : Nat} (h : Bd S.d k) {T : St} {E0 : Int} (e : syncT S = (T, E0)) : Bd T.d (k + 1) ∧ T.g = S.g ∧ T.x = S.x ∧ T.v = S.v ∧ T.z = S.z ∧ T.c = S.c ∧ (T.s = S.x ∨ T.s = S.s) := by
  unfold syncT at e
  injection e with e1 e2
  subst e1
  exact ⟨bd_sync h _, rfl, rfl, rfl, rfl, rfl, by dsimp only; split <;> simp⟩
theorem roll_full {S : St} (h : 64 ≤ S.g.length) : roll S = (S, 9) := by unfold roll; rw [if_pos h]
theorem roll_sync {S T : St} {E0 : Int} (h : ¬ 64 ≤ S.g.length) (e : syncT S = (T, E0)) (hz : E0 ≠ 0) : roll S = (T, E0) := by unfold roll; rw [if_neg h, e, if_pos hz]
theorem roll_create {S T : St} {C1 : Dp.Dk} {E1 : Int} (h : ¬ 64 ≤ S.g.length) (e : syncT S = (T, 0)) (hc : Dp.create T.d (segN T.x) = (C1, E1)) (hz : E1 ≠ 0) : roll S = ({ T with d := C1 }, E1) := by
  unfold roll
  rw [if_neg h, e, if_neg (by simp)]
  dsimp only
  rw [hc, if_pos hz]

section
variable {S T : St} {C1 W1 X1 : Dp.Dk} {E2 E3 : Int}
theorem roll_nine (h : ¬ 64 ≤ S.g.length) (e : syncT S = (T, 0)) (hc : Dp.create T.d (segN T.x) = (C1, 0)) (hw : swap C1 (man (more T C1)) = (W1, 9)) (hd : Dp.delete W1 (segN T.x) = (X1, E3)) : roll S = ({ T with d := X1 }, if E3 = 0 then 9 else E3) := by
  unfold roll
  rw [if_neg h, e, if_neg (by simp)]
  dsimp only
  rw [hc, if_neg (by simp)]
  dsimp only
  rw [hw, if_pos rfl]
  dsimp only
  rw [hd]
theorem roll_err (h : ¬ 64 ≤ S.g.length) (e : syncT S = (T, 0)) (hc : Dp.create T.d (segN T.x) = (C1, 0)) (hw : swap C1 (man (more T C1)) = (W1, E2)) (h9 : E2 ≠ 9) (hz : E2 ≠ 0) : roll S = ({ T with d := W1 }, E2) := by
  unfold roll
  rw [if_neg h, e, if_neg (by simp)]
  dsimp only
  rw [hc, if_neg (by simp)]
  dsimp only
  rw [hw, if_neg h9, if_pos hz]
theorem roll_ok (h : ¬ 64 ≤ S.g.length) (e : syncT S = (T, 0)) (hc : Dp.create T.d (segN T.x) = (C1, 0)) (hw : swap C1 (man (more T C1)) = (W1, 0)) : roll S = (more T W1, 0) := by
  unfold roll
  rw [if_neg h, e, if_neg (by simp)]
  dsimp only
  rw [hc, if_neg (by simp)]
  dsimp only
  rw [hw, if_neg (by simp), if_neg (by simp)]
end
theorem bd_swapS {D : Dp.Dk} {k : Nat} (h : Bd D k) {s : ByteArray} (hs : s.size ≤ 3000) : Bd (swapS D s).1 (k + 4) := by
  have h1 := bd_create h nn
  have h2 := bd_append h1 nn hs
  have h3 := bd_sync h2 nn
  have h4 := bd_rename h3 nn (m := nm) (by decide)
  have h5 := bd_delete h2 nn
  unfold swapS
  split
  · exact h1.mono (by omega)
  · split
    · exact h5.mono (by omega)
    · split
      · exact h2.mono (by omega)
      · split
        · exact h3.mono (by omega)
        · exact h4
theorem put_size (m : Qm.Mn) : (⟨(Qm.putM m).1.toArray⟩ : ByteArray).size ≤ 3000 := by
  by_cases h : Qm.Ok m
  · rw [Qm.putM_yes h]; exact man_size h
  · rw [Qm.putM_no h]; decide
theorem bd_swap {D : Dp.Dk} {k : Nat} (h : Bd D k) (m : Qm.Mn) : Bd (swap D m).1 (k + 5) := by
  have hs := put_size m
  unfold swap
  split
  · exact h.mono (by omega)
  · split
    · split
      · exact (bd_delete h nn).mono (by omega)
      · exact bd_swapS (bd_delete h nn) hs
    · exact (bd_swapS h hs).mono (by omega)
theorem man_more {T : St} {D : Dp.Dk} (hT : 0 ≤ T.v ∧ T.v ≤ 1152921504606846976) (hz : 0 ≤ T.z ∧ T.z ≤ 1152921504606846976) (hc : 0 ≤ T.c ∧ T.c < 4294967296) : Mfs.MnB (man (more T D)) :=
  ⟨by show -9223372036854775808 ≤ T.v + 1 ∧ T.v + 1 ≤ 9223372036854775807; omega, by show -9223372036854775808 ≤ T.z ∧ T.z ≤ 9223372036854775807; omega, hc⟩

/-- Beside a store in its box another one, in a box of its own: of another version, of other segments. -/
structure Tx (w : World) (b x : Nat) (fv0 gv0 fv gv fx gx : Value) (S : St) (ver : Int) (l : List Rt.Sg) (W : World) : Prop where
  t : Ts w b fv0 gv0 fv gv S W
  o : W.heap[x]? = some (.cells #[fx, .int .i64 S.d.c, .bool S.d.a, .int .i64 S.d.l, .bool S.d.x, .int .i64 ver, gx, .int .i64 S.x, .int .i64 S.s, .int .i64 S.z, .int .u32 S.c] 31 (0, 0))
  g : IsL SL W gx l
  lt : b + 1 < x
  s : Sep fv x ∧ Sep gv x ∧ Sep gx b ∧ Sep gx (b + 1) ∧ Sep gx x
  k : ∀ t, t < b → Sep fv0 t → Sep gv0 t → Sep gx t
section
variable {w W W' : World} {b x : Nat} {fv0 gv0 fv gv fx gx gx' : Value} {S : St} {ver : Int} {l l' : List Rt.Sg}
theorem Tx.keep (h : Tx w b x fv0 gv0 fv gv fx gx S ver l W) (k : Below W.heap.size W W') : Tx w b x fv0 gv0 fv gv fx gx S ver l W' := ⟨h.t.keep k, hkeep h.o k, h.g.keep k, h.lt, h.s, h.k⟩
theorem Tx.new (h : Ts w b fv0 gv0 fv gv S W) : Tx w b W.heap.size fv0 gv0 fv gv fv gv S S.v S.g (W.alloc (.cells #[fv, .int .i64 S.d.c, .bool S.d.a, .int .i64 S.d.l, .bool S.d.x, .int .i64 S.v, gv, .int .i64 S.x, .int .i64 S.s, .int .i64 S.z, .int .u32 S.c] 31)) := by
  have al := (Below.refl W.heap.size W).alloc (Nat.le_refl _) (.cells #[fv, .int .i64 S.d.c, .bool S.d.a, .int .i64 S.d.l, .bool S.d.x, .int .i64 S.v, gv, .int .i64 S.x, .int .i64 S.s, .int .i64 S.z, .int .u32 S.c] 31)
  exact ⟨h.keep al, heap_alloc_new W _, h.g.keep al, h.lt, ⟨IsL.sep_new h.f (Nat.le_refl _), IsL.sep_new h.g (Nat.le_refl _), h.s.2.2.1, h.s.2.2.2, IsL.sep_new h.g (Nat.le_refl _)⟩, fun t ht a c => (h.k t ht a c).2⟩
theorem Ts.cell (h : Ts w b fv0 gv0 fv gv S W) (hx : b + 1 < x) (s1 : Sep fv x) (s2 : Sep gv x) (o : Nat) (v : Value) : Ts w b fv0 gv0 fv gv S (W.setCell ⟨x, o, none⟩ v) :=
  ⟨(Below.heap_setCell _ _ _ _ (fun e => by have e : b = x := e; omega)).trans h.d, (Below.heap_setCell _ _ _ _ (fun e => by have e : b + 1 = x := e; omega)).trans h.r, IsL.setC h.f s1 _ _, IsL.setC h.g s2 _ _, h.s, h.k, h.w.setCell (p := ⟨x, o, none⟩) (by show b ≤ x; omega) _⟩
end

end Go.Proofs.Ythhhocgpoenigaa.Sto

namespace Go.Proofs.Ythhhocgpoenigaa.Sto
open Go.RowKit Go.Proofs.Ythhhocgpoenigaa.So Go.Proofs.Ythhhocgpoenigaa.Dsk Go.Proofs.Ythhhocgpoenigaa.Rts

section
variable {w0 W W' : World}
/-- What was there ahead of a region, through it. -/
theorem KW.of (h : Below w0.heap.size w0 W) : (∀ b o, b < w0.heap.size → W.cell? ⟨b, o, none⟩ = w0.cell? ⟨b, o, none⟩) ∧ Below w0.heap.size w0 W := ⟨fun b o hb => h.cell (p := ⟨b, o, none⟩) hb, h⟩
theorem KW.start (w0 : World) : (∀ b o, b < w0.heap.size → w0.cell? ⟨b, o, none⟩ = w0.cell? ⟨b, o, none⟩) ∧ Below w0.heap.size w0 w0 := KW.of (Below.refl _ _)
theorem KW.dr (w0 : World) : (∀ b o, b < w0.heap.size → w0.drew.cell? ⟨b, o, none⟩ = w0.cell? ⟨b, o, none⟩) ∧ Below w0.heap.size w0 w0.drew := KW.of (Below.refl _ _).drew
theorem KW.keep (h : (∀ b o, b < w0.heap.size → W.cell? ⟨b, o, none⟩ = w0.cell? ⟨b, o, none⟩) ∧ Below w0.heap.size w0 W) (k : Below W.heap.size W W') : (∀ b o, b < w0.heap.size → W'.cell? ⟨b, o, none⟩ = w0.cell? ⟨b, o, none⟩) ∧ Below w0.heap.size w0 W' := KW.of (h.2.trans (k.mono h.2.size))
theorem KW.al (h : (∀ b o, b < w0.heap.size → W.cell? ⟨b, o, none⟩ = w0.cell? ⟨b, o, none⟩) ∧ Below w0.heap.size w0 W) {o : Obj} : (∀ b i, b < w0.heap.size → (W.alloc o).cell? ⟨b, i, none⟩ = w0.cell? ⟨b, i, none⟩) ∧ Below w0.heap.size w0 (W.alloc o) := KW.of (h.2.alloc h.2.size o)
theorem KW.ad (h : (∀ b o, b < w0.heap.size → W.cell? ⟨b, o, none⟩ = w0.cell? ⟨b, o, none⟩) ∧ Below w0.heap.size w0 W) {o : Obj} : (∀ b i, b < w0.heap.size → (W.alloc o).drew.cell? ⟨b, i, none⟩ = w0.cell? ⟨b, i, none⟩) ∧ Below w0.heap.size w0 (W.alloc o).drew := KW.of (h.2.alloc h.2.size o).drew
theorem KW.st5 (h : (∀ b o, b < w0.heap.size → W.cell? ⟨b, o, none⟩ = w0.cell? ⟨b, o, none⟩) ∧ Below w0.heap.size w0 W) {t : Nat} {x0 x1 x2 x3 x4 : Value} (ht : w0.heap.size ≤ t) : (∀ b i, b < w0.heap.size → (((((W.setCell ⟨t, 0, none⟩ x0).setCell ⟨t, 1, none⟩ x1).setCell ⟨t, 2, none⟩ x2).setCell ⟨t, 3, none⟩ x3).setCell ⟨t, 4, none⟩ x4).cell? ⟨b, i, none⟩ = w0.cell? ⟨b, i, none⟩) ∧ Below w0.heap.size w0 (((((W.setCell ⟨t, 0, none⟩ x0).setCell ⟨t, 1, none⟩ x1).setCell ⟨t, 2, none⟩ x2).setCell ⟨t, 3, none⟩ x3).setCell ⟨t, 4, none⟩ x4) :=
  KW.of (bel_set5 h.2 ht _ _ _ _ _)
/-- The world ahead of a call, told by the call's own frame. -/
theorem KW.at (h : (∀ b o, b < w0.heap.size → W.cell? ⟨b, o, none⟩ = w0.cell? ⟨b, o, none⟩) ∧ Below w0.heap.size w0 W) (_ : Below W.heap.size W W') : Below w0.heap.size w0 W := h.2
theorem KW.bel (h : (∀ b o, b < w0.heap.size → W.cell? ⟨b, o, none⟩ = w0.cell? ⟨b, o, none⟩) ∧ Below w0.heap.size w0 W) : Below w0.heap.size w0 W := h.2
end

end Go.Proofs.Ythhhocgpoenigaa.Sto
