/-
  What disk's change answers, whatever the step.
-/
import Derived.Test.YtbkiecjbjehaoaaDiskVal
namespace Go.Proofs.Ytbkiecjbjehaoaa.Dsk
open Go.RowKit Go.Proofs.Ytbkiecjbjehaoaa.Dp

theorem made_func (fn : Fn) (first cap : Array Value) (w : World) : (Instr.makeFunc fn first cap).run Try.prog w = .ok (.func fn first cap) w := rfl
/-- A block stays while old blocks do; its cells. -/
theorem hkeep {W W' : World} {k : Nat} {o : Obj} (h : W.heap[k]? = some o) (b : Below W.heap.size W W') : W'.heap[k]? = some o := by
  rw [b.block k (Array.getElem?_eq_some_iff.1 h).1]
  exact h
theorem halloc {w : World} {o : Obj} {k : Nat} {x : Obj} (h : w.heap[k]? = some x) : (w.alloc o).heap[k]? = some x := by
  rw [Lib.alloc_old w o k (Array.getElem?_eq_some_iff.1 h).1]
  exact h
theorem cells1 {W : World} {k : Nat} {T : TypeId} {x : Value} (h : W.heap[k]? = some (.cells #[x] T (0, 0))) : W.cell? ⟨k, 0, none⟩ = some x ∧ W.frozen? ⟨k, 0, none⟩ = false := ⟨by rw [Lib.cell_of_heap h]; rfl, Lib.frozen_of_heap h 0⟩
theorem cells3 {W : World} {k : Nat} {T : TypeId} {x y z : Value} (h : W.heap[k]? = some (.cells #[x, y, z] T (0, 0))) : W.cell? ⟨k, 0, none⟩ = some x ∧ W.cell? ⟨k, 1, none⟩ = some y ∧ W.cell? ⟨k, 2, none⟩ = some z :=
  ⟨by rw [Lib.cell_of_heap h]; rfl, by rw [Lib.cell_of_heap h]; rfl, by rw [Lib.cell_of_heap h]; rfl⟩
theorem frozen3 {W : World} {k : Nat} {T : TypeId} {cs : Array Value} (h : W.heap[k]? = some (.cells cs T (0, 0))) : W.frozen? ⟨k, 0, none⟩ = false ∧ W.frozen? ⟨k, 1, none⟩ = false ∧ W.frozen? ⟨k, 2, none⟩ = false :=
  ⟨Lib.frozen_of_heap h 0, Lib.frozen_of_heap h 1, Lib.frozen_of_heap h 2⟩
theorem cells5 {W : World} {k : Nat} {T : TypeId} {x y z u v : Value} (h : W.heap[k]? = some (.cells #[x, y, z, u, v] T (0, 0))) :
    W.cell? ⟨k, 0, none⟩ = some x ∧ W.cell? ⟨k, 1, none⟩ = some y ∧ W.cell? ⟨k, 2, none⟩ = some z ∧ W.cell? ⟨k, 3, none⟩ = some u ∧ W.cell? ⟨k, 4, none⟩ = some v :=
  ⟨by rw [Lib.cell_of_heap h]; rfl, by rw [Lib.cell_of_heap h]; rfl, by rw [Lib.cell_of_heap h]; rfl, by rw [Lib.cell_of_heap h]; rfl, by rw [Lib.cell_of_heap h]; rfl⟩
theorem frozen5 {W : World} {k : Nat} {T : TypeId} {cs : Array Value} (h : W.heap[k]? = some (.cells cs T (0, 0))) :
    W.frozen? ⟨k, 0, none⟩ = false ∧ W.frozen? ⟨k, 1, none⟩ = false ∧ W.frozen? ⟨k, 2, none⟩ = false ∧ W.frozen? ⟨k, 3, none⟩ = false ∧ W.frozen? ⟨k, 4, none⟩ = false :=
  ⟨Lib.frozen_of_heap h 0, Lib.frozen_of_heap h 1, Lib.frozen_of_heap h 2, Lib.frozen_of_heap h 3, Lib.frozen_of_heap h 4⟩
/-- An own row stays while cells of elder blocks are written. -/
theorem own_old {α : Type} {Y : Lay α} {W : World} {base : Nat} {v : Value} {l : List α} (h : OwnL Y W base v l) {k o : Nat} (hk : k < base) (x : Value) : OwnL Y (W.setCell ⟨k, o, none⟩ x) base v l := by
  refine ⟨h.1, ?_⟩
  rcases h.2 with h0 | ⟨g, cap, cur, h1, hb, hg, h2⟩
  · exact .inl h0
  · exact .inr ⟨g, cap, cur, h1, hb, by rw [heap_setCell_other _ _ _ _ (by show g ≠ k; omega)]; exact hg, h2⟩
/-- Two new blocks, one behind the other. -/
theorem boxes2 (w : World) (A B : Array Value) (T U : TypeId) : ((w.alloc (.cells A T)).alloc (.cells B U)).heap[w.heap.size]? = some (.cells A T (0, 0)) ∧ ((w.alloc (.cells A T)).alloc (.cells B U)).heap[w.heap.size + 1]? = some (.cells B U (0, 0)) ∧
    Below w.heap.size w ((w.alloc (.cells A T)).alloc (.cells B U)) ∧ ((w.alloc (.cells A T)).alloc (.cells B U)).heap.size = w.heap.size + 2 := by
  refine ⟨halloc (heap_alloc_new w _), ?_, ((Below.refl _ _).alloc (Nat.le_refl _) _).alloc (by simp) _, by simp⟩
  have := heap_alloc_new (w.alloc (.cells A T)) (.cells B U)
  rwa [show (w.alloc (.cells A T)).heap.size = w.heap.size + 1 from by simp] at this
theorem boxes3 (w : World) (A B C : Array Value) (T U V : TypeId) : (((w.alloc (.cells A T)).alloc (.cells B U)).alloc (.cells C V)).heap[w.heap.size]? = some (.cells A T (0, 0)) ∧ (((w.alloc (.cells A T)).alloc (.cells B U)).alloc (.cells C V)).heap[w.heap.size + 1]? = some (.cells B U (0, 0)) ∧
    (((w.alloc (.cells A T)).alloc (.cells B U)).alloc (.cells C V)).heap[w.heap.size + 1 + 1]? = some (.cells C V (0, 0)) ∧
    Below w.heap.size w (((w.alloc (.cells A T)).alloc (.cells B U)).alloc (.cells C V)) ∧ (((w.alloc (.cells A T)).alloc (.cells B U)).alloc (.cells C V)).heap.size = w.heap.size + 3 := by
  obtain ⟨h0, h1, hb, hs⟩ := boxes2 w A B T U
  refine ⟨halloc h0, halloc h1, ?_, hb.alloc hb.size _, by simp⟩
  have := heap_alloc_new ((w.alloc (.cells A T)).alloc (.cells B U)) (.cells C V)
  rwa [hs] at this
theorem boxes4 (w : World) (A B C D : Array Value) (T U V X : TypeId) : ((((w.alloc (.cells A T)).alloc (.cells B U)).alloc (.cells C V)).alloc (.cells D X)).heap[w.heap.size]? = some (.cells A T (0, 0)) ∧ ((((w.alloc (.cells A T)).alloc (.cells B U)).alloc (.cells C V)).alloc (.cells D X)).heap[w.heap.size + 1]? = some (.cells B U (0, 0)) ∧
    ((((w.alloc (.cells A T)).alloc (.cells B U)).alloc (.cells C V)).alloc (.cells D X)).heap[w.heap.size + 1 + 1]? = some (.cells C V (0, 0)) ∧ ((((w.alloc (.cells A T)).alloc (.cells B U)).alloc (.cells C V)).alloc (.cells D X)).heap[w.heap.size + 1 + 1 + 1]? = some (.cells D X (0, 0)) ∧
    Below w.heap.size w ((((w.alloc (.cells A T)).alloc (.cells B U)).alloc (.cells C V)).alloc (.cells D X)) ∧ ((((w.alloc (.cells A T)).alloc (.cells B U)).alloc (.cells C V)).alloc (.cells D X)).heap.size = w.heap.size + 4 := by
  obtain ⟨h0, h1, h2, hb, hs⟩ := boxes3 w A B C T U V
  refine ⟨halloc h0, halloc h1, halloc h2, ?_, hb.alloc hb.size _, by simp⟩
  have := heap_alloc_new (((w.alloc (.cells A T)).alloc (.cells B U)).alloc (.cells C V)) (.cells D X)
  rwa [hs] at this
/-- Three cells of a block. -/
def set3 (W : World) (k : Nat) (x y z : Value) : World := ((W.setCell ⟨k, 0, none⟩ x).setCell ⟨k, 1, none⟩ y).setCell ⟨k, 2, none⟩ z
theorem heap_set3 {W : World} {k : Nat} {T : TypeId} {a b c : Value} (h : W.heap[k]? = some (.cells #[a, b, c] T (0, 0))) (x y z : Value) : (set3 W k x y z).heap[k]? = some (.cells #[x, y, z] T (0, 0)) :=
  heap_setCell_same _ _ 2 _ _ z (heap_setCell_same _ _ 1 _ _ y (heap_setCell_same _ _ 0 _ _ x h))
theorem bel_st3 {base k : Nat} {w W : World} (h : Below base w W) (hk : base ≤ k) (x y z : Value) : Below base w (set3 W k x y z) :=
  ((h.setCell (p := ⟨k, 0, none⟩) hk x).setCell (p := ⟨k, 1, none⟩) hk y).setCell (p := ⟨k, 2, none⟩) hk z
/-- Five cells of a block. -/
def set5 (W : World) (k : Nat) (x y z u v : Value) : World := ((((W.setCell ⟨k, 0, none⟩ x).setCell ⟨k, 1, none⟩ y).setCell ⟨k, 2, none⟩ z).setCell ⟨k, 3, none⟩ u).setCell ⟨k, 4, none⟩ v
theorem bel_set5 {base k : Nat} {w W : World} (h : Below base w W) (hk : base ≤ k) (x y z u v : Value) : Below base w (set5 W k x y z u v) :=
  ((((h.setCell (p := ⟨k, 0, none⟩) hk x).setCell (p := ⟨k, 1, none⟩) hk y).setCell (p := ⟨k, 2, none⟩) hk z).setCell (p := ⟨k, 3, none⟩) hk u).setCell (p := ⟨k, 4, none⟩) hk v
theorem own_set5 {α : Type} {Y : Lay α} {W : World} {base : Nat} {v : Value} {l : List α} (h : OwnL Y W base v l) {k : Nat} (hk : k < base) (x y z u t : Value) : OwnL Y (set5 W k x y z u t) base v l :=
  own_old (own_old (own_old (own_old (own_old h hk _) hk _) hk _) hk _) hk _

/-- A change whose disk is laid in a block of this call's own. -/
theorem res_set5 {w w0 w1 : World} {fv v : Value} {l0 : List Fl} {R : Dk} (h : DkRes w0 fv l0 R v w1) (hb : Below w.heap.size w w0) {k : Nat} (h1 : w.heap.size ≤ k) (h2 : k < w0.heap.size) (x y z u t : Value) : DkRes w fv l0 R v (set5 w1 k x y z u t) := by
  refine ⟨?_, h.b, h.f, h.n, bel_set5 (hb.trans (h.w.mono hb.size)) h1 _ _ _ _ _⟩
  rcases h.k with k0 | k0
  · exact .inl k0
  · exact .inr (own_base (own_set5 k0 h2 _ _ _ _ _) hb.size)

set_option maxRecDepth 100000 in
set_option maxHeartbeats 3200000 in
theorem change_any (N : Nat) (caps : Array Value) (fv : Value) (D : Dk) (l : List Fl) (own : Int) (w : World) (hv : IsL FL w fv D.f) (hD : DkB D) (h0 : 0 ≤ D.l) (hl : D.f.length ≤ 1000000000)
    (hr : own = 0 → l.length ≤ 1000000001 ∧ ∀ f ∈ l, FlB f)
    (EN : ∀ args w, (callFunc N args).run Try.prog w = .ok (.enter N args) w)
    (C : ∀ base v W, OwnL FL W base v D.f → w.heap.size ≤ base → base ≤ W.heap.size → Below w.heap.size w W → Calls Try.prog N (#[v] ++ caps) W (StepOut W base l own)) :
    Calls Try.prog 44 #[.agg #[fv, .int .i64 D.c, .bool D.a, .int .i64 D.l, .bool D.x], .func (.func N) #[] caps] w (DkOut w fv D.f (change D l own)) := by
  obtain ⟨fa, fn, fc, rfl⟩ : ∃ a n c, fv = .slice a n c := by obtain ⟨a, c, h, _⟩ := hv; exact ⟨a, _, c, h⟩
  have HC := Lib.hid C
  have HE := Lib.hid EN
  have K := Lib.hid (fun (W : World) (h : IsL FL W (.slice fa fn fc) D.f) => clone_any (.slice fa fn fc) D.f W h (by omega))
  have HV := Lib.hid hv
  have HK := Lib.hid (show (∀ f ∈ D.f, FlB f) ∧ D.f.length ≤ 1000000001 from ⟨hv.ok, by omega⟩)
  have HR := Lib.hid hr
  obtain ⟨⟨hc1, hc2⟩, hl1, hl2⟩ := hD
  clear C hv hr hl EN
  obtain ⟨f, c, a, d, x⟩ := D
  dsimp only at *
  have key : Hid (x = true ∧ change ⟨f, c, a, d, x⟩ l own = (⟨f, c, a, d, true⟩, 10)) ∨ Hid (x = false ∧ own ≠ 0 ∧ change ⟨f, c, a, d, x⟩ l own = (⟨f, c, a, d, false⟩, own)) ∨ Hid (x = false ∧ own = 0 ∧ a = true ∧ d = 0 ∧ change ⟨f, c, a, d, x⟩ l own = (⟨f, c, true, 0, true⟩, 10)) ∨
      Hid (x = false ∧ own = 0 ∧ a = true ∧ d ≠ 0 ∧ change ⟨f, c, a, d, x⟩ l own = (⟨l, c, true, d - 1, false⟩, 0)) ∨ Hid (x = false ∧ own = 0 ∧ a = false ∧ change ⟨f, c, a, d, x⟩ l own = (⟨l, c, false, d, false⟩, 0)) := by
    rcases change_cases ⟨f, c, a, d, x⟩ l own with ⟨e, h1⟩ | ⟨e, h1, h2⟩ | ⟨e, h1, h2, h3, h4⟩ | ⟨e, h1, h2, h3, h4⟩ | ⟨e, h1, h2, h3⟩
    · exact .inl ⟨h1, by rw [e]; simp_all⟩
    · exact .inr (.inl ⟨h2, h1, by rw [e]; simp_all⟩)
    · exact .inr (.inr (.inl ⟨h2, h1, h3, h4, by rw [e]; simp_all⟩))
    · exact .inr (.inr (.inr (.inl ⟨h2, h1, h3, h4, by rw [e]; simp_all⟩)))
    · exact .inr (.inr (.inr (.inr ⟨h2, h1, h3, by rw [e]; simp_all⟩)))
  generalize change ⟨f, c, a, d, x⟩ l own = R at *
  rcases key with key | key
  · obtain ⟨rfl, e⟩ := key.out
    rw [e]
    clear key e HC K
    go_enter Try.func44, Try.ntmps44
    go_wp2_with fail
    refine bodyPost_ret (v := .tuple #[.agg #[.slice fa fn fc, .int .i64 c, .bool a, .int .i64 d, .bool true], .int .i64 10]) (by simp [results, Try.results44, go_sem]) rfl ?_
    have b := ((Below.refl w.heap.size w).alloc (Nat.le_refl _) (.cells #[.slice fa fn fc, .int .i64 c, .bool a, .int .i64 d, .bool true] 24)).alloc (by simp) (.cells #[.slice fa fn fc, .int .i64 c, .bool a, .int .i64 d, .bool true] 24)
    exact ⟨_, rfl, .inl ⟨rfl, rfl⟩, ⟨⟨hc1, hc2⟩, hl1, hl2⟩, HK.out.1, HK.out.2, b⟩
  · have hx : x = false := by rcases key with k | k | k | k <;> exact k.out.1
    subst hx
    go_enter Try.func44, Try.ntmps44
    go_wp2_with fail
    have B0 := Lib.hid (((Below.refl w.heap.size w).alloc (Nat.le_refl _) (.cells #[.slice fa fn fc, .int .i64 c, .bool a, .int .i64 d, .bool false] 24)).alloc (by simp) (.cells #[.slice none 0 0, .int .i64 0, .bool false, .int .i64 0, .bool false] 24))
    have P0 := Lib.hid (halloc (o := .cells #[.slice none 0 0, .int .i64 0, .bool false, .int .i64 0, .bool false] 24) (heap_alloc_new w (.cells #[.slice fa fn fc, .int .i64 c, .bool a, .int .i64 d, .bool false] 24)))
    have Q0 := Lib.hid (heap_alloc_new (w.alloc (.cells #[.slice fa fn fc, .int .i64 c, .bool a, .int .i64 d, .bool false] 24)) (.cells #[.slice none 0 0, .int .i64 0, .bool false, .int .i64 0, .bool false] 24))
    have hs0 : ((w.alloc (.cells #[.slice fa fn fc, .int .i64 c, .bool a, .int .i64 d, .bool false] 24)).alloc (.cells #[.slice none 0 0, .int .i64 0, .bool false, .int .i64 0, .bool false] 24)).heap.size = w.heap.size + 2 := by simp
    have hs1 : (w.alloc (.cells #[.slice fa fn fc, .int .i64 c, .bool a, .int .i64 d, .bool false] 24)).heap.size = w.heap.size + 1 := by simp
    rw [hs1] at Q0
    generalize (w.alloc _).alloc _ = w0 at B0 P0 Q0 hs0 ⊢
    refine (K.out w0 (HV.out.keep B0.out)).mono ?_
    rintro e w1 ⟨v1, rfl, ho1, b1⟩
    have P1 := Lib.hid (hkeep P0.out b1)
    have Q1 := Lib.hid (hkeep Q0.out b1)
    have B1 := Lib.hid (B0.out.trans (b1.mono (by omega)))
    have hz1 := b1.size
    rw [hs0] at ho1 hz1
    have HO := Lib.hid ho1
    clear ho1 b1
    go_wp2_with fail
    rw [HE.out, Oper.upon_enter]
    refine (HC.out (w.heap.size + 2) v1 w1 HO.out (by omega) hz1 B1.out).mono ?_
    rintro e w2 ⟨ga, gn, gc, rfl, ho2, b2⟩
    have P2 := Lib.hid ((b2.block w.heap.size (by omega)).trans P1.out)
    have Q2 := Lib.hid ((b2.block (w.heap.size + 1) (by omega)).trans Q1.out)
    have B2 := Lib.hid (B1.out.trans (b2.mono (by omega)))
    have HO2 := Lib.hid ho2
    obtain ⟨p0, p1, p2, p3, p4⟩ := cells5 P2.out
    obtain ⟨pf0, pf1, pf2, pf3, pf4⟩ := frozen5 P2.out
    obtain ⟨q0, q1, q2, q3, q4⟩ := cells5 Q2.out
    obtain ⟨qf0, qf1, qf2, qf3, qf4⟩ := frozen5 Q2.out
    clear ho2 b2 P0 Q0 P1 Q1 B0 B1 HO hs0 hs1 hz1 HC K
    rcases key with key | key | key | key
    · obtain ⟨_, hne, e⟩ := key.out
      have E := Lib.hid e
      clear key e
      go_wp2_with fail
      refine bodyPost_ret (v := .tuple #[.agg #[.slice fa fn fc, .int .i64 c, .bool a, .int .i64 d, .bool false], .int .i64 own]) (by simp [results, Try.results44, go_sem, q0, q1, q2, q3, q4]) rfl ?_
      rw [E.out]
      have b := bel_set5 B2.out (k := w.heap.size + 1) (by omega) (.slice fa fn fc) (.int .i64 c) (.bool a) (.int .i64 d) (.bool false)
      exact ⟨_, rfl, .inl ⟨rfl, rfl⟩, ⟨⟨hc1, hc2⟩, hl1, hl2⟩, HK.out.1, HK.out.2, b⟩
    · obtain ⟨_, rfl, rfl, rfl, e⟩ := key.out
      have E := Lib.hid e
      clear key e
      go_wp2_with fail
      refine bodyPost_ret (v := .tuple #[.agg #[.slice fa fn fc, .int .i64 c, .bool true, .int .i64 0, .bool true], .int .i64 10]) (by simp [results, Try.results44, go_sem, q0, q1, q2, q3, q4]) rfl ?_
      rw [E.out]
      have b := bel_set5 (B2.out.setCell (p := ⟨w.heap.size, 4, none⟩) (Nat.le_refl _) (.bool true)) (k := w.heap.size + 1) (by omega) (.slice fa fn fc) (.int .i64 c) (.bool true) (.int .i64 0) (.bool true)
      exact ⟨_, rfl, .inl ⟨rfl, rfl⟩, ⟨⟨hc1, hc2⟩, hl1, hl2⟩, HK.out.1, HK.out.2, b⟩
    · obtain ⟨_, rfl, rfl, hne, e⟩ := key.out
      have HO3 := Lib.hid (HO2.out rfl)
      have HR3 := Lib.hid (HR.out rfl)
      clear HO2 HR
      have E := Lib.hid e
      clear key e
      have hd0 : ¬ (d = 0) := hne
      go_wp2_with fail
      refine bodyPost_ret (v := .tuple #[.agg #[.slice ga gn gc, .int .i64 c, .bool true, .int .i64 (d - 1), .bool false], .int .i64 0]) (by simp [results, Try.results44, go_sem, q0, q1, q2, q3, q4]) rfl ?_
      rw [E.out]
      have b := bel_set5 ((B2.out.setCell (p := ⟨w.heap.size, 3, none⟩) (Nat.le_refl _) (.int .i64 (d - 1))).setCell (p := ⟨w.heap.size, 0, none⟩) (Nat.le_refl _) (.slice ga gn gc)) (k := w.heap.size + 1) (by omega) (.slice ga gn gc) (.int .i64 c) (.bool true) (.int .i64 (d - 1)) (.bool false)
      have o := own_set5 (own_old (own_old HO3.out (k := w.heap.size) (o := 3) (by omega) (.int .i64 (d - 1))) (k := w.heap.size) (o := 0) (by omega) (.slice ga gn gc)) (k := w.heap.size + 1) (by omega) (.slice ga gn gc) (.int .i64 c) (.bool true) (.int .i64 (d - 1)) (.bool false)
      exact ⟨_, rfl, .inr (own_base o (Nat.le_add_right _ _)), ⟨⟨hc1, hc2⟩, by show _ ≤ d - 1; omega, by show d - 1 ≤ _; omega⟩, HR3.out.2, HR3.out.1, b⟩
    · obtain ⟨_, rfl, rfl, e⟩ := key.out
      have HO3 := Lib.hid (HO2.out rfl)
      have HR3 := Lib.hid (HR.out rfl)
      clear HO2 HR
      have E := Lib.hid e
      clear key e
      go_wp2_with fail
      refine bodyPost_ret (v := .tuple #[.agg #[.slice ga gn gc, .int .i64 c, .bool false, .int .i64 d, .bool false], .int .i64 0]) (by simp [results, Try.results44, go_sem, q0, q1, q2, q3, q4]) rfl ?_
      rw [E.out]
      have b := bel_set5 (B2.out.setCell (p := ⟨w.heap.size, 0, none⟩) (Nat.le_refl _) (.slice ga gn gc)) (k := w.heap.size + 1) (by omega) (.slice ga gn gc) (.int .i64 c) (.bool false) (.int .i64 d) (.bool false)
      have o := own_set5 (own_old HO3.out (k := w.heap.size) (o := 0) (by omega) (.slice ga gn gc)) (k := w.heap.size + 1) (by omega) (.slice ga gn gc) (.int .i64 c) (.bool false) (.int .i64 d) (.bool false)
      exact ⟨_, rfl, .inr (own_base o (Nat.le_add_right _ _)), ⟨⟨hc1, hc2⟩, hl1, hl2⟩, HR3.out.2, HR3.out.1, b⟩

end Go.Proofs.Ytbkiecjbjehaoaa.Dsk
