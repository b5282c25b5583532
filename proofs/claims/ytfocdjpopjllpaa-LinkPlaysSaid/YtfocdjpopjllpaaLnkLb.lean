/-
  Links in boxes of a call's own, and lists of messages, through what a call does.
-/
import Derived.Test.YtfocdjpopjllpaaLnkAwk
import Derived.Deep.RegionHeld3
namespace Go.Proofs.Ytfocdjpopjllpaa.Lk
open Go.RowKit

theorem region_plain17 {P : Program} {id : Nat} {ops : Array Oper} {Q : Exit → Act → World → Prop} {a : Act} {w : World} (hm : P.follows .mixedOrders = true) (S : World → Prop) (k : Nat) (hk : ops.size = k) (L : Array Bool) (hL : Array.replicate k false = L)
    (h : wpAnyH P .any ops Q S k L a w.drew) : (Code.region id ops true).wp P Q a w :=
  wp_region_held (S := S) hm (by rw [hk, hL]; exact h)
/-- Links in boxes: each box, and its cells; lists: each slice, and its messages. -/
structure Lb (w : World) (L : List (Nat × Array Value)) (M : List (Value × List ByteArray)) (W : World) : Prop where
  w : Below w.heap.size w W
  b : ∀ p ∈ L, W.heap[p.1]? = some (.cells p.2 24 (0, 0))
  l : ∀ q ∈ M, IsL LS W q.1 q.2
variable {w W W' : World} {L : List (Nat × Array Value)} {M : List (Value × List ByteArray)}
theorem Lb.start (w : World) : Lb w [] [] w := ⟨Below.refl _ _, fun _ h => absurd h List.not_mem_nil, fun _ h => absurd h List.not_mem_nil⟩
theorem Lb.keep (h : Lb w L M W) (k : Below W.heap.size W W') : Lb w L M W' :=
  ⟨h.w.trans (k.mono h.w.size), fun p hp => (k.block _ (Array.getElem?_eq_some_iff.1 (h.b p hp)).1).trans (h.b p hp), fun q hq => (h.l q hq).keep k⟩
theorem Lb.add {v : Value} {l : List ByteArray} (h : Lb w L M W) (k : IsL LS W v l) : Lb w L ((v, l) :: M) W :=
  ⟨h.w, h.b, fun q hq => by rcases List.mem_cons.1 hq with rfl | hq; exact k; exact h.l q hq⟩
theorem Lb.new (h : Lb w L M W) (cs : Array Value) : Lb w ((W.heap.size, cs) :: L) M (W.alloc (.cells cs 24)) := by
  have k := h.keep ((Below.refl _ _).alloc (Nat.le_refl _) (.cells cs 24))
  refine ⟨k.w, fun p hp => ?_, k.l⟩
  rcases List.mem_cons.1 hp with rfl | hp
  · exact heap_alloc_new W _
  · exact k.b p hp
theorem Lb.at_ {b : Nat} {x y z : Value} (h : Lb w L M W) (hp : (b, #[x, y, z]) ∈ L) : W.cell? ⟨b, 0, none⟩ = some x ∧ W.cell? ⟨b, 1, none⟩ = some y ∧ W.cell? ⟨b, 2, none⟩ = some z := by
  have e := h.b _ hp
  exact ⟨by rw [cell_of_row _ _ 0 _ _ _ e]; rfl, by rw [cell_of_row _ _ 1 _ _ _ e]; rfl, by rw [cell_of_row _ _ 2 _ _ _ e]; rfl⟩
theorem Lb.fz {b : Nat} {x y z : Value} (h : Lb w L M W) (hp : (b, #[x, y, z]) ∈ L) : W.frozen? ⟨b, 0, none⟩ = false ∧ W.frozen? ⟨b, 1, none⟩ = false ∧ W.frozen? ⟨b, 2, none⟩ = false := by
  have e := h.b _ hp
  exact ⟨by unfold World.frozen?; rw [e]; rfl, by unfold World.frozen?; rw [e]; rfl, by unfold World.frozen?; rw [e]; rfl⟩
theorem Lb.is_ {v : Value} {l : List ByteArray} (h : Lb w L M W) (hq : (v, l) ∈ M) : IsL LS W v l := h.l _ hq
theorem Lb.lt {b : Nat} {cs : Array Value} (h : Lb w L M W) (hp : (b, cs) ∈ L) : b < W.heap.size := (Array.getElem?_eq_some_iff.1 (h.b _ hp)).1
theorem Lb.drop {q : Value × List ByteArray} (h : Lb w L (q :: M) W) : Lb w L M W := ⟨h.w, h.b, fun x hx => h.l x (List.mem_cons_of_mem _ hx)⟩
theorem Lb.forget {p : Nat × Array Value} (h : Lb w (p :: L) M W) : Lb w L M W := ⟨h.w, fun x hx => h.b x (List.mem_cons_of_mem _ hx), h.l⟩
theorem Lb.box {b : Nat} {cs : Array Value} (h : Lb w L M W) (hb : W.heap[b]? = some (.cells cs 24 (0, 0))) : Lb w ((b, cs) :: L) M W :=
  ⟨h.w, fun p hp => by rcases List.mem_cons.1 hp with rfl | hp; exact hb; exact h.b p hp, h.l⟩
theorem ls_put2 {W : World} {v : Value} {l : List ByteArray} (h : IsL LS W v l) (k j : Nat) (u : Value) (hv : l ≠ [] → ∀ a n c, v = .slice (some a) n c → a.block ≠ k) : IsL LS (W.setCell ⟨k, j, none⟩ u) v l := by
  by_cases h0 : l = []
  · subst h0
    obtain ⟨a, cap, rfl, h1, h2, h3⟩ := h
    exact ⟨a, cap, rfl, h1, h2, .inl rfl⟩
  · exact ls_put h k j u (hv h0)
/-- A row of texts lies in no box of a link. -/
theorem own_ne {b B : Nat} {v : Value} {l : List ByteArray} {cs : Array Value} (h : OwnL LS W B v l) (hb : W.heap[b]? = some (.cells cs 24 (0, 0))) : ∀ p n c, v = .slice (some p) n c → p.block ≠ b := by
  rintro p n c rfl e
  rcases h.2 with ⟨h0, _⟩ | ⟨g, cap, cur, h0, h1, h2, _⟩
  · injection h0 with h0; cases h0
  · injection h0 with h0
    injection h0 with h0
    subst h0
    rw [show b = g from e.symm, h2] at hb
    injection hb with hb
    injection hb with _ hb
    exact absurd hb (by decide)
/-- A box is written; the lists lie elsewhere. -/
theorem Lb.set {b : Nat} {x y z : Value} (h : Lb w ((b, #[x, y, z]) :: L) M W) (hb : w.heap.size ≤ b) (hL : ∀ p ∈ L, p.1 ≠ b) (hM : ∀ q ∈ M, q.2 ≠ [] → ∀ p n c, q.1 = .slice (some p) n c → p.block ≠ b) (x' y' z' : Value) :
    Lb w ((b, #[x', y', z']) :: L) M (((W.setCell ⟨b, 0, none⟩ x').setCell ⟨b, 1, none⟩ y').setCell ⟨b, 2, none⟩ z') := by
  refine ⟨bel_put (bel_put (bel_put h.w hb) hb) hb, fun p hp => ?_, fun q hq => ls_put2 (ls_put2 (ls_put2 (h.l q hq) _ _ _ (hM q hq)) _ _ _ (hM q hq)) _ _ _ (hM q hq)⟩
  rcases List.mem_cons.1 hp with rfl | hp
  · exact heap_setCell_same _ b 2 _ _ _ (heap_setCell_same _ b 1 _ _ _ (heap_setCell_same _ b 0 _ _ _ (h.b _ List.mem_cons_self)))
  · have e := h.b p (List.mem_cons_of_mem _ hp)
    have hne := hL p hp
    exact (Below.heap_setCell _ _ _ _ hne).trans ((Below.heap_setCell _ _ _ _ hne).trans ((Below.heap_setCell _ _ _ _ hne).trans e))

end Go.Proofs.Ytfocdjpopjllpaa.Lk
