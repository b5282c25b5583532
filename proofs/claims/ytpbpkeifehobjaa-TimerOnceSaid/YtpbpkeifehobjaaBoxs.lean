/-
  Boxes of a call's own, of whatever type, and lists, through what a call does. No function of the program.
-/
import Derived.Test.YtpbpkeifehobjaaApps
import Derived.Deep.RegionHeld3
namespace Go.Proofs.Ytpbpkeifehobjaa.Aps
open Go.RowKit

theorem region_any {P : Program} {id : Nat} {ops : Array Oper} {Q : Exit → Act → World → Prop} {a : Act} {w : World} (hm : P.follows .mixedOrders = true) (S : World → Prop) (k : Nat) (hk : ops.size = k) (L : Array Bool) (hL : Array.replicate k false = L)
    (h : wpAnyH P .any ops Q S k L a w.drew) : (Code.region id ops true).wp P Q a w :=
  wp_region_held (S := S) hm (by rw [hk, hL]; exact h)
theorem bel_put {w W : World} {k j : Nat} {u : Value} (h : Below w.heap.size w W) (hk : w.heap.size ≤ k) : Below w.heap.size w (W.setCell ⟨k, j, none⟩ u) := h.setCell (p := ⟨k, j, none⟩) hk u
variable {α : Type} {Y : Lay α}
/-- A list lies apart from what is written. -/
theorem isl_put {W : World} {v : Value} {l : List α} (h : IsL Y W v l) (k j : Nat) (u : Value) (hv : l ≠ [] → ∀ a n c, v = .slice (some a) n c → a.block ≠ k) : IsL Y (W.setCell ⟨k, j, none⟩ u) v l := by
  obtain ⟨a, cap, rfl, h1, h2, h3⟩ := h
  refine ⟨a, cap, rfl, h1, h2, ?_⟩
  rcases h3 with h3 | ⟨b, off, rfl, h4⟩
  · exact .inl h3
  · by_cases h0 : l = []
    · exact .inl h0
    · refine .inr ⟨b, off, rfl, fun i x hi => ?_⟩
      have hb : b ≠ k := hv h0 _ _ _ rfl
      unfold World.cell?
      rw [show (W.setCell ⟨k, j, none⟩ u).heap[(⟨b, off + i, none⟩ : Addr).block]? = W.heap[b]? from Below.heap_setCell _ _ _ _ hb]
      exact h4 i x hi
theorem own_put {W : World} {v : Value} {B k j : Nat} {l : List α} {u : Value} (h : OwnL Y W B v l) (hk : k < B) : OwnL Y (W.setCell ⟨k, j, none⟩ u) B v l := by
  refine ⟨h.1, ?_⟩
  rcases h.2 with h0 | ⟨g, cap, cur, h1, h2, h3, h4⟩
  · exact .inl h0
  · refine .inr ⟨g, cap, cur, h1, h2, ?_, h4⟩
    rw [Below.heap_setCell _ _ _ _ (show g ≠ k by omega)]
    exact h3
theorem own_slice {w : World} {B : Nat} {v : Value} {l : List α} (h : OwnL Y w B v l) : ∃ a n c, v = .slice a n c := by
  rcases h.2 with ⟨rfl, _⟩ | ⟨g, cap, cur, rfl, _⟩
  · exact ⟨_, _, _, rfl⟩
  · exact ⟨_, _, _, rfl⟩
theorem own_head {w : World} {B : Nat} {a : Option Addr} {n c : Nat} {l : List α} (h : OwnL Y w B (.slice a n c) l) : (a = none ∧ n = 0 ∧ c = 0) ∨ ∃ g, a = some ⟨g, 0, none⟩ := by
  rcases h.2 with ⟨e, _⟩ | ⟨g, cap, cur, e, _⟩
  · injection e with e1 e2 e3
    exact .inl ⟨e1, e2, e3⟩
  · injection e with e1 e2 e3
    exact .inr ⟨g, e1⟩
theorem isl_slice {w : World} {v : Value} {l : List α} (h : IsL Y w v l) : ∃ a n c, v = .slice a n c := by obtain ⟨a, c, e, _⟩ := h; exact ⟨a, _, c, e⟩
theorem isl_room {w : World} {a : Option Addr} {n c c' : Nat} {l : List α} (h : IsL Y w (.slice a n c) l) (hc : n ≤ c') : IsL Y w (.slice a n c') l := by
  obtain ⟨a', cap, e, h1, h2, h3⟩ := h
  injection e with e1 e2 e3
  subst e1 e2
  exact ⟨_, c', rfl, ⟨h1.1, hc⟩, h2, h3⟩
theorem own_lo {w : World} {B B' : Nat} {v : Value} {l : List α} (h : OwnL Y w B v l) (hb : B' ≤ B) : OwnL Y w B' v l := by
  refine ⟨h.1, ?_⟩
  rcases h.2 with h0 | ⟨g, cap, cur, h1, h2, h3⟩
  · exact .inl h0
  · exact .inr ⟨g, cap, cur, h1, Nat.le_trans hb h2, h3⟩
theorem bel_own {W0 W W' : World} {B : Nat} {v : Value} {l : List α} (b : Below W0.heap.size W0 W) (ho : OwnL Y W B v l) (hB : W0.heap.size ≤ B) (g : W.grownBy W' v.ownBlock) : Below W0.heap.size W0 W' :=
  b.grown g b.size (fun q hq => Nat.le_trans hB (ho.lt q hq).1)
/-- A row of the call's own lies in no box of another type. -/
theorem own_ne {W : World} {b B : Nat} {v : Value} {l : List α} {cs : Array Value} {T : TypeId} (h : OwnL Y W B v l) (hb : W.heap[b]? = some (.cells cs T (0, 0))) (hT : T ≠ Y.T) : ∀ p n c, v = .slice (some p) n c → p.block ≠ b := by
  rintro p n c rfl e
  rcases h.2 with ⟨h0, _⟩ | ⟨g, cap, cur, h0, h1, h2, _⟩
  · injection h0 with h0; cases h0
  · injection h0 with h0
    injection h0 with h0
    subst h0
    rw [show b = g from e.symm, h2] at hb
    injection hb with hb
    injection hb with _ hb
    exact hT hb.symm
/-- Rows of two types, both the call's own: one grows, the other stays. -/
theorem own_other {β : Type} {Z : Lay β} {W W' : World} {B B' : Nat} {v u : Value} {l : List α} {m : List β} (h : OwnL Y W B v l) (k : OwnL Z W B' u m) (hT : Y.T ≠ Z.T) (g : W.grownBy W' u.ownBlock) : OwnL Y W' B v l := by
  refine World.ownsRow.kept (row := u.ownBlock) h g ?_
  rcases h.2 with ⟨rfl, _⟩ | ⟨a, cap, cur, rfl, h1, h2, _⟩
  · exact .inl rfl
  · right
    rcases k.2 with ⟨rfl, _⟩ | ⟨b, cap', cur', rfl, k1, k2, _⟩
    · simp [Value.ownBlock]
    · intro e
      simp [Value.ownBlock] at e
      subst e
      rw [h2] at k2
      injection k2 with k2
      injection k2 with _ k2
      exact hT k2
/-- An element that was just laid is a list of one. -/
theorem isl_one {W : World} {x : α} {cs : Array Value} (h : Y.enc x = cs.toList) (hx : Y.ok x) : IsL Y (W.alloc (.cells cs Y.T)) (.slice (some ⟨W.heap.size, 0, none⟩) 1 1) [x] := by
  refine ⟨_, 1, rfl, ⟨by unfold maxLen; simp, by simp⟩, fun y hy => by rw [List.mem_singleton] at hy; subst hy; exact hx, .inr ⟨W.heap.size, 0, rfl, fun j u hj => ?_⟩⟩
  rw [Y.vals_one, h] at hj
  have := news_new W W.heap.size cs.toList Y.T rfl j u hj
  rw [addr_plain] at this
  simpa using this
theorem isl_heap {W : World} {b : Nat} {x : α} {cs : Array Value} (hb : W.heap[b]? = some (.cells cs Y.T (0, 0))) (h : Y.enc x = cs.toList) (hx : Y.ok x) : IsL Y W (.slice (some ⟨b, 0, none⟩) 1 1) [x] := by
  refine ⟨_, 1, rfl, ⟨by unfold maxLen; simp, by simp⟩, fun y hy => by rw [List.mem_singleton] at hy; subst hy; exact hx, .inr ⟨b, 0, rfl, fun j u hj => ?_⟩⟩
  rw [Y.vals_one, h] at hj
  rw [cell_of_row _ _ (0 + j) cs Y.T (0, 0) hb]
  simpa using hj
theorem own_zero (Y : Lay α) (w : World) : OwnL Y (w.alloc (.cells #[] Y.T)) w.heap.size (.slice (some ⟨w.heap.size, 0, none⟩) 0 0) [] := OwnL.made 0 #[] (by simp) (Nat.zero_le _)

/-- Boxes: each one's place, cells, type. -/
structure Bs (w : World) (L : List (Nat × Array Value × TypeId)) (W : World) : Prop where
  w : Below w.heap.size w W
  b : ∀ p ∈ L, W.heap[p.1]? = some (.cells p.2.1 p.2.2 (0, 0))
variable {w W W' : World} {L : List (Nat × Array Value × TypeId)} {T : TypeId}
theorem Bs.start (w : World) : Bs w [] w := ⟨Below.refl _ _, fun _ h => absurd h List.not_mem_nil⟩
theorem Bs.keep (h : Bs w L W) (k : Below W.heap.size W W') : Bs w L W' :=
  ⟨h.w.trans (k.mono h.w.size), fun p hp => (k.block _ (Array.getElem?_eq_some_iff.1 (h.b p hp)).1).trans (h.b p hp)⟩
theorem Bs.box {b : Nat} {cs : Array Value} (h : Bs w L W) (hb : W.heap[b]? = some (.cells cs T (0, 0))) : Bs w ((b, cs, T) :: L) W :=
  ⟨h.w, fun p hp => by rcases List.mem_cons.1 hp with rfl | hp; exact hb; exact h.b p hp⟩
theorem Bs.new (h : Bs w L W) (cs : Array Value) (T : TypeId) : Bs w ((W.heap.size, cs, T) :: L) (W.alloc (.cells cs T)) := (h.keep ((Below.refl _ _).alloc (Nat.le_refl _) (.cells cs T))).box (heap_alloc_new W _)
theorem Bs.forget {p : Nat × Array Value × TypeId} (h : Bs w (p :: L) W) : Bs w L W := ⟨h.w, fun x hx => h.b x (List.mem_cons_of_mem _ hx)⟩
theorem Bs.lt {b : Nat} {cs : Array Value} (h : Bs w L W) (hp : (b, cs, T) ∈ L) : b < W.heap.size := (Array.getElem?_eq_some_iff.1 (h.b _ hp)).1
theorem Bs.at2 {b : Nat} {x y : Value} (h : Bs w L W) (hp : (b, #[x, y], T) ∈ L) : W.cell? ⟨b, 0, none⟩ = some x ∧ W.cell? ⟨b, 1, none⟩ = some y := by
  have e := h.b _ hp
  exact ⟨by rw [cell_of_row _ _ 0 _ _ _ e]; rfl, by rw [cell_of_row _ _ 1 _ _ _ e]; rfl⟩
theorem Bs.fz2 {b : Nat} {x y : Value} (h : Bs w L W) (hp : (b, #[x, y], T) ∈ L) : W.frozen? ⟨b, 0, none⟩ = false ∧ W.frozen? ⟨b, 1, none⟩ = false := by
  have e := h.b _ hp
  exact ⟨by unfold World.frozen?; rw [e]; rfl, by unfold World.frozen?; rw [e]; rfl⟩
theorem Bs.set {b : Nat} {cs : Array Value} (h : Bs w ((b, cs, T) :: L) W) (hb : w.heap.size ≤ b) (hL : ∀ p ∈ L, p.1 ≠ b) (j : Nat) (u : Value) : Bs w ((b, cs.setIfInBounds j u, T) :: L) (W.setCell ⟨b, j, none⟩ u) := by
  refine ⟨bel_put h.w hb, fun p hp => ?_⟩
  rcases List.mem_cons.1 hp with rfl | hp
  · exact heap_setCell_same W b j _ _ _ (h.b _ List.mem_cons_self)
  · exact (Below.heap_setCell _ _ _ _ (hL p hp)).trans (h.b p (List.mem_cons_of_mem _ hp))
theorem Bs.swap {p q : Nat × Array Value × TypeId} (h : Bs w (p :: q :: L) W) : Bs w (q :: p :: L) W :=
  ⟨h.w, fun x hx => h.b x (by rcases List.mem_cons.1 hx with rfl | hx; exact .tail _ (.head _); rcases List.mem_cons.1 hx with rfl | hx; exact .head _; exact .tail _ (.tail _ hx))⟩

end Go.Proofs.Ytpbpkeifehobjaa.Aps
