/-
  Slices of structs as lists, whatever the struct: read, of a call's own, cut, joined. No function of the program.
-/
import Derived.Test.YtpbpkeifehobjaaBase
import Derived.Laws.IdiomCopy
import Derived.Laws.CopyRow
import Derived.Deep.RegionLaw
namespace Go.Proofs.Ytpbpkeifehobjaa
open Go.RowKit

/-- How elements of a kind lie in memory: their cells, how many, their type; which ones memory may hold; one of them. -/
structure Lay (α : Type) where
  enc : α → List Value
  k : Nat
  len : ∀ x, (enc x).length = k
  one : ∀ x, ∀ u ∈ enc x, u.oneCell' = true
  pos : 0 < k
  T : TypeId
  ok : α → Prop
  z : α
variable {α : Type} (Y : Lay α)

/-- Elements as cells. -/
def Lay.vals (l : List α) : List Value := l.flatMap Y.enc
theorem Lay.vals_nil : Y.vals [] = [] := rfl
theorem Lay.vals_cons (x : α) (l : List α) : Y.vals (x :: l) = Y.enc x ++ Y.vals l := rfl
theorem Lay.vals_append (a b : List α) : Y.vals (a ++ b) = Y.vals a ++ Y.vals b := by unfold Lay.vals; simp
theorem Lay.vals_one (x : α) : Y.vals [x] = Y.enc x := by unfold Lay.vals; simp
theorem Lay.vals_len (l : List α) : (Y.vals l).length = l.length * Y.k := by
  induction l with
  | nil => simp [Lay.vals]
  | cons x l ih => rw [Lay.vals_cons, List.length_append, ih, Y.len, List.length_cons, Nat.add_mul]; omega
theorem Lay.vals_cells (l : List α) : ∀ u ∈ Y.vals l, u.oneCell' = true := by
  intro u hu
  unfold Lay.vals at hu
  rw [List.mem_flatMap] at hu
  obtain ⟨x, _, h⟩ := hu
  exact Y.one x u h
theorem Lay.vals_take (l : List α) : ∀ i, (Y.vals l).take (i * Y.k) = Y.vals (l.take i) := by
  induction l with
  | nil => intro i; simp [Lay.vals]
  | cons x l ih =>
    intro i
    cases i with
    | zero => simp [Lay.vals]
    | succ i =>
      have hn : (i + 1) * Y.k = (Y.enc x).length + i * Y.k := by rw [Y.len, Nat.add_mul, Nat.one_mul, Nat.add_comm]
      rw [Lay.vals_cons, List.take_succ_cons, Lay.vals_cons, ← ih i, hn, List.take_length_add_append]
theorem Lay.vals_drop (l : List α) : ∀ i, (Y.vals l).drop (i * Y.k) = Y.vals (l.drop i) := by
  induction l with
  | nil => intro i; simp [Lay.vals]
  | cons x l ih =>
    intro i
    cases i with
    | zero => simp
    | succ i =>
      have hn : (i + 1) * Y.k = (Y.enc x).length + i * Y.k := by rw [Y.len, Nat.add_mul, Nat.one_mul, Nat.add_comm]
      rw [Lay.vals_cons, List.drop_succ_cons, ← ih i, hn, List.drop_length_add_append]
theorem Lay.vals_get (l : List α) (i j : Nat) (hi : i < l.length) (hj : j < Y.k) : (Y.vals l)[i * Y.k + j]? = (Y.enc (l.getD i Y.z))[j]? := by
  have e : l.getD i Y.z = l[i] := by simp [List.getD_eq_getElem?_getD, hi]
  rw [e, ← List.getElem?_drop, Y.vals_drop, List.drop_eq_getElem_cons hi, Lay.vals_cons, List.getElem?_append_left (by rw [Y.len]; exact hj)]

/-- The value v is a slice whose elements are these. -/
def IsL (w : World) (v : Value) (l : List α) : Prop :=
  ∃ a cap, v = .slice a l.length cap ∧ (l.length ≤ maxLen ∧ l.length ≤ cap) ∧ (∀ x ∈ l, Y.ok x) ∧
    (l = [] ∨ ∃ b off, a = some ⟨b, off, none⟩ ∧ ∀ j u, (Y.vals l)[j]? = some u → w.cell? ⟨b, off + j, none⟩ = some u)
variable {Y}
theorem IsL.nil (w : World) (a : Option Addr) (cap : Nat) : IsL Y w (.slice a 0 cap) [] := ⟨a, cap, rfl, ⟨by simp, by simp⟩, by simp, .inl rfl⟩
theorem IsL.below {B : Nat} {w w' : World} {v : Value} {l : List α} (h : IsL Y w v l) (hb : Below B w w') (hB : w.heap.size ≤ B) : IsL Y w' v l := by
  obtain ⟨a, cap, rfl, h1, h2, h3⟩ := h
  refine ⟨a, cap, rfl, h1, h2, ?_⟩
  rcases h3 with h3 | ⟨b, off, rfl, h4⟩
  · exact .inl h3
  · refine .inr ⟨b, off, rfl, fun j u hj => ?_⟩
    have c := h4 j u hj
    exact (hb.cell (p := ⟨b, off + j, none⟩) (Nat.lt_of_lt_of_le (block_lt_of_cell c) hB)).trans c
theorem IsL.keep {w w' : World} {v : Value} {l : List α} (h : IsL Y w v l) (hb : Below w.heap.size w w') : IsL Y w' v l := h.below hb (Nat.le_refl _)
/-- The cells of one element. -/
theorem IsL.at_ {w : World} {b off n cap : Nat} {l : List α} (h : IsL Y w (.slice (some ⟨b, off, none⟩) n cap) l) {i : Nat} (hi : i < n) : ∀ j u, (Y.enc (l.getD i Y.z))[j]? = some u → w.cell? ⟨b, off + i * Y.k + j, none⟩ = some u := by
  obtain ⟨a', cap', e, _, _, h3⟩ := h
  injection e with e1 e2 e3
  subst e2
  intro j u hj
  have hjk : j < Y.k := by rw [← Y.len (l.getD i Y.z)]; exact (List.getElem?_eq_some_iff.1 hj).1
  rcases h3 with rfl | ⟨b', off', e, h4⟩
  · simp at hi
  · rw [← e1] at e
    injection e with e
    injection e with e1 e2
    subst e1 e2
    have := h4 (i * Y.k + j) u (by rw [Y.vals_get l i j hi hjk]; exact hj)
    rwa [← Nat.add_assoc] at this
theorem IsL.len {w : World} {a : Option Addr} {n cap : Nat} {l : List α} (h : IsL Y w (.slice a n cap) l) : n = l.length ∧ l.length ≤ maxLen := by
  obtain ⟨a', cap', e, h1, _⟩ := h
  injection e with e1 e2 e3
  exact ⟨e2, h1.1⟩
/-- It is no longer than there is room. -/
theorem IsL.room {w : World} {a : Option Addr} {n cap : Nat} {l : List α} (h : IsL Y w (.slice a n cap) l) : n ≤ cap := by
  obtain ⟨a', cap', e, h1, _⟩ := h
  injection e with e1 e2 e3
  rw [e2, e3]
  exact h1.2
theorem IsL.ok {w : World} {v : Value} {l : List α} (h : IsL Y w v l) : ∀ x ∈ l, Y.ok x := by obtain ⟨_, _, _, _, h2, _⟩ := h; exact h2
theorem IsL.take {w : World} {a : Option Addr} {n cap k : Nat} {l : List α} (h : IsL Y w (.slice a n cap) l) (hk : k ≤ n) : IsL Y w (.slice a k cap) (l.take k) := by
  obtain ⟨a', cap', e, h1, h2, h3⟩ := h
  injection e with e1 e2 e3
  subst e1 e2 e3
  have hl : (l.take k).length = k := by rw [List.length_take]; omega
  refine ⟨a, cap, by rw [hl], ⟨by omega, by omega⟩, fun x hx => h2 x (List.mem_of_mem_take hx), ?_⟩
  rcases h3 with rfl | ⟨b, off, rfl, h4⟩
  · exact .inl (by simp)
  · refine .inr ⟨b, off, rfl, fun j u hj => h4 j u ?_⟩
    rw [← Y.vals_take, List.getElem?_take] at hj
    split at hj
    · exact hj
    · cases hj
theorem IsL.drop {w : World} {a : Option Addr} {b off n cap k : Nat} {l : List α} (h : IsL Y w (.slice (some ⟨b, off, none⟩) n cap) l) (hk : k ≤ n) (c : Nat) (hc : n - k ≤ c) (ha : a = some ⟨b, off + k * Y.k, none⟩ ∨ n = k) : IsL Y w (.slice a (n - k) c) (l.drop k) := by
  obtain ⟨a', cap', e, h1, h2, h3⟩ := h
  injection e with e1 e2 e3
  subst e2
  have hl : (l.drop k).length = l.length - k := by rw [List.length_drop]
  refine ⟨a, c, by rw [hl], ⟨by omega, by omega⟩, fun x hx => h2 x (List.mem_of_mem_drop hx), ?_⟩
  by_cases hlt : k < l.length
  · rcases ha with rfl | ha
    · rcases h3 with rfl | ⟨b', off', e, h4⟩
      · simp at hlt
      · rw [← e1] at e
        injection e with e
        injection e with e1 e2
        subst e1 e2
        refine .inr ⟨b, off + k * Y.k, rfl, fun j u hj => ?_⟩
        rw [← Y.vals_drop, List.getElem?_drop] at hj
        rw [Nat.add_assoc]
        exact h4 _ u hj
    · omega
  · exact .inl (List.drop_eq_nil_of_le (by omega))

/-- A slice of the call's own, in a block from 'base' on. -/
def OwnL (Y : Lay α) (w : World) (base : Nat) (v : Value) (l : List α) : Prop := w.ownsRow base Y.T Y.k v l.length (Y.vals l)
theorem OwnL.nil (w : World) (base : Nat) : OwnL Y w base (.slice none 0 0) [] := World.ownsRow_nil _ _ _ _
theorem OwnL.keep {w w' : World} {base : Nat} {v : Value} {l : List α} (h : OwnL Y w base v l) (b : Below w.heap.size w w') : OwnL Y w' base v l := own_below h b
theorem OwnL.alloc {w : World} {base : Nat} {v : Value} {l : List α} (h : OwnL Y w base v l) (o : Obj) : OwnL Y (w.alloc o) base v l := World.ownsRow.alloc h o
theorem OwnL.lt {w : World} {base : Nat} {v : Value} {l : List α} (h : OwnL Y w base v l) : ∀ k, v.ownBlock = some k → base ≤ k ∧ k < w.heap.size := World.ownsRow.lt h
theorem OwnL.is {w : World} {base : Nat} {v : Value} {l : List α} (h : OwnL Y w base v l) (hm : l.length ≤ maxLen) (hb : ∀ x ∈ l, Y.ok x) : IsL Y w v l := by
  rcases h.2 with ⟨rfl, h0⟩ | ⟨g, cap, cur, rfl, h1⟩
  · have : l = [] := by simpa using h0
    subst this
    exact IsL.nil w none 0
  · refine ⟨some ⟨g, 0, none⟩, cap, rfl, ⟨hm, h1.2.2.1⟩, hb, .inr ⟨g, 0, rfl, fun j u hj => ?_⟩⟩
    have := World.ownsRow.cells h (g := g) rfl j u hj
    have e : (⟨g, 0, none⟩ : Addr).add j = ⟨g, 0 + j, none⟩ := by unfold Addr.add; split <;> simp_all
    rwa [e] at this
theorem OwnL.snoc {w : World} {base n : Nat} {v : Value} {l : List α} {x : α} {cs : List Value} (h : w.ownsRow base Y.T Y.k v (l.length + 1) (Y.vals l ++ cs)) (hc : cs = Y.enc x) (_hn : n = l.length) : OwnL Y w base v (l ++ [x]) := by
  subst hc
  unfold OwnL
  rw [Y.vals_append, Y.vals_one, List.length_append]
  exact h
theorem OwnL.more {w : World} {base m : Nat} {v : Value} {l r : List α} {cs : List Value} (h : w.ownsRow base Y.T Y.k v (l.length + m) (Y.vals l ++ cs)) (hc : cs = Y.vals r) (hm : m = r.length) : OwnL Y w base v (l ++ r) := by
  subst hc hm
  unfold OwnL
  rw [Y.vals_append, List.length_append]
  exact h
theorem OwnL.made {w : World} (cap : Nat) (cur : Array Value) (hc : cur.size = cap * Y.k) (hm : cap ≤ maxLen) : OwnL Y (w.alloc (.cells cur Y.T)) w.heap.size (.slice (some ⟨w.heap.size, 0, none⟩) 0 cap) [] :=
  World.ownsRow_made w cur cap (Nat.le_refl _) hm hc
/-- What an operation on such a slice leaves. -/
def OutL (Y : Lay α) (w : World) (base : Nat) (l : List α) (e : Ending) (w' : World) : Prop := ∃ v, e = .returned v ∧ OwnL Y w' base v l ∧ Below base w w'
theorem OutL.mk {w w' : World} {base : Nat} {l : List α} {v : Value} (h : OwnL Y w' base v l) (hb : Below base w w') : OutL Y w base l (.returned v) w' := ⟨v, rfl, h, hb⟩

/-- The cells of a slice's elements, for an append of all of them. -/
theorem IsL.news {w : World} {b off n cap : Nat} {l : List α} (h : IsL Y w (.slice (some ⟨b, off, none⟩) n cap) l) : ∀ j u, (Y.vals l)[j]? = some u → w.cell? ((⟨b, off, none⟩ : Addr).add j) = some u := by
  obtain ⟨a', cap', e, _, _, h3⟩ := h
  injection e with e1 e2 e3
  intro j u hj
  have ea : (⟨b, off, none⟩ : Addr).add j = ⟨b, off + j, none⟩ := by unfold Addr.add; split <;> simp_all
  rw [ea]
  rcases h3 with rfl | ⟨b', off', e, h4⟩
  · simp [Lay.vals] at hj
  · rw [← e1] at e
    injection e with e
    injection e with e1 e2
    subst e1 e2
    exact h4 j u hj
/-- An element that was just laid. -/
theorem news_new (w : World) (N : Nat) (cs : List Value) (T : TypeId) (h : w.heap.size = N) : ∀ (j : Nat) (u : Value), cs[j]? = some u → (w.alloc (.cells cs.toArray T)).cell? ((⟨N, 0, none⟩ : Addr).add j) = some u := by
  subst h
  intro j u h
  have ea : (⟨w.heap.size, 0, none⟩ : Addr).add j = ⟨w.heap.size, j, none⟩ := by unfold Addr.add; split <;> simp_all
  rw [ea, cell_of_row _ _ j cs.toArray T (0, 0) (heap_alloc_new w _)]
  simpa using h
theorem take_snocD {l : List α} {k : Nat} {z : α} (h : k < l.length) : l.take (k + 1) = l.take k ++ [l.getD k z] := by
  rw [List.take_succ_eq_append_getElem h]
  simp [List.getD_eq_getElem?_getD, h]
theorem getD_lt {l : List α} {k : Nat} {z : α} (h : k < l.length) : l.getD k z = l[k] := by simp [List.getD_eq_getElem?_getD, h]

/-- 'append' to a row of the call's own, as one step of a region that draws its order. -/
theorem step_append_ownL {P : Program} {ops : Array Oper} {o : Oper} {a : Act} {w : World} {K : Act → World → Prop} {Q : Exit → Act → World → Prop} {E : Prop}
    (hg : o.guard = none) (s x : Operand) (t : TypeId) (hop : o.op = Op.call { callee := Callee.builtin Builtin.append, args := #[s, x], argTypes := #[t, t] })
    (base : Nat) (e : TypeId) (i : TypeInfo) (z : Value) (size bytes : Nat) (ht : P.underlying t = some (.slice e)) (hi : P.info? e = some i) (hz : i.zero = some z)
    (hsize : i.size = size) (hby : i.bytes = bytes) (hzs : z.cells.size = size) (hsz : 0 < size)
    (v : Value) (n : Nat) (xs : List Value) (hs : a.eval s = v) (hown : w.ownsRow base e size v n xs)
    (ad : Addr) (m c : Nat) (news : List Value) (hx : a.eval x = .slice (some ad) m c) (hl : news.length = m * size) (hnews : ∀ j u, news[j]? = some u → w.cell? (ad.add j) = some u) (h1 : ∀ u ∈ news, u.oneCell' = true)
    (h63 : n + m ≤ maxLen) (hbytes : (n + m) * bytes ≤ 140737488355328) (hbase : base ≤ w.heap.size)
    (hK : ∀ v' w', w'.ownsRow base e size v' (n + m) (xs ++ news) → w.grownBy w' v.ownBlock → K (a.put o.dst v') w') :
    if Region.wanted o (yielded ops a.tmps) = true then Oper.wp P o a w K Q else E := by
  have hw : Region.wanted o (yielded ops a.tmps) = true := by simp [Region.wanted, hg]
  rw [if_pos hw]
  exact wp_append_own w s x t hop base e i z size bytes ht hi hz hsize hby hzs hsz v n xs hs hown ad m c news hx hl hnews h1 h63 hbytes hbase fun v' w' h2 h3 _ => hK v' w' h2 h3

end Go.Proofs.Ytpbpkeifehobjaa
