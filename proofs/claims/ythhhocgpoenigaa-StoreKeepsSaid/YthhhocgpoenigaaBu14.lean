/-
  Parts of what the laws of this seat stand on: StoAw, Apart, StoGrow, Mem, StoTk.
-/
import Derived.Deep.Heap
import Derived.Lib.BufferOwn
import Derived.Test.YthhhocgpoenigaaBu1
import Derived.Test.YthhhocgpoenigaaBu11
import Derived.Test.YthhhocgpoenigaaBu12
import Derived.Test.YthhhocgpoenigaaBu13
import Derived.Test.YthhhocgpoenigaaBu7
namespace Go.Proofs.Ythhhocgpoenigaa.So
open Go.RowKit Go.Proofs.Ythhhocgpoenigaa.Dp

theorem calm_change {D : Dk} (h : Calm D) (l : List Fl) (o : Int) : Calm (Dp.change D l o).1 := by
  unfold Dp.change
  rw [if_neg (by rw [h.x]; decide)]
  split
  · exact h
  · rw [if_neg (by rw [h.a]; simp), if_neg (by rw [h.a]; decide)]
    exact ⟨h.x, h.a, h.c⟩
theorem calm_create {D : Dk} (h : Calm D) (n : ByteArray) : Calm (Dp.create D n).1 := by
  unfold Dp.create
  split
  · exact calm_change h _ _
  · split <;> exact calm_change h _ _
theorem calm_append {D : Dk} (h : Calm D) (n s : ByteArray) : Calm (Dp.append D n s).1 := by
  unfold Dp.append
  split
  · exact calm_change h _ _
  · split <;> exact calm_change h _ _
theorem calm_sync {D : Dk} (h : Calm D) (n : ByteArray) : Calm (Dp.sync D n).1 := by
  unfold Dp.sync
  split <;> exact calm_change h _ _
theorem calm_rename {D : Dk} (h : Calm D) (n m : ByteArray) : Calm (Dp.rename D n m).1 := by
  unfold Dp.rename
  split
  · exact calm_change h _ _
  · split <;> exact calm_change h _ _
theorem calm_delete {D : Dk} (h : Calm D) (n : ByteArray) : Calm (Dp.delete D n).1 := by
  unfold Dp.delete
  split <;> exact calm_change h _ _
theorem calm_swap {D : Dk} (h : Calm D) (m : Qm.Mn) : Calm (swap D m).1 := by
  have hs : ∀ (E : Dk) (s : ByteArray), Calm E → Calm (swapS E s).1 := fun E s hE => by
    have c1 := calm_create hE nn
    have c2 := calm_append c1 nn s
    have c3 := calm_sync c2 nn
    unfold swapS
    split
    · exact c1
    · split
      · exact calm_delete c2 nn
      · split
        · exact c2
        · split
          · exact c3
          · exact calm_rename c3 nn nm
  unfold swap
  split
  · exact h
  · split
    · split
      · exact calm_delete h nn
      · exact hs _ _ (calm_delete h nn)
    · exact hs _ _ h
theorem calm_create12 {D : Dk} (h : Calm D) : Calm (createT D).1.d := by
  unfold createT
  split
  · exact calm_create h _
  · dsimp only
    split <;> exact calm_swap (calm_create h _) _

/-- The example's records. -/
def rcA (k : Nat) : Rp.Rec := ⟨(k : Int), 0, ⟨#[UInt8.ofNat (97 + k)]⟩⟩
def rcs (k : Nat) : List Rp.Rec := (List.range k).map rcA
theorem rcs_succ (k : Nat) : rcs (k + 1) = rcs k ++ [rcA k] := by unfold rcs; rw [List.range_succ, List.map_append]; rfl
theorem rcs_len (k : Nat) : (rcs k).length = k := by unfold rcs; simp
theorem put8 : ∀ k, k < 3 → (Rp.putB (rcA k)).length = 8
  | 0, _ => by kernel_rfl
  | 1, _ => by kernel_rfl
  | 2, _ => by kernel_rfl
theorem rcA_ok {k : Nat} (h : k < 3) : Rp.Ok (rcA k) := ⟨by show (0 : Int) ≤ (k : Int); omega, by show (k : Int) ≤ _; omega, by show (0 : Int) ≤ 0; omega, by show (0 : Int) ≤ 1099511627776; omega, by show 1 ≤ 64; omega⟩
/-- The store behind k of them. -/
structure Aw (k : Nat) (S : St) : Prop where
  i : Inv 100 S (rcs k)
  c : Calm S.d
  g : S.g = [⟨0, (k : Int), 8 * (k : Int)⟩]
  d : Sto.Gd S (k + 1)
theorem bd_emp : Dsk.Bd empty 0 := ⟨⟨⟨by decide, by decide⟩, ⟨by decide, by decide⟩⟩, Right.empty, by decide, by decide⟩
theorem aw_create : (createT empty).2 = 0 ∧ Aw 0 (createT empty).1 := by
  obtain ⟨h1, h2, h3⟩ := create_new (q := 100) (by decide)
  exact ⟨h1, h2, calm_create12 ⟨rfl, rfl, rfl⟩, h3, Sto.create_gd (k := 0) bd_emp (by decide) h1⟩
theorem aw_step {k : Nat} {S : St} (h : Aw k S) (hk : k < 3) : (append S 100 (rcA k)).2 = 0 ∧ Aw (k + 1) (append S 100 (rcA k)).1 := by
  have hx : S.x = (k : Int) := by rw [h.i.x, rcs_len]
  have hl : lastG S = ⟨0, (k : Int), 8 * (k : Int)⟩ := by unfold lastG; rw [h.g]; rfl
  have ha : append S 100 (rcA k) = put S (rcA k) := by
    unfold append
    rw [if_neg (fun h => h ⟨rcA_ok hk, by rw [hx]; rfl⟩), if_neg (by rw [hx]; omega), if_neg (by rw [hl]; show ¬ (100 : Int) ≤ 8 * (k : Int); omega)]
  obtain ⟨t, l, r, e1, e2, e3, e4, e5, e6, e7, e8⟩ := h.i.last
  obtain ⟨f, hf⟩ : ∃ f, get S.d.f (segN (lastG S).b) = some f := by
    unfold dat at e6
    cases hg : get S.d.f (segN (lastG S).b) with
    | none => rw [hg] at e6; cases e6
    | some f => exact ⟨f, rfl⟩
  have hA := h.c.append (s := ⟨(Rp.putB (rcA k)).toArray⟩) hf
  have h0 : (put S (rcA k)).2 = 0 := by
    unfold put
    dsimp only
    rw [if_neg (by rw [hA.1]; exact fun e => e rfl)]
  have h0' : (append S 100 (rcA k)).2 = 0 := by rw [ha]; exact h0
  refine ⟨h0', ?_⟩
  rcases h.i.append (by decide) (rcA k) with ⟨_, _, _, i4, _⟩ | ⟨i1, _⟩
  · rw [← rcs_succ] at i4
    refine ⟨i4, ?_, ?_, ?_⟩
    · rw [ha]
      unfold put
      dsimp only
      rw [if_neg (by rw [hA.1]; exact fun e => e rfl)]
      exact hA.2
    · rw [ha]
      unfold put
      dsimp only
      rw [if_neg (by rw [hA.1]; exact fun e => e rfl)]
      show grown S.g _ = _
      rw [h.g, put8 k hk]
      show [(⟨0, (k : Int) + 1, 8 * (k : Int) + ((8 : Nat) : Int)⟩ : Rt.Sg)] = _
      rw [show (k : Int) + 1 = ((k + 1 : Nat) : Int) from by omega, show 8 * (k : Int) + ((8 : Nat) : Int) = 8 * ((k + 1 : Nat) : Int) from by omega]
    · exact h.d.app 100 _
  · exact absurd h0' i1

/-- Synced, they are read. -/
theorem aw_end {S : St} (h : Aw 3 S) : (syncT S).2 = 0 ∧ (syncT S).1.s = 3 ∧ readT (syncT S).1 1 = (rcA 1, 0) ∧ (Sto.fromT (syncT S).1 1 1000 9).length = 2 ∧ Sto.Gd (syncT S).1 5 := by
  have hx : S.x = 3 := by rw [h.i.x, rcs_len]; rfl
  obtain ⟨t, l, r, e1, e2, e3, e4, e5, e6, e7, e8⟩ := h.i.last
  obtain ⟨f, hf⟩ : ∃ f, get S.d.f (segN (lastG S).b) = some f := by
    unfold dat at e6
    cases hg : get S.d.f (segN (lastG S).b) with
    | none => rw [hg] at e6; cases e6
    | some f => exact ⟨f, rfl⟩
  have hA := h.c.sync hf
  have h0 : (syncT S).2 = 0 := by unfold syncT; show (Dp.sync _ _).2 = 0; rw [hA.1]
  have hs : (syncT S).1.s = 3 := by
    unfold syncT
    show (if (Dp.sync _ _).2 = 0 then S.x else S.s) = 3
    rw [hA.1, if_pos rfl, hx]
  have hi := h.i.sync (by rw [rcs_len]; decide)
  have hr : ∀ i : Nat, i < 3 → readT (syncT S).1 (i : Int) = (rcA i, 0) := fun i hi3 => by
    have := hi.read (by rw [rcs_len]; decide) (i := i) (by rw [rcs_len]; exact hi3)
    rw [this]
    unfold rcs
    simp
  have r1 : readT (syncT S).1 1 = (rcA 1, 0) := hr 1 (by decide)
  have r2 : readT (syncT S).1 2 = (rcA 2, 0) := hr 2 (by decide)
  refine ⟨h0, hs, r1, ?_, ?_⟩
  · unfold Sto.fromT
    have hfl : floor (syncT S).1 = 0 := by
      unfold floor
      show ((S.g).headD Rt.zero).b = 0
      rw [h.g]; rfl
    rw [if_neg (by rw [hfl]; decide), hs]
    show (Sto.fromF (syncT S).1 1000 9 2 1 0 0).length = 2
    rw [Sto.fromF_succ, if_pos (by decide), r1]
    dsimp only
    rw [put8 1 (by decide), if_neg (by decide), Sto.fromF_succ, if_pos (by decide), show (1 : Int) + 1 = 2 from rfl, r2]
    dsimp only
    rw [put8 2 (by decide), if_neg (by decide)]
    rfl
  · have := h.d.act 100 ⟨1, 0, ⟨#[]⟩⟩ (by decide)
    rwa [Sto.doA_sync rfl] at this

end Go.Proofs.Ythhhocgpoenigaa.So

namespace Go.Proofs.Ythhhocgpoenigaa
open Go.RowKit

/-- Where a row lies behind an append. -/
def Moved (w : World) (v v' : Value) : Prop := v'.ownBlock = v.ownBlock ∨ ∀ q, v'.ownBlock = some q → w.heap.size ≤ q

theorem run_append_where {P : Program} (w : World) (base : Nat) (t ty e : TypeId) (i : TypeInfo) (z : Value) (size bytes : Nat) (ht : P.underlying t = some (.slice e)) (hi : P.info? e = some i) (hz : i.zero = some z)
    (hsize : i.size = size) (hby : i.bytes = bytes) (hzs : z.cells.size = size) (hsz : 0 < size)
    (v : Value) (n : Nat) (xs : List Value) (hown : w.ownsRow base e size v n xs)
    (a : Addr) (m c : Nat) (news : List Value) (hl : news.length = m * size) (hnews : ∀ j u, news[j]? = some u → w.cell? (a.add j) = some u) (h1 : ∀ u ∈ news, u.oneCell' = true) (hm : 0 < m)
    (h63 : n + m ≤ maxLen) (hbytes : (n + m) * bytes ≤ 140737488355328) (hbase : base ≤ w.heap.size) :
    ∃ v' w', (Builtin.append_ #[t, t] ty #[v, .slice (some a) m c]).run P w = .ok v' w' ∧ w'.ownsRow base e size v' (n + m) (xs ++ news) ∧ w.grownBy w' v.ownBlock ∧ Moved w v v' := by
  obtain ⟨v', w', hr, ho, hg, _⟩ := run_append_own (P := P) w base t ty e i z size bytes ht hi hz hsize hby hzs hsz v n xs hown a m c news hl hnews h1 h63 hbytes hbase
  refine ⟨v', w', hr, ho, hg, ?_⟩
  subst hsize
  subst hby
  have key : ∀ v2 w2, (Builtin.append_ #[t, t] ty #[v, .slice (some a) m c]).run P w = .ok v2 w2 → v' = v2 := by
    intro v2 w2 h2
    rw [hr] at h2
    injection h2
  rcases hown.2 with ⟨rfl, rfl⟩ | ⟨g, cap, cur, rfl, hbg, hgg, hnc, hcm, hcs, htake⟩
  · have hr2 := run_append_nil (P := P) w t ty e i z ht hi hz a m c news hl hnews hm (by simp only [maxLen] at h63; omega) (by have hb := hbytes; simp only [Nat.zero_add] at hb; omega)
    rw [key _ _ hr2]
    exact .inr fun q hq => by simp [Value.ownBlock] at hq; omega
  · by_cases hroom : n + m ≤ cap
    · have hfit : n * i.size + news.length ≤ cur.size := by rw [hl, hcs, ← Nat.add_mul]; exact Nat.mul_le_mul_right _ hroom
      rw [key _ _ (run_append_room (P := P) w t ty e i ht hi g n cap cur hgg a m c news hl hnews h1 hroom hfit)]
      exact .inl rfl
    · have holds : ∀ j u, xs[j]? = some u → w.cell? ((⟨g, 0, none⟩ : Addr).add j) = some u := hown.cells (g := g) rfl
      rw [key _ _ (run_append_grow (P := P) w t ty e i z ht hi hz ⟨g, 0, none⟩ n cap xs hown.1 holds a m c news hl hnews (by omega) (by simp only [maxLen] at h63; omega) (growslice_fits (by omega) hbytes))]
      exact .inr fun q hq => by simp [Value.ownBlock] at hq; omega

theorem wpList_append_where {P : Program} (w : World) {ops : Array Oper} {rest : List Oper} {o : Oper} {a : Act} {Q : Exit → Act → World → Prop} (hgd : o.guard = none) (s x : Operand) (t : TypeId)
    (ho : o.op = .call { callee := .builtin .append, args := #[s, x], argTypes := #[t, t] })
    (base : Nat) (e : TypeId) (i : TypeInfo) (z : Value) (size bytes : Nat) (ht : P.underlying t = some (.slice e)) (hi : P.info? e = some i) (hz : i.zero = some z)
    (hsize : i.size = size) (hby : i.bytes = bytes) (hzs : z.cells.size = size) (hsz : 0 < size)
    (v : Value) (n : Nat) (xs : List Value) (hs : a.eval s = v) (hown : w.ownsRow base e size v n xs)
    (ad : Addr) (m c : Nat) (news : List Value) (hx : a.eval x = .slice (some ad) m c) (hl : news.length = m * size) (hnews : ∀ j u, news[j]? = some u → w.cell? (ad.add j) = some u) (h1 : ∀ u ∈ news, u.oneCell' = true) (hm : 0 < m)
    (h63 : n + m ≤ maxLen) (hbytes : (n + m) * bytes ≤ 140737488355328) (hbase : base ≤ w.heap.size)
    (h : ∀ v' w', w'.ownsRow base e size v' (n + m) (xs ++ news) → w.grownBy w' v.ownBlock → Moved w v v' → wpList P ops Q rest (a.put o.dst v') w') : wpList P ops Q (o :: rest) a w := by
  obtain ⟨v', w', hr, h2, h3, h4⟩ := run_append_where (P := P) w base t o.type e i z size bytes ht hi hz hsize hby hzs hsz v n xs hown ad m c news hl hnews h1 hm h63 hbytes hbase
  exact wpList_plain hgd fun _ hK => by
    unfold Oper.wp execOp
    simp only [ho, resolve, invoke, builtin, Sem.run_bind, Sem.run_pure, Result.andThen_ok, List.map_toArray, List.map_cons, List.map_nil, hs, hx, hr]
    exact hK _ _ (h v' w' h2 h3 h4)

end Go.Proofs.Ythhhocgpoenigaa

namespace Go.Proofs.Ythhhocgpoenigaa.Sto
open Go.RowKit Go.Proofs.Ythhhocgpoenigaa.So Go.Proofs.Ythhhocgpoenigaa.Dsk Go.Proofs.Ythhhocgpoenigaa.Rts

theorem grown_set12 (w : World) (r o : Nat) (u : Value) : w.grownBy (w.setCell ⟨r, o, none⟩ u) (some r) :=
  ⟨rfl, rfl, rfl, by simp, fun k _ hk => heap_setCell_other w ⟨r, o, none⟩ k u (fun e => hk (by simp [e]))⟩
theorem IsL.grown12 {α : Type} {Y : Lay α} {W W' : World} {v : Value} {l : List α} {r : Option Nat} (h : IsL Y W v l) (g : W.grownBy W' r) (hs : ∀ t, r = some t → Sep v t) : IsL Y W' v l := by
  obtain ⟨a, cap, rfl, h1, h2, h3⟩ := h
  refine ⟨a, cap, rfl, h1, h2, ?_⟩
  rcases h3 with h3 | ⟨b, off, rfl, h4⟩
  · exact .inl h3
  · by_cases h0 : l = []
    · exact .inl h0
    · refine .inr ⟨b, off, rfl, fun j u hj => ?_⟩
      exact g.cell (h4 j u hj) (fun e => hs b (by rw [← e]) _ _ _ rfl (List.length_pos_iff.2 h0) rfl)
/-- A row's block, if it has one, among boxes. -/
def withRow (b : Nat) (x : Value) : List Nat := b :: x.ownBlock.toList
theorem withRow_box (b : Nat) (x : Value) : b ∈ withRow b x := List.mem_cons_self
theorem withRow_row {b : Nat} {x : Value} {q : Nat} (h : x.ownBlock = some q) : q ∈ withRow b x := by
  unfold withRow
  rw [h]
  simp
theorem withRow_lt {b B : Nat} {x : Value} {α : Type} {Y : Lay α} {W : World} {l : List α} (hb : b < W.heap.size) (h : OwnL Y W B x l) : ∀ p ∈ withRow b x, p < W.heap.size := fun p hp => by
  unfold withRow at hp
  rcases List.mem_cons.1 hp with rfl | hp
  · exact hb
  · rw [Option.mem_toList] at hp
    exact (h.lt p hp).2
/-- A row of the call's own stays where another box is written. -/
theorem own_grown {W W' : World} {B t : Nat} {v : Value} {α : Type} {Y : Lay α} {l : List α} (h : OwnL Y W B v l) (g : W.grownBy W' (some t)) (hn : ∀ q, v.ownBlock = some q → q ≠ t) : OwnL Y W' B v l := by
  refine ⟨h.1, ?_⟩
  rcases h.2 with h2 | ⟨b, cap, cur, rfl, h3, h4, h5⟩
  · exact .inl h2
  · exact .inr ⟨b, cap, cur, rfl, h3, (g.block b (Array.getElem?_eq_some_iff.1 h4).1 (fun e => hn b (by simp [Value.ownBlock]) (by injection e))).trans h4, h5⟩
theorem own_set {W : World} {B t : Nat} {v : Value} {α : Type} {Y : Lay α} {l : List α} (h : OwnL Y W B v l) (hn : ∀ q, v.ownBlock = some q → q ≠ t) (o : Nat) (u : Value) : OwnL Y (W.setCell ⟨t, o, none⟩ u) B v l := own_grown h (grown_set12 W t o u) hn
theorem own_other {W Z : World} {B t : Nat} {v : Value} {α : Type} {Y : Lay α} {l : List α} {v0 v1 v2 v3 v4 v5 v6 v7 v8 v9 v10 : Value} (h : OwnL Y W B v l) (e : Z = ((((((((((W.setCell ⟨t, 0, none⟩ v0).setCell ⟨t, 1, none⟩ v1).setCell ⟨t, 2, none⟩ v2).setCell ⟨t, 3, none⟩ v3).setCell ⟨t, 4, none⟩ v4).setCell ⟨t, 5, none⟩ v5).setCell ⟨t, 6, none⟩ v6).setCell ⟨t, 7, none⟩ v7).setCell ⟨t, 8, none⟩ v8).setCell ⟨t, 9, none⟩ v9).setCell ⟨t, 10, none⟩ v10) (hn : ∀ q, v.ownBlock = some q → q ≠ t) : OwnL Y Z B v l := by
  subst e
  exact own_set (own_set (own_set (own_set (own_set (own_set (own_set (own_set (own_set (own_set (own_set h hn _ _) hn _ _) hn _ _) hn _ _) hn _ _) hn _ _) hn _ _) hn _ _) hn _ _) hn _ _) hn _ _
section
variable {b t : Nat} {x x' : Value} {fv gv : Value} {S : St} {W W' : World}
/-- A store's box and slices, behind an append to that row. -/
theorem Bx.grow (h : Bx (withRow b x) t fv gv S W) (g : W.grownBy W' x.ownBlock) (hx : ∀ q, x.ownBlock = some q → q ≠ t) (hm : Moved W x x') : Bx (withRow b x') t fv gv S W' := by
  have e : W'.heap[t]? = W.heap[t]? := g.block t h.lt (fun e => hx t e.symm rfl)
  refine ⟨e.trans h.d, IsL.grown12 h.f g (fun q hq => (h.s q (withRow_row hq)).1), IsL.grown12 h.g g (fun q hq => (h.s q (withRow_row hq)).2), fun p hp => ?_⟩
  unfold withRow at hp
  rcases List.mem_cons.1 hp with rfl | hp
  · exact h.s _ (withRow_box _ _)
  · rw [Option.mem_toList] at hp
    rcases hm with hm | hm
    · rw [hm] at hp
      exact h.s p (withRow_row hp)
    · have := hm p hp
      exact ⟨IsL.sep_new h.f this, IsL.sep_new h.g this⟩
theorem BxR.grow (h : BxR (withRow b x) t S W) (g : W.grownBy W' x.ownBlock) (hx : ∀ q, x.ownBlock = some q → q ≠ t) (hm : Moved W x x') : BxR (withRow b x') t S W' := by
  obtain ⟨a, n, c, a', n', c', h⟩ := h
  exact ⟨a, n, c, a', n', c', h.grow g hx hm⟩
end

end Go.Proofs.Ythhhocgpoenigaa.Sto

namespace Go.Proofs.Ythhhocgpoenigaa.Sto
open Go.RowKit Go.Proofs.Ythhhocgpoenigaa.So Go.Proofs.Ythhhocgpoenigaa.Dsk Go.Proofs.Ythhhocgpoenigaa.Rts

/-- Boxes cs from b on, lists of files fs and of segments gs, each apart of all boxes; they lie apart of what the first values lay apart of. -/
structure Ms (w : World) (b : Nat) (fv0 gv0 : Value) (cs : List (Nat × Obj)) (fs : List (Value × List Dp.Fl)) (gs : List (Value × List Rt.Sg)) (W : World) : Prop where
  c : ∀ p ∈ cs, b ≤ p.1 ∧ W.heap[p.1]? = some p.2
  f : ∀ p ∈ fs, IsL FL W p.1 p.2 ∧ (∀ q ∈ cs, Sep p.1 q.1) ∧ ∀ j, j < b → Sep fv0 j → Sep gv0 j → Sep p.1 j
  g : ∀ p ∈ gs, IsL SL W p.1 p.2 ∧ (∀ q ∈ cs, Sep p.1 q.1) ∧ ∀ j, j < b → Sep fv0 j → Sep gv0 j → Sep p.1 j
  le : b ≤ W.heap.size
  w : Below b w W
section
variable {w W W' : World} {b : Nat} {fv0 gv0 : Value} {cs cs' : List (Nat × Obj)} {fs fs' : List (Value × List Dp.Fl)} {gs gs' : List (Value × List Rt.Sg)}
theorem Ms.at_ (h : Ms w b fv0 gv0 cs fs gs W) {t : Nat} {o : Obj} (hm : (t, o) ∈ cs) : W.heap[t]? = some o := (h.c _ hm).2
theorem Ms.lt (h : Ms w b fv0 gv0 cs fs gs W) {t : Nat} {o : Obj} (hm : (t, o) ∈ cs) : t < W.heap.size := (Array.getElem?_eq_some_iff.1 (h.at_ hm)).1
theorem Ms.fl (h : Ms w b fv0 gv0 cs fs gs W) {v : Value} {l : List Dp.Fl} (hm : (v, l) ∈ fs) : IsL FL W v l := (h.f _ hm).1
theorem Ms.sl (h : Ms w b fv0 gv0 cs fs gs W) {v : Value} {l : List Rt.Sg} (hm : (v, l) ∈ gs) : IsL SL W v l := (h.g _ hm).1
theorem Ms.sub (h : Ms w b fv0 gv0 cs fs gs W) (h1 : ∀ p ∈ cs', p ∈ cs) (h2 : ∀ p ∈ fs', p ∈ fs) (h3 : ∀ p ∈ gs', p ∈ gs) : Ms w b fv0 gv0 cs' fs' gs' W :=
  ⟨fun p hp => h.c p (h1 p hp), fun p hp => ⟨(h.f p (h2 p hp)).1, fun q hq => (h.f p (h2 p hp)).2.1 q (h1 q hq), (h.f p (h2 p hp)).2.2⟩, fun p hp => ⟨(h.g p (h3 p hp)).1, fun q hq => (h.g p (h3 p hp)).2.1 q (h1 q hq), (h.g p (h3 p hp)).2.2⟩, h.le, h.w⟩
theorem Ms.keep (h : Ms w b fv0 gv0 cs fs gs W) (k : Below W.heap.size W W') : Ms w b fv0 gv0 cs fs gs W' :=
  ⟨fun p hp => ⟨(h.c p hp).1, hkeep (h.c p hp).2 k⟩, fun p hp => ⟨(h.f p hp).1.keep k, (h.f p hp).2⟩, fun p hp => ⟨(h.g p hp).1.keep k, (h.g p hp).2⟩, Nat.le_trans h.le k.size, h.w.trans (k.mono h.le)⟩
/-- A call on one of the disks has answered another one. -/
theorem Ms.call (h : Ms w b fv0 gv0 cs fs gs W) {v v' : Value} {l : List Dp.Fl} {D' : Dp.Dk} (hm : (v, l) ∈ fs) (k : DkS W v D' v' W') : Ms w b fv0 gv0 cs ((v', D'.f) :: fs) gs W' := by
  have h1 := h.keep k.w
  have h2 := h.f _ hm
  refine ⟨h1.c, fun p hp => ?_, h1.g, h1.le, h1.w⟩
  rcases List.mem_cons.1 hp with rfl | hp
  · exact ⟨k.f, fun q hq => k.s _ (Array.getElem?_eq_some_iff.1 (h.c q hq).2).1 (h2.2.1 q hq), fun j hj a c => k.s _ (Nat.lt_of_lt_of_le hj h.le) (h2.2.2 j hj a c)⟩
  · exact h1.f p hp
/-- A call on one of the stores has answered another one. -/
theorem Ms.call2 (h : Ms w b fv0 gv0 cs fs gs W) {v u v' u' : Value} {l : List Dp.Fl} {m : List Rt.Sg} {T : St} (hm : (v, l) ∈ fs) (hn : (u, m) ∈ gs) (k : StS W v u T v' u' W') : Ms w b fv0 gv0 cs ((v', T.d.f) :: fs) ((u', T.g) :: gs) W' := by
  have h1 := h.keep k.w
  have h2 := h.f _ hm
  have h3 := h.g _ hn
  refine ⟨h1.c, fun p hp => ?_, fun p hp => ?_, h1.le, h1.w⟩
  · rcases List.mem_cons.1 hp with rfl | hp
    · exact ⟨k.f, fun q hq => (k.s _ (Array.getElem?_eq_some_iff.1 (h.c q hq).2).1 (h2.2.1 q hq) (h3.2.1 q hq)).1, fun j hj a c => (k.s _ (Nat.lt_of_lt_of_le hj h.le) (h2.2.2 j hj a c) (h3.2.2 j hj a c)).1⟩
    · exact h1.f p hp
  · rcases List.mem_cons.1 hp with rfl | hp
    · exact ⟨k.g, fun q hq => (k.s _ (Array.getElem?_eq_some_iff.1 (h.c q hq).2).1 (h2.2.1 q hq) (h3.2.1 q hq)).2, fun j hj a c => (k.s _ (Nat.lt_of_lt_of_le hj h.le) (h2.2.2 j hj a c) (h3.2.2 j hj a c)).2⟩
    · exact h1.g p hp
/-- Another list of segments, in memory that was not there. -/
theorem Ms.fresh (h : Ms w b fv0 gv0 cs fs gs W) {v : Value} {l : List Rt.Sg} (k : Below W.heap.size W W') (hl : IsL SL W' v l) (hs : ∀ j, j < W.heap.size → Sep v j) : Ms w b fv0 gv0 cs fs ((v, l) :: gs) W' := by
  have h1 := h.keep k
  refine ⟨h1.c, h1.f, fun p hp => ?_, h1.le, h1.w⟩
  rcases List.mem_cons.1 hp with rfl | hp
  · exact ⟨hl, fun q hq => hs _ (Array.getElem?_eq_some_iff.1 (h.c q hq).2).1, fun j hj _ _ => hs j (Nat.lt_of_lt_of_le hj h.le)⟩
  · exact h1.g p hp
/-- Another box. -/
theorem Ms.alloc (h : Ms w b fv0 gv0 cs fs gs W) (A : Array Value) (T : TypeId) : Ms w b fv0 gv0 ((W.heap.size, .cells A T) :: cs) fs gs (W.alloc (.cells A T)) := by
  have h1 := h.keep ((Below.refl W.heap.size W).alloc (Nat.le_refl _) (.cells A T))
  refine ⟨fun p hp => ?_, fun p hp => ⟨(h1.f p hp).1, fun q hq => ?_, (h1.f p hp).2.2⟩, fun p hp => ⟨(h1.g p hp).1, fun q hq => ?_, (h1.g p hp).2.2⟩, h1.le, h1.w⟩
  · rcases List.mem_cons.1 hp with rfl | hp
    · exact ⟨h.le, heap_alloc_new W _⟩
    · exact h1.c p hp
  · rcases List.mem_cons.1 hq with rfl | hq
    · exact IsL.sep_new (h.f p hp).1 (Nat.le_refl _)
    · exact (h1.f p hp).2.1 q hq
  · rcases List.mem_cons.1 hq with rfl | hq
    · exact IsL.sep_new (h.g p hp).1 (Nat.le_refl _)
    · exact (h1.g p hp).2.1 q hq
/-- A box is written. -/
theorem Ms.write (h : Ms w b fv0 gv0 cs fs gs W) {t : Nat} {o o' : Obj} (hm : (t, o) ∈ cs) (hg : W.grownBy W' (some t)) (hn : W'.heap[t]? = some o') (hc : ∀ p ∈ cs', p = (t, o') ∨ (p ∈ cs ∧ p.1 ≠ t)) : Ms w b fv0 gv0 cs' fs gs W' := by
  have hb := (h.c _ hm).1
  have hsz := hg.size
  have sep : ∀ {v : Value}, (∀ q ∈ cs, Sep v q.1) → ∀ q ∈ cs', Sep v q.1 := fun {v} hv q hq => by
    rcases hc q hq with rfl | ⟨h1, _⟩
    · exact (show Sep v t from hv (t, o) hm)
    · exact hv q h1
  refine ⟨fun p hp => ?_, fun p hp => ⟨IsL.grown12 (h.f p hp).1 hg (fun j e => by injection e with e; rw [← e]; exact (h.f p hp).2.1 _ hm), sep (h.f p hp).2.1, (h.f p hp).2.2⟩, fun p hp => ⟨IsL.grown12 (h.g p hp).1 hg (fun j e => by injection e with e; rw [← e]; exact (h.g p hp).2.1 _ hm), sep (h.g p hp).2.1, (h.g p hp).2.2⟩, Nat.le_trans h.le hsz, h.w.grown hg h.le fun j e => by injection e with e; rw [← e]; exact hb⟩
  rcases hc p hp with rfl | ⟨h1, h2⟩
  · exact ⟨hb, hn⟩
  · exact ⟨(h.c p h1).1, (hg.block p.1 (Array.getElem?_eq_some_iff.1 (h.c p h1).2).1 (fun e => h2 (by injection e))).trans (h.c p h1).2⟩
/-- A store's call answers one of them. -/
theorem Ms.sts (h : Ms w w.heap.size fv0 gv0 cs fs gs W) {v u : Value} {T : St} (hm : (v, T.d.f) ∈ fs) (hn : (u, T.g) ∈ gs) : StS w fv0 gv0 T v u W :=
  ⟨h.fl hm, h.sl hn, fun j hj a c => ⟨(h.f _ hm).2.2 j hj a c, (h.g _ hn).2.2 j hj a c⟩, h.w⟩
end
theorem grown5 (W : World) (t : Nat) (y0 y1 y2 y3 y4 : Value) : W.grownBy (((((W.setCell ⟨t, 0, none⟩ y0).setCell ⟨t, 1, none⟩ y1).setCell ⟨t, 2, none⟩ y2).setCell ⟨t, 3, none⟩ y3).setCell ⟨t, 4, none⟩ y4) (some t) :=
  Lib.grownBy_trans (Lib.grownBy_trans (Lib.grownBy_trans (Lib.grownBy_trans (grown_set12 _ _ _ _) (grown_set12 _ _ _ _)) (grown_set12 _ _ _ _)) (grown_set12 _ _ _ _)) (grown_set12 _ _ _ _)
theorem grown11 (W : World) (t : Nat) (y0 y1 y2 y3 y4 y5 y6 y7 y8 y9 y10 : Value) : W.grownBy (((((((((((W.setCell ⟨t, 0, none⟩ y0).setCell ⟨t, 1, none⟩ y1).setCell ⟨t, 2, none⟩ y2).setCell ⟨t, 3, none⟩ y3).setCell ⟨t, 4, none⟩ y4).setCell ⟨t, 5, none⟩ y5).setCell ⟨t, 6, none⟩ y6).setCell ⟨t, 7, none⟩ y7).setCell ⟨t, 8, none⟩ y8).setCell ⟨t, 9, none⟩ y9).setCell ⟨t, 10, none⟩ y10) (some t) :=
  Lib.grownBy_trans (Lib.grownBy_trans (Lib.grownBy_trans (Lib.grownBy_trans (Lib.grownBy_trans (Lib.grownBy_trans (grown5 W t y0 y1 y2 y3 y4) (grown_set12 _ _ _ _)) (grown_set12 _ _ _ _)) (grown_set12 _ _ _ _)) (grown_set12 _ _ _ _)) (grown_set12 _ _ _ _)) (grown_set12 _ _ _ _)
/-- The first five cells of a store's box: another disk. -/
theorem heap_disk {W : World} {k : Nat} {T : TypeId} {a0 a1 a2 a3 a4 a5 a6 a7 a8 a9 a10 : Value} (hh : W.heap[k]? = some (.cells #[a0, a1, a2, a3, a4, a5, a6, a7, a8, a9, a10] T (0, 0))) (y0 y1 y2 y3 y4 : Value) :
    (((((W.setCell ⟨k, 0, none⟩ y0).setCell ⟨k, 1, none⟩ y1).setCell ⟨k, 2, none⟩ y2).setCell ⟨k, 3, none⟩ y3).setCell ⟨k, 4, none⟩ y4).heap[k]? = some (.cells #[y0, y1, y2, y3, y4, a5, a6, a7, a8, a9, a10] T (0, 0)) :=
  heap_setCell_same _ _ 4 _ _ _ (heap_setCell_same _ _ 3 _ _ _ (heap_setCell_same _ _ 2 _ _ _ (heap_setCell_same _ _ 1 _ _ _ (heap_setCell_same _ _ 0 _ _ _ hh))))
section
variable {w W : World} {b : Nat} {fv0 gv0 : Value} {cs cs' : List (Nat × Obj)} {fs : List (Value × List Dp.Fl)} {gs : List (Value × List Rt.Sg)}
/-- A disk is laid in a box of its own. -/
theorem Ms.lay5 (h : Ms w b fv0 gv0 cs fs gs W) {t : Nat} {T : TypeId} {a0 a1 a2 a3 a4 : Value} (hm : (t, Obj.cells #[a0, a1, a2, a3, a4] T) ∈ cs) (y0 y1 y2 y3 y4 : Value) (hc : ∀ p ∈ cs', p = (t, Obj.cells #[y0, y1, y2, y3, y4] T) ∨ (p ∈ cs ∧ p.1 ≠ t)) :
    ∃ Z, ((((W.setCell ⟨t, 0, none⟩ y0).setCell ⟨t, 1, none⟩ y1).setCell ⟨t, 2, none⟩ y2).setCell ⟨t, 3, none⟩ y3).setCell ⟨t, 4, none⟩ y4 = Z ∧ Ms w b fv0 gv0 cs' fs gs Z :=
  ⟨_, rfl, h.write hm (grown5 W t y0 y1 y2 y3 y4) (heap_set5 (h.at_ hm) y0 y1 y2 y3 y4) hc⟩
/-- A disk is laid in a store's box. -/
theorem Ms.layD (h : Ms w b fv0 gv0 cs fs gs W) {t : Nat} {T : TypeId} {a0 a1 a2 a3 a4 a5 a6 a7 a8 a9 a10 : Value} (hm : (t, Obj.cells #[a0, a1, a2, a3, a4, a5, a6, a7, a8, a9, a10] T) ∈ cs) (y0 y1 y2 y3 y4 : Value) (hc : ∀ p ∈ cs', p = (t, Obj.cells #[y0, y1, y2, y3, y4, a5, a6, a7, a8, a9, a10] T) ∨ (p ∈ cs ∧ p.1 ≠ t)) :
    ∃ Z, ((((W.setCell ⟨t, 0, none⟩ y0).setCell ⟨t, 1, none⟩ y1).setCell ⟨t, 2, none⟩ y2).setCell ⟨t, 3, none⟩ y3).setCell ⟨t, 4, none⟩ y4 = Z ∧ Ms w b fv0 gv0 cs' fs gs Z :=
  ⟨_, rfl, h.write hm (grown5 W t y0 y1 y2 y3 y4) (heap_disk (h.at_ hm) y0 y1 y2 y3 y4) hc⟩
/-- A store is laid in a box. -/
theorem Ms.lay11 (h : Ms w b fv0 gv0 cs fs gs W) {t : Nat} {T : TypeId} {a0 a1 a2 a3 a4 a5 a6 a7 a8 a9 a10 : Value} (hm : (t, Obj.cells #[a0, a1, a2, a3, a4, a5, a6, a7, a8, a9, a10] T) ∈ cs) (y0 y1 y2 y3 y4 y5 y6 y7 y8 y9 y10 : Value) (hc : ∀ p ∈ cs', p = (t, Obj.cells #[y0, y1, y2, y3, y4, y5, y6, y7, y8, y9, y10] T) ∨ (p ∈ cs ∧ p.1 ≠ t)) :
    ∃ Z, ((((((((((W.setCell ⟨t, 0, none⟩ y0).setCell ⟨t, 1, none⟩ y1).setCell ⟨t, 2, none⟩ y2).setCell ⟨t, 3, none⟩ y3).setCell ⟨t, 4, none⟩ y4).setCell ⟨t, 5, none⟩ y5).setCell ⟨t, 6, none⟩ y6).setCell ⟨t, 7, none⟩ y7).setCell ⟨t, 8, none⟩ y8).setCell ⟨t, 9, none⟩ y9).setCell ⟨t, 10, none⟩ y10 = Z ∧ Ms w b fv0 gv0 cs' fs gs Z := by
  obtain ⟨Z, e1, e2, _⟩ := set11 (h.at_ hm) y0 y1 y2 y3 y4 y5 y6 y7 y8 y9 y10
  exact ⟨Z, e1, h.write hm (by rw [← e1]; exact grown11 W t y0 y1 y2 y3 y4 y5 y6 y7 y8 y9 y10) e2 hc⟩
/-- One cell of a box is written. -/
theorem Ms.lay1 (h : Ms w b fv0 gv0 cs fs gs W) {t : Nat} {T : TypeId} {A : Array Value} (hm : (t, Obj.cells A T) ∈ cs) (i : Nat) (y : Value) (hc : ∀ p ∈ cs', p = (t, Obj.cells (A.setIfInBounds i y) T) ∨ (p ∈ cs ∧ p.1 ≠ t)) :
    ∃ Z, W.setCell ⟨t, i, none⟩ y = Z ∧ Ms w b fv0 gv0 cs' fs gs Z :=
  ⟨_, rfl, h.write hm (grown_set12 W t i y) (heap_setCell_same _ _ i _ _ _ (h.at_ hm)) hc⟩
end

end Go.Proofs.Ythhhocgpoenigaa.Sto

namespace Go.Proofs.Ythhhocgpoenigaa.So
open Go.Proofs.Ythhhocgpoenigaa.Dp

/-- A step, unless one failed ahead of it. -/
def tk (X R : Dk × Int) : Dk × Int := if X.2 = 0 then R else X
theorem tk_go (D : Dk) (R : Dk × Int) : tk (D, 0) R = R := if_pos rfl
theorem z0 : ¬ ((0 : Int) ≠ 0) := fun h => h rfl
theorem tk_no {X R : Dk × Int} (h : X.2 ≠ 0) : tk X R = X := if_neg h
theorem change_nine {D : Dk} {l : List Fl} {own : Int} (h : own ≠ 9) : (change D l own).2 ≠ 9 := by
  unfold change
  split
  · exact fun e => by cases e
  split
  · exact h
  split
  · exact fun e => by cases e
  · split <;> exact fun e => by cases e
theorem create_nine (D : Dk) (n : ByteArray) : (create D n).2 ≠ 9 := by
  unfold create
  split
  · exact change_nine (by decide)
  · split
    · exact change_nine (by decide)
    · exact change_nine (by decide)
theorem delete_nine (D : Dk) (n : ByteArray) : (delete D n).2 ≠ 9 := by
  unfold delete
  split <;> exact change_nine (by decide)
theorem sync_nine (D : Dk) (n : ByteArray) : (sync D n).2 ≠ 9 := by
  unfold sync
  split <;> exact change_nine (by decide)
/-- A file that there was no room for is let go. -/
def wo (D : Dk) (n : ByteArray) : Dk × Int := ((delete D n).1, if (delete D n).2 = 0 then 9 else (delete D n).2)
noncomputable def swapX (s : ByteArray) (X1 : Dk × Int) : Dk × Int :=
  let X2 := tk X1 (create X1.1 nn)
  let X3 := tk X2 (Dp.append X2.1 nn s)
  if X3.2 = 9 then wo X3.1 nn else
  let X4 := tk X3 (sync X3.1 nn)
  tk X4 (rename X4.1 nn nm)
theorem swapX_no {s : ByteArray} {X : Dk × Int} (h : X.2 ≠ 0) (h9 : X.2 ≠ 9) : swapX s X = X := by
  unfold swapX
  dsimp only
  rw [tk_no h, tk_no h, if_neg h9, tk_no h, tk_no h]
theorem swapX_go (C : Dk) (s : ByteArray) : swapX s (C, 0) = swapS C s := by
  unfold swapX swapS
  dsimp only
  rw [tk_go]
  have h9 := create_nine C nn
  obtain ⟨⟨D1, E1⟩, hC⟩ : ∃ R, create C nn = R := ⟨_, rfl⟩
  rw [hC] at h9 ⊢
  by_cases h1 : E1 = 0
  · subst h1
    try dsimp only
    rw [if_neg z0, tk_go]
    by_cases h2 : (Dp.append D1 nn s).2 = 9
    · rw [if_pos h2, if_pos h2]; rfl
    · rw [if_neg h2, if_neg h2]
      obtain ⟨⟨D2, E2⟩, hA⟩ : ∃ R, Dp.append D1 nn s = R := ⟨_, rfl⟩
      rw [hA]
      by_cases h3 : E2 = 0
      · subst h3
        try dsimp only
        rw [if_neg z0, tk_go]
        obtain ⟨⟨D3, E3⟩, hS⟩ : ∃ R, sync D2 nn = R := ⟨_, rfl⟩
        rw [hS]
        by_cases h4 : E3 = 0
        · subst h4
          try dsimp only
          rw [if_neg z0, tk_go]
        · rw [if_pos h4, tk_no h4]
      · have h3b : ((D2, E2) : Dk × Int).2 ≠ 0 := h3
        rw [if_pos h3, tk_no h3b, tk_no h3b]
  · rw [if_pos h1]
    have h1' : (D1, E1).2 ≠ 0 := h1
    rw [tk_no h1', if_neg h9, tk_no h1', tk_no h1']
/-- Swap, step by step. -/
noncomputable def swapP (D : Dk) (m : Qm.Mn) : Dk × Int :=
  swapX ⟨(Qm.putM m).1.toArray⟩ (if (get D.f nn).isSome = true then tk (D, (Qm.putM m).2) (delete D nn) else (D, (Qm.putM m).2))
theorem swap_p (D : Dk) (m : Qm.Mn) : swap D m = swapP D m := by
  unfold swap swapP
  by_cases hm : Qm.Ok m
  · rw [Qm.putM_yes hm]
    dsimp only
    try dsimp only
    rw [if_neg z0, tk_go]
    split
    · have h9 := delete_nine D nn
      obtain ⟨⟨D1, E1⟩, hC⟩ : ∃ R, delete D nn = R := ⟨_, rfl⟩
      rw [hC] at h9 ⊢
      by_cases h1 : E1 = 0
      · subst h1
        try dsimp only
        rw [if_neg z0, swapX_go]
      · rw [if_pos h1, swapX_no h1 h9]
    · rw [swapX_go]
  · rw [Qm.putM_no hm]
    dsimp only
    rw [if_pos (by show (1 : Int) ≠ 0; decide)]
    have h1 : ((D, 1) : Dk × Int).2 ≠ 0 := by show (1 : Int) ≠ 0; decide
    have h9 : ((D, 1) : Dk × Int).2 ≠ 9 := by show (1 : Int) ≠ 9; decide
    split
    · rw [tk_no h1, swapX_no h1 h9]
    · rw [swapX_no h1 h9]
/-- Create, step by step. -/
def new12 (D : Dk) : St := ⟨D, 1, [⟨0, 0, 0⟩], 0, 0, 0, 0⟩
noncomputable def createP (D : Dk) : St × Int :=
  let X1 := tk (D, 0) (create D (segN 0))
  let X2 := tk X1 (swap X1.1 (man (new12 X1.1)))
  if X2.2 ≠ 0 then (⟨X2.1, 0, [], 0, 0, 0, 0⟩, X2.2) else (new12 X2.1, 0)
theorem create_p (D : Dk) : createT D = createP D := by
  unfold createT createP
  dsimp only
  rw [tk_go]
  obtain ⟨⟨D1, E1⟩, hC⟩ : ∃ R, create D (segN 0) = R := ⟨_, rfl⟩
  rw [hC]
  by_cases h1 : E1 = 0
  · subst h1
    try dsimp only
    rw [if_neg z0, tk_go]
    rfl
  · have h1' : (D1, E1).2 ≠ 0 := h1
    rw [if_pos h1', tk_no h1', if_pos h1']
/-- roll, step by step. -/
noncomputable def rollP (S : St) : St × Int :=
  if 64 ≤ S.g.length then (S, 9) else
  let T := (syncT S).1
  let X1 := tk (T.d, (syncT S).2) (create T.d (segN T.x))
  let X2 := tk X1 (swap X1.1 (man (more T X1.1)))
  if X2.2 = 0 then (more T X2.1, 0)
  else if X2.2 = 9 then ({ T with d := (wo X2.1 (segN T.x)).1 }, (wo X2.1 (segN T.x)).2)
  else ({ T with d := X2.1 }, X2.2)
theorem roll_p (S : St) : roll S = rollP S := by
  unfold roll rollP
  split
  · rfl
  have h8 : (syncT S).2 ≠ 9 := sync_nine _ _
  obtain ⟨⟨T, E0⟩, hT⟩ : ∃ R, syncT S = R := ⟨_, rfl⟩
  rw [hT] at h8 ⊢
  dsimp only at h8 ⊢
  by_cases h0 : E0 = 0
  · subst h0
    try dsimp only
    rw [if_neg z0, tk_go]
    have h9 := create_nine T.d (segN T.x)
    obtain ⟨⟨D1, E1⟩, hC⟩ : ∃ R, create T.d (segN T.x) = R := ⟨_, rfl⟩
    rw [hC] at h9 ⊢
    dsimp only at h9 ⊢
    by_cases h1 : E1 = 0
    · subst h1
      try dsimp only
      rw [if_neg z0, tk_go]
      obtain ⟨⟨D2, E2⟩, hW⟩ : ∃ R, swap D1 (man (more T D1)) = R := ⟨_, rfl⟩
      rw [hW]
      dsimp only
      by_cases h2 : E2 = 0
      · subst h2
        rw [if_neg (by decide), if_neg (by simp), if_pos rfl]
      · by_cases h3 : E2 = 9
        · rw [if_pos h3, if_neg h2, if_pos h3]; rfl
        · rw [if_neg h3, if_pos h2, if_neg h2, if_neg h3]
    · have h1' : (D1, E1).2 ≠ 0 := h1
      rw [if_pos h1, tk_no h1']
      dsimp only
      rw [if_neg h1, if_neg h9]
  · have h1' : ((T.d, E0) : Dk × Int).2 ≠ 0 := h0
    rw [if_pos h0, tk_no h1']
    rw [tk_no h1']
    dsimp only
    rw [if_neg h0, if_neg h8]
/-- Append, step by step. -/
noncomputable def appP (S : St) (q : Int) (r : Rp.Rec) : St × Int :=
  open Classical in
  if ¬ (Rp.Ok r ∧ r.a = S.x) then (S, 1)
  else if S.x = 1099511627776 then (S, 13)
  else
    let T := if q ≤ (lastG S).z then (roll S).1 else S
    let E := if q ≤ (lastG S).z then (roll S).2 else 0
    let X := tk (T.d, E) (Dp.append T.d (segN (lastG T).b) ⟨(Rp.putB r).toArray⟩)
    if X.2 ≠ 0 then ({ T with d := X.1 }, X.2) else ({ T with d := X.1, g := grown T.g (Rp.putB r).length, x := T.x + 1 }, 0)
theorem put_p (T : St) (r : Rp.Rec) : put T r = (if (Dp.append T.d (segN (lastG T).b) ⟨(Rp.putB r).toArray⟩).2 ≠ 0 then ({ T with d := (Dp.append T.d (segN (lastG T).b) ⟨(Rp.putB r).toArray⟩).1 }, (Dp.append T.d (segN (lastG T).b) ⟨(Rp.putB r).toArray⟩).2) else ({ T with d := (Dp.append T.d (segN (lastG T).b) ⟨(Rp.putB r).toArray⟩).1, g := grown T.g (Rp.putB r).length, x := T.x + 1 }, 0)) := rfl
theorem app_p (S : St) (q : Int) (r : Rp.Rec) : So.append S q r = appP S q r := by
  unfold So.append appP
  split
  · rfl
  rename_i h
  have h : Rp.Ok r ∧ r.a = S.x := Classical.not_not.1 h
  have hx : 1099511627776 ≤ S.x ↔ S.x = 1099511627776 := by
    have := h.1.2.1
    rw [← h.2]
    omega
  by_cases h2 : 1099511627776 ≤ S.x
  · rw [if_pos h2, if_pos (hx.1 h2)]
  rw [if_neg h2, if_neg fun e => h2 (hx.2 e)]
  by_cases h3 : q ≤ (lastG S).z
  · simp only [if_pos h3]
    obtain ⟨⟨T, E0⟩, hT⟩ : ∃ R, roll S = R := ⟨_, rfl⟩
    rw [hT]
    dsimp only
    by_cases h0 : E0 = 0
    · subst h0
      try dsimp only
      rw [if_neg z0, tk_go, put_p]
    · have h1' : ((T.d, E0) : Dk × Int).2 ≠ 0 := h0
      rw [if_pos h0, tk_no h1']
      dsimp only
      rw [if_pos h0]
  · simp only [if_neg h3]
    rw [tk_go, put_p]

end Go.Proofs.Ythhhocgpoenigaa.So
