/-
  Parts of what the laws of this seat stand on: StoRead, StoVal, ManVal.
-/
import Derived.BigQuiet
import Derived.IntWalk
import Derived.Lib.Hide
import Derived.Test.YtijbpdpkoamhbaaGreatQa1
import Derived.Test.YtijbpdpkoamhbaaGreatQa7
import Derived.Test.YtijbpdpkoamhbaaGreatQa8
import Derived.Test.YtijbpdpkoamhbaaGreatQa9
set_option maxRecDepth 100000
set_option maxHeartbeats 6400000
namespace Go.Proofs.YtijbpdpkoamhbaaGreat
namespace So
open Dp
structure Calm (D : Dk) : Prop where
 x : D.x = false
 a : D.a = false
 c : D.c = 0
theorem Calm.change {D : Dk} (h : Calm D) (l : List Fl) : Dp.change D l 0 = ({ D with f := l }, 0) ∧ Calm { D with f := l } := by
 refine ⟨?_, h.x, h.a, h.c⟩
 unfold Dp.change
 rw [if_neg (by rw [h.x]; decide), if_neg (by decide), if_neg (by rw [h.a]; simp), if_neg (by rw [h.a]; decide)]
theorem Calm.create {D : Dk} (h : Calm D) {n : ByteArray} (hn : Named n) (hg : get D.f n = none) : Dp.create D n = ({ D with f := withF D.f ⟨n, ⟨#[]⟩, 0⟩ }, 0) ∧ Calm (Dp.create D n).1 := by
 have e : Dp.create D n = ({ D with f := withF D.f ⟨n, ⟨#[]⟩, 0⟩ }, 0) := by
  unfold Dp.create
  rw [if_neg (by simpa using hn), hg]
  exact (h.change _).1
 rw [e]
 exact ⟨rfl, (h.change _).2⟩
theorem Calm.append {D : Dk} (h : Calm D) {n s : ByteArray} {f : Fl} (hg : get D.f n = some f) : Dp.append D n s = ({ D with f := withF D.f ⟨f.n, f.d ++ s, f.s⟩ }, 0) ∧ Calm (Dp.append D n s).1 := by
 have e : Dp.append D n s = ({ D with f := withF D.f ⟨f.n, f.d ++ s, f.s⟩ }, 0) := by
  unfold Dp.append
  rw [hg]
  dsimp only
  rw [if_neg (by rw [h.c]; exact fun h => absurd h.1 (by decide))]
  exact (h.change _).1
 rw [e]
 exact ⟨rfl, (h.change _).2⟩
theorem Calm.sync {D : Dk} (h : Calm D) {n : ByteArray} {f : Fl} (hg : get D.f n = some f) : Dp.sync D n = ({ D with f := withF D.f ⟨f.n, f.d, f.d.size⟩ }, 0) ∧ Calm (Dp.sync D n).1 := by
 have e : Dp.sync D n = ({ D with f := withF D.f ⟨f.n, f.d, f.d.size⟩ }, 0) := by
  unfold Dp.sync
  rw [hg]
  exact (h.change _).1
 rw [e]
 exact ⟨rfl, (h.change _).2⟩
theorem Calm.rename {D : Dk} (h : Calm D) {n m : ByteArray} {f : Fl} (hg : get D.f n = some f) (hm : Named m) : Dp.rename D n m = ({ D with f := withF (without D.f n) ⟨m, f.d, f.s⟩ }, 0) ∧ Calm (Dp.rename D n m).1 := by
 have e : Dp.rename D n m = ({ D with f := withF (without D.f n) ⟨m, f.d, f.s⟩ }, 0) := by
  unfold Dp.rename
  rw [hg]
  dsimp only
  rw [if_neg (by simpa using hm)]
  exact (h.change _).1
 rw [e]
 exact ⟨rfl, (h.change _).2⟩
theorem named_nm : Named nm ∧ Named nn := ⟨⟨by decide, by decide⟩, ⟨by decide, by decide⟩⟩
theorem named_seg {b : Int} (h0 : 0 ≤ b) (h1 : b ≤ 1099511627776) : Named (segN b) := by
 obtain ⟨n, rfl⟩ : ∃ n : Nat, b = (n : Int) := ⟨b.toNat, by omega⟩
 have : (segN (n : Int)).size = 14 := Np.name_len 115 (show n ≤ 1099511627776 by omega)
 exact ⟨by omega, by omega⟩
theorem Calm.swapS {D : Dk} (h : Calm D) (hR : Right D) (hg : get D.f nn = none) (s : ByteArray) : (swapS D s).2 = 0 := by
 have c1 := h.create named_nm.2 hg
 have r1 := right0 hR nn
 have g1 : get (Dp.create D nn).1.f nn = some ⟨nn, ⟨#[]⟩, 0⟩ := by rw [c1.1]; exact (get_withF hR.2.1 _ _).trans (if_pos rfl)
 have c2 := c1.2.append (s := s) g1
 have r2 := right1 r1 nn s
 have g2 : ∃ f, get (Dp.append (Dp.create D nn).1 nn s).1.f nn = some f := by rw [c2.1]; exact ⟨_, (get_withF r1.2.1 _ _).trans (if_pos rfl)⟩
 obtain ⟨f2, g2⟩ := g2
 have c3 := c2.2.sync g2
 have g3 : ∃ f, get (Dp.sync (Dp.append (Dp.create D nn).1 nn s).1 nn).1.f nn = some f := by rw [c3.1]; exact ⟨_, (get_withF r2.2.1 _ _).trans (if_pos (get_mem g2).2.symm)⟩
 obtain ⟨f3, g3⟩ := g3
 have c4 := c3.2.rename g3 named_nm.1
 have e1 : (Dp.create D nn).2 = 0 := by rw [c1.1]
 have e2 : (Dp.append (Dp.create D nn).1 nn s).2 = 0 := by rw [c2.1]
 have e3 : (Dp.sync (Dp.append (Dp.create D nn).1 nn s).1 nn).2 = 0 := by rw [c3.1]
 have e4 : (Dp.rename (Dp.sync (Dp.append (Dp.create D nn).1 nn s).1 nn).1 nn nm).2 = 0 := by rw [c4.1]
 unfold So.swapS
 rw [if_neg (by rw [e1]; decide), if_neg (by rw [e2]; decide), if_neg (by rw [e2]; decide), if_neg (by rw [e3]; decide)]
 exact e4
theorem first_ok : Qm.Ok ⟨1, [0], 0, 0⟩ := ⟨by decide, by decide, by decide, by decide, fun i hi => by
 obtain rfl : i = 0 := by simpa using hi
 exact ⟨by decide, by decide, fun h => absurd h (by decide)⟩, .inl ⟨rfl, rfl, rfl⟩, by decide, by decide⟩
theorem create_new {q : Int} (hq : 0 ≤ q) : (createT empty).2 = 0 ∧ Inv q (createT empty).1 [] ∧ (createT empty).1.g = [⟨0, 0, 0⟩] := by
 have h0 : Calm empty := ⟨rfl, rfl, rfl⟩
 have R0 := Right.empty
 have c1 := h0.create (n := segN 0) (named_seg (by decide) (by decide)) rfl
 have e1 : (Dp.create empty (segN 0)).2 = 0 := by rw [c1.1]
 have r1 := right0 R0 (segN 0)
 have hd0 : dat (Dp.create empty (segN 0)).1 (segN 0) = some [] := by rw [create_ok R0 e1, if_pos rfl]
 have hg : get (Dp.create empty (segN 0)).1.f nn = none := by
  rw [c1.1]
  exact (get_withF R0.2.1 _ _).trans (if_neg fun e => (segN_nm (b := 0) (by decide) (by decide)).2 e.symm)
 unfold createT
 rw [if_neg (by rw [e1]; decide)]
 dsimp only
 generalize Dp.create empty (segN 0) = C at *
 have hm : man ⟨C.1, 1, [⟨0, 0, 0⟩], 0, 0, 0, 0⟩ = ⟨1, [0], 0, 0⟩ := rfl
 obtain ⟨w1, w2⟩ := swap_dat r1 (man ⟨C.1, 1, [⟨0, 0, 0⟩], 0, 0, 0, 0⟩)
 have w3 : (swap C.1 (man ⟨C.1, 1, [⟨0, 0, 0⟩], 0, 0, 0, 0⟩)).2 = 0 := by
  unfold swap
  rw [hm, Qm.putM_yes first_ok, if_neg (by decide), hg, if_neg (by decide)]
  exact c1.2.swapS r1 hg _
 rw [if_neg (by rw [w3]; decide)]
 refine ⟨rfl, ⟨w1, by simp, trivial, rfl, Int.le_refl _, Int.le_refl _, [], ⟨0, 0, 0⟩, [], [], rfl, rfl, rfl, rfl, rfl, ?_, rfl, by show (0 : Int) ≤ _; omega⟩, rfl⟩
 show dat (swap C.1 _).1 (segN 0) = _
 rw [w2 _ (segN_nm (b := 0) (by decide) (by decide)).1 (segN_nm (b := 0) (by decide) (by decide)).2, hd0]
 rfl
def recsG (D : Dk) (b : Int) : List Rp.Rec := (Gp.full ((dat D (segN b)).getD []) b).1.map Prod.fst
def readT (S : St) (off : Int) : Rp.Rec × Int :=
 if off < 0 ∨ S.x ≤ off then (Rp.zero, 6)
 else match (S.g.flatMap fun g => recsG S.d g.b).find? fun r => decide (r.a = off) with
  | some r => (r, 0)
  | none => (Rp.zero, 11)
theorem full_row {l : List Rp.Rec} (hok : ∀ r ∈ l, Rp.Ok r) {b : Int} (hr : Gp.Rise b l) (h0 : 0 ≤ b) (h1 : b ≤ 1099511627776) : (Gp.full (Rp.rowB l) b).1.map Prod.fst = l := by
 have := Gp.pls_rows l b 0 [] 0 hok hr (.inl ⟨rfl, rfl⟩)
 rw [List.append_nil] at this
 rw [Gp.full_in (Rp.inB_mk h0 h1), List.drop_zero, this]
 exact Gp.withAt_fst l 0
theorem rise_append : ∀ (b : Int) (l r : List Rp.Rec), Gp.Rise b (l ++ r) → Gp.Rise b l ∧ Gp.Rise (b + l.length) r
 | b, [], r, h => ⟨trivial, by simpa using h⟩
 | b, a :: l, r, h => by
  obtain ⟨h1, h2⟩ := rise_append (b + 1) l r h.2
  refine ⟨⟨h.1, h1⟩, ?_⟩
  rw [List.length_cons, show b + ((l.length + 1 : Nat) : Int) = b + 1 + (l.length : Int) from by omega]
  exact h2
theorem Fulls.recs {D : Dk} {q : Int} : ∀ {t : List Rt.Sg} {b : Int} {rs : List Rp.Rec}, Fulls D q t b rs → (∀ r ∈ rs, Rp.Ok r) → Gp.Rise b rs → 0 ≤ b → b + rs.length ≤ 1099511627776 → (t.flatMap fun g => recsG D g.b) = rs
 | [], _, _, h, _, _, _, _ => by rw [show _ = [] from h]; rfl
 | g :: t, b, rs, ⟨a1, l, r, a2, a3, a4, a5, a6, a7, a8, a9⟩, hok, hr, h0, h1 => by
  subst a2
  rw [List.length_append] at h1
  obtain ⟨i1, i2⟩ := rise_append b l r hr
  rw [List.flatMap_cons, a9.recs (fun y hy => hok y (List.mem_append_right _ hy)) (by rw [a4]; exact i2) (by omega) (by omega)]
  congr 1
  unfold recsG
  rw [a1, a5]
  exact full_row (fun y hy => hok y (List.mem_append_left _ hy)) i1 h0 (by omega)
theorem find_at : ∀ (b : Int) (rs : List Rp.Rec), Gp.Rise b rs → ∀ i (h : i < rs.length), rs.find? (fun r => decide (r.a = b + i)) = some rs[i]
 | b, a :: l, h, 0, _ => by
  rw [List.find?_cons_of_pos (by have := h.1; simp; omega)]
  rfl
 | b, a :: l, h, i + 1, hi => by
  have := find_at (b + 1) l h.2 i (by simpa using hi)
  rw [List.find?_cons_of_neg (by have := h.1; simp; omega), List.getElem_cons_succ]
  rw [← this]
  congr 1
  funext r
  congr 1
  exact propext ⟨fun h => by omega, fun h => by omega⟩
end So
namespace Sto
open Go.RowKit So Dsk Rts
def Sep (v : Value) (t : Nat) : Prop := ∀ a k c, v = .slice (some a) k c → 0 < k → a.block ≠ t
theorem Sep.nil (t c : Nat) (a : Option Addr) : Sep (.slice a 0 c) t := fun _ _ _ e h => by injection e with _ e2; omega
section
variable {α : Type} {Y : Lay α} {W : World} {v : Value} {l : List α} {t : Nat}
theorem IsL.blk (h : IsL Y W v l) {a : Addr} {k c : Nat} (e : v = .slice (some a) k c) (hk : 0 < k) : a.block < W.heap.size := by
 subst e
 obtain ⟨a', cap', e, _, _, h3⟩ := h
 injection e with e1 e2 e3
 rcases h3 with h3 | ⟨b, off, h4, h5⟩
 · subst h3; simp at e2; omega
 · rw [← e1] at h4
   injection h4 with h4
   subst h4
   have h6 : 0 < (Y.vals l).length := by rw [Y.vals_len, ← e2]; exact Nat.mul_pos hk Y.pos
   have := h5 0 _ (List.getElem?_eq_getElem h6)
   exact block_lt_of_cell this
theorem IsL.sep_new (h : IsL Y W v l) (ht : W.heap.size ≤ t) : Sep v t := fun _ _ _ e hk => by have := IsL.blk h e hk; omega
theorem IsL.setC (h : IsL Y W v l) (hs : Sep v t) (o : Nat) (x : Value) : IsL Y (W.setCell ⟨t, o, none⟩ x) v l := by
 obtain ⟨a, cap, rfl, h1, h2, h3⟩ := h
 refine ⟨a, cap, rfl, h1, h2, ?_⟩
 rcases h3 with h3 | ⟨b, off, rfl, h4⟩
 · exact .inl h3
 · by_cases h0 : l = []
   · exact .inl h0
   · refine .inr ⟨b, off, rfl, fun j u hj => ?_⟩
     rw [World.cell?_setCell_other _ _ _ _ (fun e => hs _ _ _ rfl (List.length_pos_iff.2 h0) (by injection e with e; exact e.symm))]
     exact h4 j u hj
theorem IsL.set5 (h : IsL Y W v l) (hs : Sep v t) (x y z u q : Value) : IsL Y (set5 W t x y z u q) v l :=
 IsL.setC (IsL.setC (IsL.setC (IsL.setC (IsL.setC h hs _ _) hs _ _) hs _ _) hs _ _) hs _ _
theorem own_sep {B : Nat} (h : OwnL Y W B v l) (ht : t < B) : Sep v t := fun a k c e hk => by
 subst e
 rcases h.2 with ⟨e, _⟩ | ⟨g, cap, cur, e, h1, _⟩
 · cases e
 · injection e with e1
   injection e1 with e1
   subst e1
   show g ≠ t
   omega
end
theorem row_not {W : World} {k : Nat} {cs : Array Value} {t e : TypeId} {fz : Nat × Nat} (h : W.heap[k]? = some (.cells cs t fz)) (hte : t ≠ e) {base size n : Nat} {v : Value} {xs : List Value} (hr : W.ownsRow base e size v n xs) : some k ≠ v.ownBlock := by
 rcases hr.2 with ⟨rfl, _⟩ | ⟨g, cap, cur, rfl, _, hgb, _⟩
 · simp [Value.ownBlock]
 · intro e'
   obtain rfl : k = g := by simpa [Value.ownBlock] using e'
   rw [h] at hgb
   injection hgb with hgb
   injection hgb with _ e1
   exact hte e1
theorem row_grown {W W' : World} {k : Nat} {cs : Array Value} {t e : TypeId} {fz : Nat × Nat} (h : W.heap[k]? = some (.cells cs t fz)) (hte : t ≠ e) {base size n : Nat} {v : Value} {xs : List Value} (hr : W.ownsRow base e size v n xs) (hg : W.grownBy W' v.ownBlock) : W'.heap[k]? = some (.cells cs t fz) :=
 (hg.block k (Array.getElem?_eq_some_iff.1 h).1 (row_not h hte hr)).trans h
theorem cell_grown {W W' : World} {b o : Nat} {x : Value} (h : W.cell? ⟨b, o, none⟩ = some x) {e : TypeId} {base size n : Nat} {v : Value} {xs : List Value} (hr : W.ownsRow base e size v n xs) (hb : b < base) (hg : W.grownBy W' v.ownBlock) : W'.cell? ⟨b, o, none⟩ = some x :=
 (World.cell?_of_block (hg.block b (block_lt_of_cell h) (fun e' => by have := (World.ownsRow.lt hr b e'.symm).1; omega))).trans h
structure DkS (w : World) (fv : Value) (R : Dp.Dk) (fv' : Value) (w' : World) : Prop where
 f : IsL FL w' fv' R.f
 s : ∀ t, t < w.heap.size → Sep fv t → Sep fv' t
 w : Below w.heap.size w w'
theorem rk_s {w : World} {fv : Value} {l0 : List Dp.Fl} {R : Dp.Dk × Int} {e : Ending} {w' : World} (h : RkOut w fv l0 R e w') (hv : IsL FL w fv l0) (hS : Sm R.1) : ∃ a n c, e = .returned (.tuple #[dkVal (.slice a n c) R.1, .int .i64 R.2]) ∧ DkS w fv R.1 (.slice a n c) w' := by
 obtain ⟨a, n, c, rfl, hk, hb⟩ := h
 refine ⟨a, n, c, rfl, ?_, ?_, hb⟩
 · rcases hk with ⟨e1, e2⟩ | hk
   · rw [e1, e2]; exact hv.keep hb
   · exact hk.is (by have := hS.n; unfold maxLen; omega) hS.flb
 · intro t ht hs
   rcases hk with ⟨e1, _⟩ | hk
   · rw [e1]; exact hs
   · exact own_sep hk ht
def stVal (fv gv : Value) (S : St) : Value := .agg #[fv, .int .i64 S.d.c, .bool S.d.a, .int .i64 S.d.l, .bool S.d.x, .int .i64 S.v, gv, .int .i64 S.x, .int .i64 S.s, .int .i64 S.z, .int .u32 S.c]
def stCells (fv gv : Value) (S : St) : Array Value := #[fv, .int .i64 S.d.c, .bool S.d.a, .int .i64 S.d.l, .bool S.d.x, .int .i64 S.v, gv, .int .i64 S.x, .int .i64 S.s, .int .i64 S.z, .int .u32 S.c]
structure Stb (S : St) : Prop where
 d : Sm S.d
 v : 0 ≤ S.v ∧ S.v ≤ 1152921504606846976
 n : S.g.length ≤ 1000
 g : ∀ g ∈ S.g, (0 ≤ g.b ∧ g.b ≤ 1152921504606846976) ∧ (0 ≤ g.n ∧ g.n ≤ 1152921504606846976) ∧ (0 ≤ g.z ∧ g.z ≤ 1152921504606846976)
 x : 0 ≤ S.x ∧ S.x ≤ 1152921504606846976
 s : 0 ≤ S.s ∧ S.s ≤ 1152921504606846976
 z : 0 ≤ S.z ∧ S.z ≤ 1152921504606846976
 c : 0 ≤ S.c ∧ S.c < 4294967296
structure StS (w : World) (fv gv : Value) (R : St) (fv' gv' : Value) (w' : World) : Prop where
 f : IsL FL w' fv' R.d.f
 g : IsL SL w' gv' R.g
 s : ∀ t, t < w.heap.size → Sep fv t → Sep gv t → Sep fv' t ∧ Sep gv' t
 w : Below w.heap.size w w'
def StOut (w : World) (fv gv : Value) (R : St × Int) (e : Ending) (w' : World) : Prop := ∃ fa fn fc ga gn gc, e = .returned (.tuple #[stVal (.slice fa fn fc) (.slice ga gn gc) R.1, .int .i64 R.2]) ∧ StS w fv gv R.1 (.slice fa fn fc) (.slice ga gn gc) w'
theorem cellsS {W : World} {k : Nat} {T : TypeId} {a b c d e f g h i j l : Value} (hh : W.heap[k]? = some (.cells #[a, b, c, d, e, f, g, h, i, j, l] T (0, 0))) :
 (W.cell? ⟨k, 0, none⟩ = some a ∧ W.cell? ⟨k, 1, none⟩ = some b ∧ W.cell? ⟨k, 2, none⟩ = some c ∧ W.cell? ⟨k, 3, none⟩ = some d ∧ W.cell? ⟨k, 4, none⟩ = some e) ∧ W.cell? ⟨k, 5, none⟩ = some f ∧ W.cell? ⟨k, 6, none⟩ = some g ∧ W.cell? ⟨k, 7, none⟩ = some h ∧ W.cell? ⟨k, 8, none⟩ = some i ∧ W.cell? ⟨k, 9, none⟩ = some j ∧ W.cell? ⟨k, 10, none⟩ = some l :=
 ⟨⟨by rw [Lib.cell_of_heap hh]; rfl, by rw [Lib.cell_of_heap hh]; rfl, by rw [Lib.cell_of_heap hh]; rfl, by rw [Lib.cell_of_heap hh]; rfl, by rw [Lib.cell_of_heap hh]; rfl⟩, by rw [Lib.cell_of_heap hh]; rfl, by rw [Lib.cell_of_heap hh]; rfl, by rw [Lib.cell_of_heap hh]; rfl, by rw [Lib.cell_of_heap hh]; rfl, by rw [Lib.cell_of_heap hh]; rfl, by rw [Lib.cell_of_heap hh]; rfl⟩
theorem frozenS {W : World} {k : Nat} {T : TypeId} {cs : Array Value} (h : W.heap[k]? = some (.cells cs T (0, 0))) : ∀ o, W.frozen? ⟨k, o, none⟩ = false := fun o => Lib.frozen_of_heap h o
theorem rlast_any (fv gv : Value) (S : St) (w : World) (hg : IsL SL w gv S.g) (hn : S.g ≠ []) (hB : Stb S) :
 Calls Tryz.prog 60 #[stVal fv gv S] w fun e w' => e = .returned (.string (segN (lastG S).b)) ∧ Below w.heap.size w w' := by
 obtain ⟨ga, gn, gc, rfl⟩ : ∃ a n c, gv = .slice a n c := by obtain ⟨a, c, h, _⟩ := hg; exact ⟨a, _, c, h⟩
 have hgl := hg.len.1
 have hpos : 0 < S.g.length := List.length_pos_iff.2 hn
 obtain ⟨m, rfl⟩ : ∃ m, gn = m + 1 := ⟨gn - 1, by omega⟩
 have hm : S.g.length - 1 = m := by omega
 have hn2 := hB.n
 have C := zid fun W : World => rseg_any (lastG S).b W (by
  have := (hB.g (lastG S) (by unfold lastG; rw [getD_lt (show S.g.length - 1 < S.g.length by omega)]; exact List.getElem_mem _)).1
  omega)
 have HG := zid fun (W : World) (b : Below w.heap.size w W) => sg_at (hg.keep b) (Nat.lt_succ_self m)
 have HL := zid (show S.g.getD m Rt.zero = lastG S by unfold lastG; rw [hm])
 rw [HL.out] at HG
 generalize lastG S = g at *
 unfold stVal
 have hb0 := zid ((Below.refl w.heap.size w).alloc (Nat.le_refl _) (.cells (stCells fv (.slice ga (m + 1) gc) S) 32))
 have g0 := heap_alloc_new w (.cells (stCells fv (.slice ga (m + 1) gc) S) 32)
 unfold stCells at hb0 g0
 obtain ⟨b, off, rfl, c0, _, _⟩ := HG.out _ hb0.out
 obtain ⟨⟨d0, d1, d2, d3, d4⟩, d5, d6, d7, d8, d9, d10⟩ := cellsS g0
 have hmw : IntKind.i64.wrap (((m + 1 : Nat) : Int) - 1) = (m : Int) := by
  rw [show ((m + 1 : Nat) : Int) - 1 = (m : Int) from by omega]
  exact IntWalk.i64_in _ ⟨by omega, by omega⟩
 have hmw2 : IntKind.i64.wrap (m : Int) = (m : Int) := IntWalk.i64_in _ ⟨by omega, by omega⟩
 clear hg hgl hpos hm hn hB g0
 go_enter Tryz.func60, Tryz.ntmps60
 go_wp2_with fail
 refine (C.out _).mono ?_
 rintro e w1 ⟨rfl, b1⟩
 have B1 := zid (hb0.out.trans (b1.mono hb0.out.size))
 clear b1
 go_wp2_with fail
 go_ret
 exact ⟨rfl, B1.out⟩
end Sto
namespace Mfs
open Go.RowKit Qm
def IL : Lay Int where
 enc := fun n => [.int .i64 n]
 k := 1
 len := fun _ => rfl
 one := by intro f u hu; rw [List.mem_singleton] at hu; subst hu; rfl
 pos := by decide
 T := 3
 ok := fun n => -9223372036854775808 ≤ n ∧ n ≤ 9223372036854775807
 z := 0
theorem il_at {w : World} {fa : Option Addr} {fn fc : Nat} {l : List Int} (h : IsL IL w (.slice fa fn fc) l) {i : Nat} (hi : i < fn) :
 ∃ b off, fa = some ⟨b, off, none⟩ ∧ w.cell? ⟨b, off + i, none⟩ = some (.int .i64 (l.getD i 0)) := by
 have h' := h
 obtain ⟨a', cap', e, _, _, h3⟩ := h
 injection e with e1 e2 e3
 rcases h3 with h3 | ⟨b, off, h4, _⟩
 · rw [h3] at e2; simp at e2; omega
 · subst e1
   subst h4
   have := h'.at_ hi 0 _ rfl
   rw [show off + i * IL.k + 0 = off + i from by show off + i * 1 + 0 = _; omega] at this
   exact ⟨b, off, rfl, this⟩
theorem drewN_two (w : World) (a b : Nat) : (w.drewN a).drewN b = w.drewN (a + b) := by unfold World.drewN; simp [Nat.add_assoc]
def mnVal (fa : Option Addr) (fn fc : Nat) (m : Mn) : Value := .agg #[.int .i64 m.v, .slice fa fn fc, .int .i64 m.z, .int .u32 m.c]
structure MnB (m : Mn) : Prop where
 v : -9223372036854775808 ≤ m.v ∧ m.v ≤ 9223372036854775807
 z : -9223372036854775808 ≤ m.z ∧ m.z ≤ 9223372036854775807
 c : 0 ≤ m.c ∧ m.c < 4294967296
theorem cells4 {W : World} {k : Nat} {T : TypeId} {x y z u : Value} (h : W.heap[k]? = some (.cells #[x, y, z, u] T (0, 0))) : W.cell? ⟨k, 0, none⟩ = some x ∧ W.cell? ⟨k, 1, none⟩ = some y ∧ W.cell? ⟨k, 2, none⟩ = some z ∧ W.cell? ⟨k, 3, none⟩ = some u :=
 ⟨by rw [cell_of_row _ _ 0 _ _ _ h]; rfl, by rw [cell_of_row _ _ 1 _ _ _ h]; rfl, by rw [cell_of_row _ _ 2 _ _ _ h]; rfl, by rw [cell_of_row _ _ 3 _ _ _ h]; rfl⟩
theorem at_cases (l : List Int) (k : Nat) :
 (¬ AtOk l k ∧ (l.getD k 0 < 0 ∨ (0 ≤ l.getD k 0 ∧ 1099511627776 < l.getD k 0) ∨ (0 ≤ l.getD k 0 ∧ l.getD k 0 ≤ 1099511627776 ∧ ∃ j, k = j + 1 ∧ l.getD k 0 ≤ l.getD j 0))) ∨
 (AtOk l k ∧ 0 ≤ l.getD k 0 ∧ l.getD k 0 ≤ 1099511627776 ∧ (k = 0 ∨ ∃ j, k = j + 1 ∧ l.getD j 0 < l.getD k 0)) := by
 by_cases h1 : l.getD k 0 < 0
 · exact .inl ⟨fun h => by have := h.1; omega, .inl h1⟩
 · by_cases h2 : 1099511627776 < l.getD k 0
   · exact .inl ⟨fun h => by have := h.2.1; omega, .inr (.inl ⟨by omega, h2⟩)⟩
   · cases k with
     | zero => exact .inr ⟨⟨by omega, by omega, fun h => absurd h (Nat.lt_irrefl 0)⟩, by omega, by omega, .inl rfl⟩
     | succ j =>
      by_cases h3 : l.getD j 0 < l.getD (j + 1) 0
      · exact .inr ⟨⟨by omega, by omega, fun _ => h3⟩, by omega, by omega, .inr ⟨j, rfl, h3⟩⟩
      · exact .inl ⟨fun h => h3 (h.2.2 (by omega)), .inr (.inr ⟨by omega, by omega, j, rfl, by omega⟩)⟩
theorem all_next {l : List Int} {k : Nat} (h : ∀ j, j < k → AtOk l j) (hk : AtOk l k) : ∀ j, j < k + 1 → AtOk l j := by
 intro j hj
 by_cases e : j = k
 · subst e; exact hk
 · exact h j (by omega)
theorem rright10_any (fa : Option Addr) (fn fc : Nat) (m : Mn) (b : Bool) (w : World) (hv : IsL IL w (.slice fa fn fc) m.l) (hB : MnB m) (hb : b = true ↔ Ok m) :
 Calls Tryz.prog 131 #[mnVal fa fn fc m] w fun e w' => e = .returned (.bool b) ∧ Below w.heap.size w w' := by
 have HV := zid hv
 have hfl := hv.len.1
 have hfm : fn ≤ 9223372036854775807 := by have := hv.len.2; unfold maxLen at this; omega
 have HN := zid (show ¬ Ok m → b = false from fun h => by rw [← Bool.not_eq_true, hb]; exact h)
 have HY := zid (show Ok m → b = true from hb.2)
 have HFL := zid hfl
 obtain ⟨⟨v0, v1⟩, ⟨z0, z1⟩, c0, c1⟩ := hB
 obtain ⟨mv, ml, mz, mc⟩ := m
 unfold mnVal
 dsimp only at *
 have HA := zid ((Below.refl w.heap.size w).alloc (Nat.le_refl _) (.cells #[.int .i64 mv, .slice fa fn fc, .int .i64 mz, .int .u32 mc] 82))
 obtain ⟨x0, x1, x2, x3⟩ := cells4 (heap_alloc_new w (.cells #[.int .i64 mv, .slice fa fn fc, .int .i64 mz, .int .u32 mc] 82))
 clear hv hb hfl
 by_cases g1 : mv < 1
 · have HF := zid (HN.out fun h => by have := h.v0; dsimp only at this; omega)
   go_enter Tryz.func131, Tryz.ntmps131
   go_wp2_with fail
   go_ret
   exact ⟨by rw [HF.out]; rfl, HA.out⟩
 have e1 : decide (mv < 1) = false := by simpa using g1
 by_cases g2 : 1099511627776 < mv
 · have HF := zid (HN.out fun h => by have := h.v1; dsimp only at this; omega)
   go_enter Tryz.func131, Tryz.ntmps131
   go_wp2_with fail
   go_ret
   exact ⟨by rw [HF.out]; rfl, HA.out⟩
 have e2 : decide ((1099511627776 : Int) < mv) = false := by simpa using g2
 by_cases g3 : (fn : Int) < 1
 · have HF := zid (HN.out fun h => by have := h.n0; dsimp only at this; rw [← HFL.out] at this; omega)
   go_enter Tryz.func131, Tryz.ntmps131
   go_wp2_with fail
   go_ret
   exact ⟨by rw [HF.out]; rfl, HA.out⟩
 have e3 : decide ((fn : Int) < 1) = false := by simp; omega
 by_cases g4 : (64 : Int) < (fn : Int)
 · have HF := zid (HN.out fun h => by have := h.n1; dsimp only at this; rw [← HFL.out] at this; omega)
   go_enter Tryz.func131, Tryz.ntmps131
   go_wp2_with fail
   go_ret
   exact ⟨by rw [HF.out]; rfl, HA.out⟩
 have e4 : decide ((64 : Int) < (fn : Int)) = false := by simp; omega
 go_enter Tryz.func131, Tryz.ntmps131
 go_wp2_with fail
 generalize World.alloc w _ = w0 at HA x0 x1 x2 x3 ⊢
 go_loopw [3] (fun i wr => ∃ k n : Nat, k ≤ fn ∧ i = .int .i64 k ∧ (∀ j, j < k → AtOk ml j) ∧ wr = w0.drewN n) (fun i _ => fn - (intOf i).toNat)
 case atStart => exact ⟨0, 0, Nat.zero_le _, rfl, fun j hj => absurd hj (Nat.not_lt_zero j), rfl⟩
 case round =>
  obtain ⟨k, n, hk, rfl, hall, rfl⟩ := hrel
  have HALL := zid hall
  have HBn := zid fun q : Nat => HA.out.trans ((bel_drewN (w := w0) q).mono HA.out.size)
  clear hall
  by_cases hlt : k < fn
  · obtain ⟨g, off, rfl, y0⟩ := il_at (HV.out.keep HA.out) hlt
    rcases at_cases ml k with ⟨hno, hbad⟩ | ⟨hyes, i1, i2, hy⟩
    · have HF := zid (HN.out fun h => hno (h.at_ k (by dsimp only; rw [← HFL.out]; exact hlt)))
      clear hno
      rcases hbad with i1 | ⟨i1, i2⟩ | ⟨i1, i2, j, rfl, i3⟩
      · generalize ml.getD k 0 = f at *
        go_wp2_with fail
        go_quiet (fail)
        go_wp2_with fail
        go_ret
        exact ⟨by rw [HF.out]; rfl, by rw [drewN_two]; exact HBn.out _⟩
      · generalize ml.getD k 0 = f at *
        have q1 : decide (f < 0) = false := by simpa using i1
        go_wp2_with fail
        go_quiet (fail)
        go_wp2_with fail
        go_ret
        exact ⟨by rw [HF.out]; rfl, by rw [drewN_two]; exact HBn.out _⟩
      · obtain ⟨g', off', e, u0⟩ := il_at (HV.out.keep HA.out) (show j < fn by omega)
        obtain ⟨rfl, rfl⟩ : g = g' ∧ off = off' := by simpa using e
        generalize ml.getD (j + 1) 0 = f at *
        generalize ml.getD j 0 = f' at *
        have q1 : decide (f < 0) = false := by simpa using i1
        have q2 : decide ((1099511627776 : Int) < f) = false := by simpa using i2
        have q4 : decide (0 < j + 1) = true := by simp
        have hjn : j < fn := by omega
        have hwr : IntKind.i64.wrap (j : Int) = (j : Int) := IntWalk.i64_in _ ⟨by omega, by omega⟩
        clear e
        go_wp2_with fail
        go_quiet (fail)
        go_wp2_with fail
        go_ret
        exact ⟨by rw [HF.out]; rfl, by rw [drewN_two]; exact HBn.out _⟩
    · have GY := zid (all_next HALL.out hyes)
      clear hyes
      rcases hy with rfl | ⟨j, rfl, i3⟩
      · rw [Nat.add_zero] at y0
        generalize ml.getD 0 0 = f at *
        have q1 : decide (f < 0) = false := by simpa using i1
        have q2 : decide ((1099511627776 : Int) < f) = false := by simpa using i2
        go_wp2_with fail
        go_quiet (fail)
        go_wp2_with fail
        go_roundw
        case rel => exact ⟨_, _, by omega, by go_num, GY.out, rfl⟩
        case measure => simp [intOf]; omega
      · obtain ⟨g', off', e, u0⟩ := il_at (HV.out.keep HA.out) (show j < fn by omega)
        obtain ⟨rfl, rfl⟩ : g = g' ∧ off = off' := by simpa using e
        generalize ml.getD (j + 1) 0 = f at *
        generalize ml.getD j 0 = f' at *
        have q1 : decide (f < 0) = false := by simpa using i1
        have q2 : decide ((1099511627776 : Int) < f) = false := by simpa using i2
        have q4 : decide (0 < j + 1) = true := by simp
        have q3 : decide (f ≤ f') = false := by simpa using i3
        have hjn : j < fn := by omega
        have hwr : IntKind.i64.wrap (j : Int) = (j : Int) := IntWalk.i64_in _ ⟨by omega, by omega⟩
        clear e
        go_wp2_with fail
        go_quiet (fail)
        go_wp2_with fail
        go_roundw
        case rel => exact ⟨_, _, by first | (clear hwr; omega) | omega, by go_num, GY.out, rfl⟩
        case measure => first | (clear hwr; simp [intOf]; omega) | (simp [intOf]; omega)
  · obtain ⟨g, off, rfl, y0⟩ := il_at (HV.out.keep HA.out) (show 0 < fn by omega)
    rw [Nat.add_zero] at y0
    have HOK := zid (show ((ml.getD 0 0 = 0 ∧ mz = 0 ∧ mc = 0) ∨ (ml.getD 0 0 ≠ 0 ∧ 1 ≤ mz ∧ mz ≤ 65536)) → b = true from fun h => HY.out ⟨by dsimp only; omega, by dsimp only; omega, by dsimp only; rw [← HFL.out]; omega, by dsimp only; rw [← HFL.out]; omega, fun i hi => HALL.out i (by dsimp only at hi; rw [← HFL.out] at hi; omega), h, ⟨c0, c1⟩⟩)
    have HNO := zid (show ¬ ((ml.getD 0 0 = 0 ∧ mz = 0 ∧ mc = 0) ∨ (ml.getD 0 0 ≠ 0 ∧ 1 ≤ mz ∧ mz ≤ 65536)) → b = false from fun h => HN.out fun hk => h hk.z)
    generalize ml.getD 0 0 = f at *
    have hk2 : ¬ (k : Int) < (fn : Int) := by omega
    by_cases h0 : f = 0
    · subst h0
      have HV2 := zid (show (decide (mz = 0) && decide (mc = 0)) = b by
       by_cases h1 : mz = 0 ∧ mc = 0
       · rw [HOK.out (.inl ⟨rfl, h1⟩)]; simp [h1.1, h1.2]
       · rw [HNO.out fun h => by rcases h with h | h; exact h1 h.2; exact h.1 rfl]
         simp; exact fun a c => h1 ⟨a, c⟩)
      by_cases h1 : mz = 0
      · subst h1
        by_cases h2 : mc = 0
        · subst h2
          go_wp2_with fail
          go_ret
          exact ⟨by rw [← HV2.out]; rfl, HBn.out _⟩
        · have q1 : (mc == 0) = false := by simpa using h2
          have HF := zid (show b = false by rw [← HV2.out]; simp [h2])
          clear h2
          go_wp2_with fail
          go_ret
          exact ⟨by rw [HF.out]; rfl, HBn.out _⟩
      · have q1 : (mz == 0) = false := by simpa using h1
        have HF := zid (show b = false by rw [← HV2.out]; simp [h1])
        clear h1
        go_wp2_with fail
        go_ret
        exact ⟨by rw [HF.out]; rfl, HBn.out _⟩
    · have q0 : (f == 0) = false := by simpa using h0
      have HOK2 := zid (fun h => HOK.out (.inr ⟨h0, h⟩))
      have HNO2 := zid (show ¬ (1 ≤ mz ∧ mz ≤ 65536) → b = false from fun h => HNO.out fun h' => by
       rcases h' with h' | h'
       · exact h0 h'.1
       · exact h h'.2)
      clear h0
      by_cases h1 : 1 ≤ mz
      · by_cases h2 : mz ≤ 65536
        · have HF := zid (HOK2.out ⟨h1, h2⟩)
          go_wp2_with fail
          go_ret
          exact ⟨by rw [HF.out]; rfl, HBn.out _⟩
        · have HF := zid (HNO2.out fun h => h2 h.2)
          have q2 : decide (mz ≤ 65536) = false := by simpa using h2
          go_wp2_with fail
          go_ret
          exact ⟨by rw [HF.out]; rfl, HBn.out _⟩
      · have HF := zid (HNO2.out fun h => h1 h.1)
        have q1 : decide (1 ≤ mz) = false := by simpa using h1
        go_wp2_with fail
        go_ret
        exact ⟨by rw [HF.out]; rfl, HBn.out _⟩
end Mfs
end Go.Proofs.YtijbpdpkoamhbaaGreat
