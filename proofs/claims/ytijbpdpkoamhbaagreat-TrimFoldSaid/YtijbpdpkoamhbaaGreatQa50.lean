/-
  Parts of what the laws of this seat stand on: TrmFv.
-/
import Derived.Test.YtijbpdpkoamhbaaGreatQa1
import Derived.Test.YtijbpdpkoamhbaaGreatQa19
import Derived.Test.YtijbpdpkoamhbaaGreatQa47
import Derived.Test.YtijbpdpkoamhbaaGreatQa48
import Derived.Test.YtijbpdpkoamhbaaGreatQa49
set_option maxRecDepth 100000
set_option maxHeartbeats 6400000
namespace Go.Proofs.YtijbpdpkoamhbaaGreat
namespace Trm
open Go.RowKit So Dsk Rts Sto
def RL : Lay Rp.Rec where
 enc := fun r => [.int .i64 r.a, .int .i64 r.t, .string r.d]
 k := 3
 len := fun _ => rfl
 one := by intro f u hu; simp at hu; rcases hu with rfl | rfl | rfl <;> rfl
 pos := by decide
 T := 47
 ok := fun _ => True
 z := Rp.zero
def recD (d : ByteArray) : Rp.Rec := ⟨0, 0, d⟩
structure Fv (w : World) (hh t : Nat) (n0 n1 : Int) (v : Value) (rs : List Rp.Rec) (S : St) (W : World) : Prop where
 b : BxR (withRow t v) t S W
 o : OwnL RL W (t + 1) v rs
 h : W.heap[hh]? = some (.cells #[.int .i64 n0, .int .i64 n1] 23 (0, 0))
 l : w.heap.size ≤ hh ∧ hh < t
 w : Below w.heap.size w W
section
variable {w0 W W' : World} {hh t x : Nat} {n0 n1 : Int} {v v' : Value} {rs : List Rp.Rec} {S T : St}
theorem Fv.keep (k : Fv w0 hh t n0 n1 v rs S W) (b : Below W.heap.size W W') : Fv w0 hh t n0 n1 v rs S W' :=
 ⟨k.b.keep b, k.o.keep b, hkeep k.h b, k.l, k.w.trans (b.mono k.w.size)⟩
theorem Fv.lt (k : Fv w0 hh t n0 n1 v rs S W) : t < W.heap.size := by obtain ⟨_, _, _, _, _, _, h⟩ := k.b; exact h.lt
theorem Fv.row (k : Fv w0 hh t n0 n1 v rs S W) : ∀ q, v.ownBlock = some q → q ≠ t := fun q hq => by have := (k.o.lt q hq).1; omega
theorem Fv.hP (k : Fv w0 hh t n0 n1 v rs S W) : ∀ p ∈ withRow t v, p < W.heap.size := withRow_lt k.lt k.o
theorem Fv.set (k : Fv w0 hh t n0 n1 v rs S W) {f g : Value} (hf : IsL FL W f T.d.f) (hg : IsL SL W g T.g) (hs : ∀ p ∈ withRow t v, Sep f p ∧ Sep g p) (hsl : ∃ a n c, f = .slice a n c) (hsg : ∃ a n c, g = .slice a n c) :
 ∃ Z, ((((((((((W.setCell ⟨t, 0, none⟩ f).setCell ⟨t, 1, none⟩ (.int .i64 T.d.c)).setCell ⟨t, 2, none⟩ (.bool T.d.a)).setCell ⟨t, 3, none⟩ (.int .i64 T.d.l)).setCell ⟨t, 4, none⟩ (.bool T.d.x)).setCell ⟨t, 5, none⟩ (.int .i64 T.v)).setCell ⟨t, 6, none⟩ g).setCell ⟨t, 7, none⟩ (.int .i64 T.x)).setCell ⟨t, 8, none⟩ (.int .i64 T.s)).setCell ⟨t, 9, none⟩ (.int .i64 T.z)).setCell ⟨t, 10, none⟩ (.int .u32 T.c) = Z ∧ Fv w0 hh t n0 n1 v rs T Z := by
 obtain ⟨a, n, c, a', n', c', B⟩ := k.b
 obtain ⟨b, m, d, rfl⟩ := hsl
 obtain ⟨b', m', d', rfl⟩ := hsg
 obtain ⟨Z, e1, e2, e3, e4, e5, e6⟩ := set11 B.d (.slice b m d) (.int .i64 T.d.c) (.bool T.d.a) (.int .i64 T.d.l) (.bool T.d.x) (.int .i64 T.v) (.slice b' m' d') (.int .i64 T.x) (.int .i64 T.s) (.int .i64 T.z) (.int .u32 T.c)
 exact ⟨Z, e1, ⟨⟨b, m, d, b', m', d', e2, e4 _ _ hf (hs t (withRow_box _ _)).1, e5 _ _ hg (hs t (withRow_box _ _)).2, hs⟩, own_other k.o e1.symm k.row, e3 hh (by have := k.l; omega) _ k.h, k.l, e6 _ _ (by have := k.l; omega) k.w⟩⟩
theorem Fv.lay {f g f' g' : Value} (k : Fv w0 hh t n0 n1 v rs S W) (B : Bx (withRow t v) t f g S W) (c : StS W f g T f' g' W') (hsl : ∃ a n c, f' = .slice a n c) (hsg : ∃ a n c, g' = .slice a n c) :
 ∃ Z, ((((((((((W'.setCell ⟨t, 0, none⟩ f').setCell ⟨t, 1, none⟩ (.int .i64 T.d.c)).setCell ⟨t, 2, none⟩ (.bool T.d.a)).setCell ⟨t, 3, none⟩ (.int .i64 T.d.l)).setCell ⟨t, 4, none⟩ (.bool T.d.x)).setCell ⟨t, 5, none⟩ (.int .i64 T.v)).setCell ⟨t, 6, none⟩ g').setCell ⟨t, 7, none⟩ (.int .i64 T.x)).setCell ⟨t, 8, none⟩ (.int .i64 T.s)).setCell ⟨t, 9, none⟩ (.int .i64 T.z)).setCell ⟨t, 10, none⟩ (.int .u32 T.c) = Z ∧ Fv w0 hh t n0 n1 v rs T Z :=
 (k.keep c.w).set c.f c.g (fun p hp => c.s p (k.hP p hp) (B.s p hp).1 (B.s p hp).2) hsl hsg
theorem Fv.grow (k : Fv w0 hh t n0 n1 v rs S W) {r : Rp.Rec} (ho : W'.ownsRow (t + 1) 47 3 v' (rs.length + 1) (RL.vals rs ++ [.int .i64 r.a, .int .i64 r.t, .string r.d])) (g : W.grownBy W' v.ownBlock) (hm : Moved W v v') : Fv w0 hh t n0 n1 v' (rs ++ [r]) S W' := by
 have hl := k.l
 have hlt := k.lt
 have ho2 : OwnL RL W' (t + 1) v' (rs ++ [r]) := OwnL.snoc (Y := RL) (n := rs.length) ho rfl rfl
 refine ⟨k.b.grow g k.row hm, ho2, (g.block hh (by omega) (fun e => ?_)).trans k.h, k.l, k.w.grown g k.w.size fun q hq => ?_⟩
 · have := (k.o.lt hh e.symm).1; omega
 · have := (k.o.lt q hq).1; omega
end
structure Fo (q : Int) (l : List ByteArray) (n k : Nat) (S : St) : Prop where
 g : G13 q n k S
 x : S.x = (n : Int)
 st : Lg.stateT S S.x = Fp.fold [] (l.take n)
 sz : ∀ d ∈ l.take n, d.size ≤ 64
theorem Fo.new {q : Int} (hq : 0 ≤ q) (l : List ByteArray) : Fo q l 0 0 (createT Dp.empty).1 := by
 obtain ⟨h1, h2, h3⟩ := Lg.Log.new (q := q) hq
 have hx := h2.x
 have hs := h2.state (k := 0) (Nat.le_refl _)
 refine ⟨G13.new hq, hx, ?_, fun d hd => by rw [List.take_zero] at hd; cases hd⟩
 rw [hx]
 exact hs
theorem Fo.app {q : Int} {l : List ByteArray} {n k : Nat} {S : St} (h : Fo q l n k S) (hq : 0 < q) (hn : n < l.length) (h40 : n < 40) (hk : k ≤ 400) (e : (So.append S q ⟨(n : Int), 0, l.getD n ⟨#[]⟩⟩).2 = 0) : Fo q l (n + 1) (k + 1) (So.append S q ⟨(n : Int), 0, l.getD n ⟨#[]⟩⟩).1 := by
 have hx := h.x
 have hv := h.g.v
 have ht : l.take (n + 1) = l.take n ++ [l.getD n ⟨#[]⟩] := by rw [List.take_succ_eq_append_getElem hn, getD_lt hn]
 have G := h.g.play hq (by omega) (by omega) 0 ⟨0, 0, 0, l.getD n ⟨#[]⟩⟩ (by show (0 : Int) ≤ _; decide)
 have ep : Lg.playA q 0 S ⟨0, 0, 0, l.getD n ⟨#[]⟩⟩ = (So.append S q ⟨(n : Int), 0, l.getD n ⟨#[]⟩⟩).1 := by
  unfold Lg.playA
  rw [if_neg (by show ¬ (0 : Int) = 1; decide), if_neg (by show ¬ (0 : Int) = 2; decide), if_neg (by show ¬ (0 : Int) = 3; decide), if_neg (by show ¬ (0 : Int) = 4; decide), hx]
 rw [ep] at G
 obtain ⟨F, s0, rs, hL, hl⟩ := h.g.log
 obtain ⟨_, _, h3⟩ := hL.append hq (show S.v < 1099511627776 by omega) ⟨(n : Int), 0, l.getD n ⟨#[]⟩⟩
 rcases h3 with ⟨_, hok, _, h3⟩ | ⟨hne, _⟩
 case inr => exact absurd e hne
 have hx2 := h3.x
 rw [List.length_append, List.length_singleton] at hx2
 have hx0 := hL.x
 have s1 := h3.state (k := (rs ++ [(⟨(n : Int), 0, l.getD n ⟨#[]⟩⟩ : Rp.Rec)]).length) (Nat.le_refl _)
 have s2 := hL.state (k := rs.length) (Nat.le_refl _)
 rw [← h3.x, List.take_length, List.map_append] at s1
 rw [← hL.x, List.take_length] at s2
 have hst := h.st
 rw [s2] at hst
 refine ⟨G, by omega, ?_, ?_⟩
 · rw [s1, ht]
   unfold Fp.fold at hst ⊢
   rw [List.foldl_append, List.foldl_append, hst]
   rfl
 · rw [ht]
   intro d hd
   rcases List.mem_append.1 hd with hd | hd
   · exact h.sz d hd
   · rw [List.mem_singleton] at hd
     rw [hd]
     exact hok.2.2.2.2
theorem Fo.more {q : Int} {l : List ByteArray} {n k k' : Nat} {S : St} (h : Fo q l n k S) (hk : k ≤ k') : Fo q l n k' S := ⟨h.g.more (Nat.le_refl _) hk, h.x, h.st, h.sz⟩
theorem Fo.trim {q : Int} {l : List ByteArray} {n k : Nat} {S : St} (h : Fo q l n k S) (hn : n ≤ 40) (hk : k ≤ 400) (x y : Int) : Fo q l n (k + 1) (Lg.trimT S x y).1 := by
 have F := trm_facts h.g (by omega) x y
 refine ⟨h.g.trim hn (by omega) x y, F.x.trans h.x, ?_, h.sz⟩
 rw [F.x, F.st _ F.lo.2 (Int.le_refl _)]
 exact h.st
end Trm
end Go.Proofs.YtijbpdpkoamhbaaGreat
