/-
  Parts of what the laws of this seat stand on: DiskSame, StoSame, TrmLaw, TrmOpen, TrmBox.
-/
import Derived.Test.YtijbpdpkoamhbaaGreatQa1
import Derived.ChangeSame
import Derived.Deep.Fields
import Derived.Deep.Slices
import Derived.Laws.StructEq
import Derived.Lib.SmallJoins
import Derived.Test.YtijbpdpkoamhbaaGreatQa10
import Derived.Test.YtijbpdpkoamhbaaGreatQa30
import Derived.Test.YtijbpdpkoamhbaaGreatQa44
import Derived.Test.YtijbpdpkoamhbaaGreatQa46
import Derived.Test.YtijbpdpkoamhbaaGreatQa47
import Derived.Test.YtijbpdpkoamhbaaGreatQa6
set_option maxRecDepth 100000
set_option maxHeartbeats 6400000
namespace Go.Proofs.YtijbpdpkoamhbaaGreat
namespace Dsk
open Go.RowKit Dp
theorem rsame_yes (v1 v2 : Value) (D : Dk) (w : World) (h1 : IsL FL w v1 D.f) (h2 : IsL FL w v2 D.f) :
 Calls Tryz.prog 46 #[dkVal v1 D, dkVal v2 D] w fun e w' => e = .returned (.bool true) ∧ Below w.heap.size w w' := by
 obtain ⟨fa, fn, fc, rfl⟩ : ∃ a n c, v1 = .slice a n c := by obtain ⟨a, c, h, _⟩ := h1; exact ⟨a, _, c, h⟩
 obtain ⟨ga, gn, gc, rfl⟩ : ∃ a n c, v2 = .slice a n c := by obtain ⟨a, c, h, _⟩ := h2; exact ⟨a, _, c, h⟩
 obtain rfl : gn = fn := by rw [h1.len.1, h2.len.1]
 have hl : gn ≤ 9223372036854775807 := by have := h1.len; unfold maxLen at this; omega
 have H1 := zid h1
 have H2 := zid h2
 clear h1 h2
 obtain ⟨fl, dc, da, dl, dx⟩ := D
 unfold dkVal
 dsimp only at *
 obtain ⟨g0, g1, gb, gs⟩ := boxes2 w #[.slice fa gn fc, .int .i64 dc, .bool da, .int .i64 dl, .bool dx] #[.slice ga gn gc, .int .i64 dc, .bool da, .int .i64 dl, .bool dx] 28 28
 obtain ⟨p0, p1, p2, p3, p4⟩ := cells5 g0
 obtain ⟨q0, q1, q2, q3, q4⟩ := cells5 g1
 have GB := zid gb
 clear g0 g1 gb gs
 cases da
 all_goals cases dx
 all_goals
  go_enter Tryz.func46, Tryz.ntmps46
  go_wp2_with fail
  generalize World.alloc (World.alloc w _) _ = w0 at p0 p1 p2 p3 p4 q0 q1 q2 q3 q4 GB ⊢
  go_loopw [5] (fun i wr => ∃ k n : Nat, k ≤ gn ∧ i = .int .i64 k ∧ wr = w0.drewN n) (fun i _ => gn - (intOf i).toNat)
  case atStart => exact ⟨0, 0, Nat.zero_le _, rfl, rfl⟩
  case round =>
   obtain ⟨k, n, hk, rfl, rfl⟩ := hrel
   by_cases hlt : k < gn
   · obtain ⟨b, off, rfl, c0, c1, c2⟩ := isL_at (H1.out.keep GB.out) hlt
     obtain ⟨b', off', rfl, d0, d1, d2⟩ := isL_at (H2.out.keep GB.out) hlt
     generalize fl.getD k zero = f at *
     go_wp2_with fail
     go_quiet (fail)
     go_wp2_with fail
     go_roundw
     case rel => exact ⟨k + 1, _, by omega, by go_num, rfl⟩
     case measure => simp [intOf]; omega
   · go_wp2_with fail
     go_ret
     exact ⟨rfl, GB.out.trans ((bel_drewN n).mono GB.out.size)⟩
end Dsk
namespace Sto
open Go.RowKit So Dsk Rts
theorem rsame12_yes (f1 g1 f2 g2 : Value) (S : St) (w : World) (hf1 : IsL FL w f1 S.d.f) (hg1 : IsL SL w g1 S.g) (hf2 : IsL FL w f2 S.d.f) (hg2 : IsL SL w g2 S.g) :
 Calls Tryz.prog 11 #[stVal f1 g1 S, stVal f2 g2 S] w fun e w' => e = .returned (.bool true) ∧ Below w.heap.size w w' := by
 obtain ⟨fa, fn, fc, rfl⟩ : ∃ a n c, f1 = .slice a n c := by obtain ⟨a, c, h, _⟩ := hf1; exact ⟨a, _, c, h⟩
 obtain ⟨ha, hn, hc, rfl⟩ : ∃ a n c, f2 = .slice a n c := by obtain ⟨a, c, h, _⟩ := hf2; exact ⟨a, _, c, h⟩
 obtain ⟨ga, gn, gc, rfl⟩ : ∃ a n c, g1 = .slice a n c := by obtain ⟨a, c, h, _⟩ := hg1; exact ⟨a, _, c, h⟩
 obtain ⟨ka, kn, kc, rfl⟩ : ∃ a n c, g2 = .slice a n c := by obtain ⟨a, c, h, _⟩ := hg2; exact ⟨a, _, c, h⟩
 obtain rfl : kn = gn := by rw [hg1.len.1, hg2.len.1]
 have hl : kn ≤ 9223372036854775807 := by have := hg1.len; unfold maxLen at this; omega
 have DS := zid fun (W : World) (h1 : IsL FL W (.slice fa fn fc) S.d.f) (h2 : IsL FL W (.slice ha hn hc) S.d.f) => rsame_yes (.slice fa fn fc) (.slice ha hn hc) S.d W h1 h2
 have F1 := zid hf1
 have F2 := zid hf2
 have G1 := zid hg1
 have G2 := zid hg2
 clear hf1 hg1 hf2 hg2
 obtain ⟨⟨df, dc, da, dl, dx⟩, sv, sg, sx, ss, sz, sc⟩ := S
 unfold stVal
 unfold dkVal at DS
 dsimp only at *
 obtain ⟨g0, g1, gb, gs⟩ := boxes2 w #[.slice fa fn fc, .int .i64 dc, .bool da, .int .i64 dl, .bool dx, .int .i64 sv, .slice ga kn gc, .int .i64 sx, .int .i64 ss, .int .i64 sz, .int .u32 sc] #[.slice ha hn hc, .int .i64 dc, .bool da, .int .i64 dl, .bool dx, .int .i64 sv, .slice ka kn kc, .int .i64 sx, .int .i64 ss, .int .i64 sz, .int .u32 sc] 32 32
 obtain ⟨⟨p0, p1, p2, p3, p4⟩, p5, p6, p7, p8, p9, p10⟩ := cellsS g0
 obtain ⟨⟨q0, q1, q2, q3, q4⟩, q5, q6, q7, q8, q9, q10⟩ := cellsS g1
 have H0 := zid g0
 have H1 := zid g1
 have GB := zid gb
 clear g0 g1 gb gs
 go_enter Tryz.func11, Tryz.ntmps11
 go_wp2_with fail
 generalize World.alloc (World.alloc w _) _ = w0 at p0 p1 p2 p3 p4 p5 p6 p7 p8 p9 p10 q0 q1 q2 q3 q4 q5 q6 q7 q8 q9 q10 H0 H1 GB ⊢
 refine (DS.out w0 (F1.out.keep GB.out) (F2.out.keep GB.out)).mono ?_
 rintro e w1 ⟨rfl, b1⟩
 clear p0 p1 p2 p3 p4 p5 p6 p7 p8 p9 p10 q0 q1 q2 q3 q4 q5 q6 q7 q8 q9 q10
 obtain ⟨⟨p0, p1, p2, p3, p4⟩, p5, p6, p7, p8, p9, p10⟩ := cellsS (hkeep H0.out b1)
 obtain ⟨⟨q0, q1, q2, q3, q4⟩, q5, q6, q7, q8, q9, q10⟩ := cellsS (hkeep H1.out b1)
 have GB1 := zid (GB.out.trans (b1.mono GB.out.size))
 clear b1
 go_wp2_with fail
 go_loopw [5] (fun i wr => ∃ k n : Nat, k ≤ kn ∧ i = .int .i64 k ∧ wr = w1.drewN n) (fun i _ => kn - (intOf i).toNat)
 case atStart => exact ⟨0, 0, Nat.zero_le _, rfl, rfl⟩
 case round =>
  obtain ⟨k, n, hk, rfl, rfl⟩ := hrel
  by_cases hlt : k < kn
  · obtain ⟨b, off, rfl, c0, c1, c2⟩ := sg_at (G1.out.keep GB1.out) hlt
    obtain ⟨b', off', rfl, d0, d1, d2⟩ := sg_at (G2.out.keep GB1.out) hlt
    generalize sg.getD k Rt.zero = f at *
    go_wp2_with fail
    go_quiet (fail)
    go_wp2_with fail
    go_roundw
    case rel => exact ⟨k + 1, _, by omega, by go_num, rfl⟩
    case measure => simp [intOf]; omega
  · go_wp2_with fail
    go_ret
    exact ⟨rfl, GB1.out.trans ((bel_drewN n).mono GB1.out.size)⟩
end Sto
namespace Trm
open Go.RowKit So Dsk Rts Sto
section
variable {q : Int} {n k : Nat} {S : St} {fa ga : Option Addr} {fn fc gn gc : Nat} {W : World}
theorem rtrim13g (h : G13 q n k S) (hq : q ≤ 1000) (hn : n ≤ 40) (hk : k ≤ 400) (hf : IsL FL W (.slice fa fn fc) S.d.f) (hg : IsL SL W (.slice ga gn gc) S.g) {keep count : Int} :
 Calls Tryz.prog 10 #[stVal (.slice fa fn fc) (.slice ga gn gc) S, .int .i64 keep, .int .i64 count] W (StOut W (.slice fa fn fc) (.slice ga gn gc) (Lg.trimT S keep count)) := by
 have hB := h.stb hq (by omega) (by omega)
 have hM := h.may hq (by omega)
 have hne := h.ne
 have hp := Lg.pickN_is S.g keep count
 have hpl := hp.lt.2 (List.length_pos_iff.2 hne)
 obtain ⟨F, s0, rs, hL, hl⟩ := h.log
 obtain ⟨w1, w2⟩ := log_wants hL (by omega) hpl
 exact rtrim13_any fa ga fn fc gn gc S keep count (Lg.pickN S.g keep count) W _ hf hg hne hB h.d (by omega) (by have := h.v; omega) hM hp w1 w2
theorem rsnap13g (h : G13 q n k S) (hq : q ≤ 1000) (hn : n ≤ 40) (hk : k ≤ 400) (hf : IsL FL W (.slice fa fn fc) S.d.f) (hg : IsL SL W (.slice ga gn gc) S.g) :
 Calls Tryz.prog 13 #[stVal (.slice fa fn fc) (.slice ga gn gc) S] W fun e w' => e = .returned (.string ⟨(Lg.snapT S).toArray⟩) ∧ Below W.heap.size W w' :=
 rsnap13_any fa ga fn fc gn gc S W hf hg h.ne (h.stb hq (by omega) (by omega))
theorem rstate13g (h : G13 q n k S) (hq : q ≤ 1000) (hn : n ≤ 40) (hk : k ≤ 400) (hf : IsL FL W (.slice fa fn fc) S.d.f) (hg : IsL SL W (.slice ga gn gc) S.g) {o : Int} (h2 : o ≤ S.x) :
 Calls Tryz.prog 17 #[stVal (.slice fa fn fc) (.slice ga gn gc) S, .int .i64 o] W (SttOut W (Lg.stateT S o)) :=
 rstate13_any fa ga fn fc gn gc S o W hf hg h.ne (h.stb hq (by omega) (by omega)) (by have := h.x; omega)
end
end Trm
namespace Trm
open Go.RowKit Go.ChangeShapes Go.WideShapes Go.Deep Go.Joins Dsk
theorem isL_of13 {α : Type} {Y : Lay α} {w : World} {b off cap : Nat} {l : List α} (hm : l.length ≤ maxLen) (hcap : l.length ≤ cap) (hok : ∀ x ∈ l, Y.ok x)
 (hc : ∀ i, i < l.length → ∀ r u, (Y.enc (l.getD i Y.z))[r]? = some u → w.cell? ⟨b, off + (i * Y.k + r), none⟩ = some u) : IsL Y w (.slice (some ⟨b, off, none⟩) l.length cap) l := by
 refine ⟨_, cap, rfl, ⟨hm, hcap⟩, hok, .inr ⟨b, off, rfl, fun j u hj => ?_⟩⟩
 have hlt := (List.getElem?_eq_some_iff.1 hj).1
 rw [Y.vals_len] at hlt
 have hk := Y.pos
 have h1 : j / Y.k < l.length := Nat.div_lt_of_lt_mul (by rw [Nat.mul_comm]; exact hlt)
 have h2 : j % Y.k < Y.k := Nat.mod_lt _ hk
 have e : j = j / Y.k * Y.k + j % Y.k := by rw [Nat.mul_comm]; exact (Nat.div_add_mod j Y.k).symm
 have h3 := Y.vals_get l (j / Y.k) (j % Y.k) h1 h2
 rw [← e, hj] at h3
 have := hc (j / Y.k) h1 (j % Y.k) u h3.symm
 rwa [← e] at this
theorem okWide_arr {P : Program} {w : World} {r : Reach} {base : Nat} {t : TypeId} {v : Value} {n : Nat} {e : TypeId} (ht : P.underlying t = some (.array n e)) (h : Value.okWide P w r base t v) : ∃ cs, v = .agg cs ∧ cs.size = P.cellsOf t := by
 simp only [Value.okWide, ht] at h
 obtain ⟨cs, h1, h2, _⟩ := h
 exact ⟨cs, h1, h2⟩
section
variable {H : Type} {enc : TypeId × Value → H} {w : World} {base : Nat} {spare : Nat → Bool} {held : Bool}
theorem open_paC {n : Nat} {cs : List Value} {y : DataW H × List MemPlace} (h : DataW.trod enc Tryz.prog w base spare held n 22 cs = some y) : ∃ a l c ms, cs = [.slice a l c] ∧ IsL PaL w (.slice a l c) ms := by
 rcases open_slice Tryz.underlying22 h with ⟨hc, _⟩ | ⟨x, len, cap, m, n, D, Pl, hc, _, hl, hm, hmm, _, hi⟩
 · exact ⟨none, 0, 0, [], hc, IsL.nil w none 0⟩
 · refine ⟨some x, len, cap, ?_⟩
   have hlm : len ≤ m := by rw [hmm]; split <;> omega
   have hC : Tryz.prog.cellsOf 62 = 4 := by kernel_rfl
   have hO : Tryz.prog.cellsOf 3 = 1 := by kernel_rfl
   have hS : Tryz.prog.cellsOf 9 = 1 := by kernel_rfl
   rw [hC] at hi
   have key : ∀ i, i < len → ∃ r : Lg.Pa, PaB r ∧ ∀ j u, (paCells r)[j]? = some u → w.cell? ((x.add (i * 4)).add j) = some u := by
    intro i hil
    obtain ⟨cs', hcs, ht⟩ := hi i (by omega)
    obtain ⟨_, hlen, hat⟩ := World.cells?_some hcs
    obtain ⟨c0, c1, c2, c3, rfl⟩ : ∃ c0 c1 c2 c3, cs' = [c0, c1, c2, c3] := by
     match cs', hlen with
     | [c0, c1, c2, c3], _ => exact ⟨c0, c1, c2, c3, rfl⟩
    obtain ⟨y0, y1, y2, y3, n', _, _, h0, h1, h2, h3⟩ := trod_struct4 Tryz.underlying62 ht
    obtain ⟨rb, hb, _, wb⟩ := DataW.trod_int Tryz.underlying3 h0
    obtain ⟨rn, hn, _, wn⟩ := DataW.trod_int Tryz.underlying3 h1
    obtain ⟨rm, hm', _, wm⟩ := DataW.trod_int Tryz.underlying3 h2
    obtain ⟨rz, hz, _, wz⟩ := DataW.trod_string Tryz.underlying9 h3
    simp [hO, hS] at hb hn hm' hz
    subst hb hn hm' hz
    unfold maxLen at wz
    refine ⟨⟨rb, rn, rm, rz⟩, ⟨i64_wf13 wb, i64_wf13 wn, i64_wf13 wm, wz⟩, fun j u hj => ?_⟩
    have hjl : j < 4 := (List.getElem?_eq_some_iff.1 hj).1
    have := hat j hjl
    exact this.trans hj
   obtain ⟨f, hf'⟩ : ∃ f : Nat → Lg.Pa, ∀ i, i < len → PaB (f i) ∧ ∀ j u, (paCells (f i))[j]? = some u → w.cell? ((x.add (i * 4)).add j) = some u := by
    refine ⟨fun i => if h : i < len then Classical.choose (key i h) else paz, fun i h => ?_⟩
    simp only [dif_pos h]
    exact Classical.choose_spec (key i h)
   have hlen : ((List.range len).map f).length = len := by simp
   have hall : ∀ r ∈ (List.range len).map f, PaB r := fun r hr => by
    rw [List.mem_map] at hr
    obtain ⟨i, hi', rfl⟩ := hr
    exact (hf' i (by simpa using hi')).1
   refine ⟨(List.range len).map f, hc, ?_⟩
   by_cases h0 : len = 0
   · subst h0
     exact IsL.nil w _ cap
   · obtain ⟨b, off, spot⟩ := x
     have h1 := (hf' 0 (by omega)).2 0 _ rfl
     rw [Nat.zero_mul] at h1
     have hspot : spot = none := by simpa [Addr.add] using World.cell?_spot h1
     subst hspot
     have := isL_of13 (Y := PaL) (w := w) (b := b) (off := off) (cap := cap) (l := (List.range len).map f) (by rw [hlen]; omega) (by rw [hlen]; exact hl) hall (fun i hi' r u hu => by
      rw [hlen] at hi'
      have e : ((List.range len).map f).getD i PaL.z = f i := by simp [List.getD_eq_getElem?_getD, hi']
      rw [e] at hu
      have := (hf' i hi').2 r u hu
      rw [addr_plain, addr_plain] at this
      rw [← Nat.add_assoc]
      exact this)
     rw [hlen] at this
     exact this
theorem open_pas {a : Option Addr} {len cap : Nat} {d : DataW H} {p : List MemPlace} (h : DataW.Trod enc Tryz.prog w base spare held 22 (.slice a len cap) d p) : ∃ l, IsL PaL w (.slice a len cap) l := by
 obtain ⟨fuel, hf⟩ := h
 obtain ⟨a', l', c', ks, e, hk⟩ := open_paC hf
 simp [Value.cells] at e
 obtain ⟨rfl, rfl, rfl⟩ := e
 exact ⟨ks, hk⟩
theorem open_how {r : Reach} {b0 : Nat} {v : Value} {d : DataW H} {p : List MemPlace}
 (hv : Value.okWide Tryz.prog w r b0 23 v) (h : DataW.Trod enc Tryz.prog w base spare held 23 v d p) : ∃ a b : Int, v = .agg #[.int .i64 a, .int .i64 b] ∧ (-9223372036854775808 ≤ a ∧ a ≤ 9223372036854775807) ∧ (-9223372036854775808 ≤ b ∧ b ≤ 9223372036854775807) := by
 have hC : Tryz.prog.cellsOf 23 = 2 := by kernel_rfl
 obtain ⟨cs, rfl, hsz⟩ := okWide_arr Tryz.underlying23 hv
 obtain ⟨l⟩ := cs
 match l, hsz.trans hC with
 | [c0, c1], _ =>
  obtain ⟨fuel, hf⟩ := h
  obtain ⟨a, b, rfl, rfl, h1, h2⟩ := open_two hf
  exact ⟨a, b, rfl, h1, h2⟩
structure Ask13 where
 q : Int
 a : Option Addr
 n : Nat
 c : Nat
 l : List Lg.Pa
 x : Int
 y : Int
 o : Int
def Ask13.val (g : Ask13) : Value := .agg #[.int .u8 g.q, .slice g.a g.n g.c, .int .i64 g.x, .int .i64 g.y, .int .u8 g.o]
structure Ask13.Ok (w : World) (g : Ask13) : Prop where
 q : 0 ≤ g.q ∧ g.q ≤ 255
 l : IsL PaL w (.slice g.a g.n g.c) g.l
 x : -9223372036854775808 ≤ g.x ∧ g.x ≤ 9223372036854775807
 y : -9223372036854775808 ≤ g.y ∧ g.y ≤ 9223372036854775807
 o : 0 ≤ g.o ∧ g.o ≤ 255
theorem open_ask13 {r : Reach} {b0 : Nat} {v : Value} {d : DataW H} {p : List MemPlace}
 (hv : Value.okWide Tryz.prog w r b0 25 v) (h : DataW.Trod enc Tryz.prog w base spare held 25 v d p) : ∃ x : Ask13, v = x.val ∧ x.Ok w := by
 have hC : Tryz.prog.cellsOf 25 = 5 := by kernel_rfl
 have hS : Tryz.prog.cellsOf 22 = 1 := by kernel_rfl
 have hU : Tryz.prog.cellsOf 5 = 1 := by kernel_rfl
 have hA : Tryz.prog.cellsOf 23 = 2 := by kernel_rfl
 obtain ⟨cs, rfl, hsz⟩ := okWide_struct Tryz.underlying25 hv
 obtain ⟨l⟩ := cs
 match l, hsz.trans hC with
 | [c0, c1, c2, c3, c4], _ =>
  obtain ⟨fuel, hf⟩ := h
  obtain ⟨y0, y1, y2, y3, n, _, _, h0, h1, h2, h3⟩ := trod_struct4 Tryz.underlying25 hf
  simp [Value.cells, hS, hU, hA] at h0 h1 h2 h3
  obtain ⟨rq, hq, _, wq⟩ := DataW.trod_int Tryz.underlying5 h0
  obtain ⟨ka, kn, kc, ks, hkc, hks⟩ := open_paC h1
  obtain ⟨ra, rb, ha, hb, wa, wb⟩ := open_two h2
  obtain ⟨ro, ho, _, wo⟩ := DataW.trod_int Tryz.underlying5 h3
  simp at hq hkc ho
  subst hq hkc ha hb ho
  exact ⟨⟨rq, ka, kn, kc, ks, ra, rb, ro⟩, rfl, ⟨u8_wf13 wq, hks, wa, wb, u8_wf13 wo⟩⟩
end
end Trm
namespace Trm
open Go.RowKit So Dsk Rts Sto
section
variable {w0 W : World}
end
theorem ms0 {w W : World} {t : Nat} {o : Obj} (ho : W.heap[t]? = some o) (ht : w.heap.size ≤ t) (b : Below w.heap.size w W) : Ms w w.heap.size (.slice none 0 0) (.slice none 0 0) [(t, o)] [(.slice none 0 0, ([] : List Dp.Fl))] [(.slice none 0 0, ([] : List Rt.Sg))] W :=
 ⟨fun p hp => by rw [List.mem_singleton] at hp; subst hp; exact ⟨ht, ho⟩, fun p hp => by rw [List.mem_singleton] at hp; subst hp; exact ⟨IsL.nil _ _ _, fun _ _ => Sep.nil _ _ _, fun _ _ _ _ => Sep.nil _ _ _⟩, fun p hp => by rw [List.mem_singleton] at hp; subst hp; exact ⟨IsL.nil _ _ _, fun _ _ => Sep.nil _ _ _, fun _ _ _ _ => Sep.nil _ _ _⟩, b.size, b⟩
theorem play_g {q : Int} {l : List Lg.Pa} (hq : 0 < q) (hl : ∀ a ∈ l, PaB a) (hn : l.length ≤ 40) : G13 q 40 40 (Lg.playL q l l.length) :=
 (G13.acts hq l (fun a ha => (hl a ha).2.1.2) l.length hn).more hn hn
structure Th (w : World) (h t x : Nat) (n0 n1 : Int) (f1 g1 f2 g2 : Value) (S X : St) (W : World) : Prop where
 m : Ms w w.heap.size (.slice none 0 0) (.slice none 0 0) [(x, stC f2 g2 X), (t, stC f1 g1 S), (h, .cells #[.int .i64 n0, .int .i64 n1] 23)] [(f2, X.d.f), (f1, S.d.f)] [(g2, X.g), (g1, S.g)] W
section
variable {w0 W W' : World} {h t x : Nat} {n0 n1 : Int} {v1 u1 v2 u2 : Value} {S X : St}
theorem Th.keep (k : Th w0 h t x n0 n1 v1 u1 v2 u2 S X W) (b : Below W.heap.size W W') : Th w0 h t x n0 n1 v1 u1 v2 u2 S X W' := ⟨k.m.keep b⟩
theorem Th.w (k : Th w0 h t x n0 n1 v1 u1 v2 u2 S X W) : Below w0.heap.size w0 W := k.m.w
theorem Th.at_ (k : Th w0 h t x n0 n1 v1 u1 v2 u2 S X W) : W.heap[t]? = some (stC v1 u1 S) := k.m.at_ (mcm mcs)
theorem Th.ax (k : Th w0 h t x n0 n1 v1 u1 v2 u2 S X W) : W.heap[x]? = some (stC v2 u2 X) := k.m.at_ mcs
theorem Th.ah (k : Th w0 h t x n0 n1 v1 u1 v2 u2 S X W) : W.heap[h]? = some (.cells #[.int .i64 n0, .int .i64 n1] 23) := k.m.at_ (mcm (mcm mcs))
theorem Th.f (k : Th w0 h t x n0 n1 v1 u1 v2 u2 S X W) : IsL FL W v1 S.d.f := k.m.fl (mcm mcs)
theorem Th.g (k : Th w0 h t x n0 n1 v1 u1 v2 u2 S X W) : IsL SL W u1 S.g := k.m.sl (mcm mcs)
theorem Th.f2 (k : Th w0 h t x n0 n1 v1 u1 v2 u2 S X W) : IsL FL W v2 X.d.f := k.m.fl mcs
theorem Th.g2 (k : Th w0 h t x n0 n1 v1 u1 v2 u2 S X W) : IsL SL W u2 X.g := k.m.sl mcs
theorem Th.lt (k : Th w0 h t x n0 n1 v1 u1 v2 u2 S X W) : t < W.heap.size := (Array.getElem?_eq_some_iff.1 k.at_).1
theorem Th.lx (k : Th w0 h t x n0 n1 v1 u1 v2 u2 S X W) : x < W.heap.size := (Array.getElem?_eq_some_iff.1 k.ax).1
end
end Trm
end Go.Proofs.YtijbpdpkoamhbaaGreat
