/-
  Parts of what the laws of this seat stand on: TrmLaw, TrmAwk, TrmOpen, TrmBox.
-/
import Derived.Test.YtijbpdpkoamhbaaGreatQa1
import Derived.ChangeSame
import Derived.Deep.Fields
import Derived.Deep.Slices
import Derived.Laws.StructEq
import Derived.Lib.SmallJoins
import Derived.Test.YtijbpdpkoamhbaaGreatQa10
import Derived.Test.YtijbpdpkoamhbaaGreatQa30
import Derived.Test.YtijbpdpkoamhbaaGreatQa32
import Derived.Test.YtijbpdpkoamhbaaGreatQa44
import Derived.Test.YtijbpdpkoamhbaaGreatQa46
import Derived.Test.YtijbpdpkoamhbaaGreatQa6
set_option maxRecDepth 100000
set_option maxHeartbeats 6400000
namespace Go.Proofs.YtijbpdpkoamhbaaGreat
namespace Trm
open Go.RowKit So Dsk Rts Sto
section
variable {q : Int} {n k : Nat} {S : St} {fa ga : Option Addr} {fn fc gn gc : Nat} {W : World}
theorem G13.lo (h : G13 q n k S) : 0 ≤ floor S ∧ floor S ≤ S.x ∧ S.x ≤ (n : Int) := by
 obtain ⟨F, s0, rs, hL, hl⟩ := h.log
 have h1 := hL.x
 have h2 := hL.f0
 have h3 := hL.fl
 have h4 := h.x
 exact ⟨by omega, by omega, h4⟩
theorem trim13g (h : G13 q n k S) (hq : q ≤ 1000) (hn : n ≤ 40) (hk : k ≤ 400) (hf : IsL FL W (.slice fa fn fc) S.d.f) (hg : IsL SL W (.slice ga gn gc) S.g) {keep count : Int} (hb1 : -9223372036854775808 ≤ keep ∧ keep ≤ 9223372036854775807) (hb2 : -9223372036854775808 ≤ count ∧ count ≤ 9223372036854775807) :
 Calls Tryz.prog 9 #[stVal (.slice fa fn fc) (.slice ga gn gc) S, .int .i64 keep, .int .i64 count] W (StOut W (.slice fa fn fc) (.slice ga gn gc) (Lg.trimT S keep count)) := by
 have hB := h.stb hq (by omega) (by omega)
 have hM := h.may hq (by omega)
 obtain ⟨F, s0, rs, hL, hl⟩ := h.log
 exact trim13_any fa ga fn fc gn gc S keep count (Lg.pickN S.g keep count) W _ hf hg hL hB h.d (by omega) (by have := h.v; omega) hM (Lg.pickN_is S.g keep count) (by have := h.x; omega) (by omega) hb1 hb2
theorem snap13g (h : G13 q n k S) (hq : q ≤ 1000) (hn : n ≤ 40) (hk : k ≤ 400) (hf : IsL FL W (.slice fa fn fc) S.d.f) (hg : IsL SL W (.slice ga gn gc) S.g) :
 Calls Tryz.prog 12 #[stVal (.slice fa fn fc) (.slice ga gn gc) S] W fun e w' => e = .returned (.string ⟨(Lg.snapT S).toArray⟩) ∧ Below W.heap.size W w' :=
 snap13_any fa ga fn fc gn gc S W hf hg h.ne (h.stb hq (by omega) (by omega))
theorem state13g (h : G13 q n k S) (hq : q ≤ 1000) (hn : n ≤ 40) (hk : k ≤ 400) (hf : IsL FL W (.slice fa fn fc) S.d.f) (hg : IsL SL W (.slice ga gn gc) S.g) {o : Int} (h1 : floor S ≤ o) (h2 : o ≤ S.x) :
 Calls Tryz.prog 16 #[stVal (.slice fa fn fc) (.slice ga gn gc) S, .int .i64 o] W (SttOut W (Lg.stateT S o)) := by
 have hB := h.stb hq (by omega) (by omega)
 have hxn := h.x
 obtain ⟨F, s0, rs, hL, hl⟩ := h.log
 have h3 := hL.fl
 have h4 := hL.x
 have := state13_any fa ga fn fc gn gc S (o - F).toNat W hf hg hB hL (by omega) (by omega)
 rwa [show F + ((o - F).toNat : Int) = o by omega] at this
end
structure TrmF (S : St) (T : St × Int) (keep count : Int) : Prop where
 lo : floor S ≤ floor T.1 ∧ floor T.1 ≤ S.x
 x : T.1.x = S.x
 s : T.1.s = S.s
 e : T.2 = 0 ∨ T.2 = 9 ∨ T.2 = 10
 st : ∀ o, floor T.1 ≤ o → o ≤ S.x → Lg.stateT T.1 o = Lg.stateT S o
 rd : ∀ o, floor T.1 ≤ o → o < S.x → readT T.1 o = ((readT S o).1, 0)
 pk : T.2 = 0 → Lg.pickN T.1.g keep count = 0
 sn : ((Lg.snapT T.1).length : Int) = T.1.z
theorem trm_facts {q : Int} {n k : Nat} {S : St} (h : G13 q n k S) (hk : k ≤ 1000) (keep count : Int) : TrmF S (Lg.trimT S keep count) keep count := by
 have hv := h.v
 obtain ⟨F, s0, rs, hL, hl⟩ := h.log
 obtain ⟨m, hm, m2, m3, m4, m5, m6, m7, m8⟩ := hL.trim_law (show S.v < 1099511627776 by omega) keep count
 have f1 := hL.fl
 have f2 := m2.fl
 have hx := hL.x
 have hx2 := m2.x
 rw [List.length_drop] at hx2
 refine ⟨by omega, m3, m4, m5, fun o h1 h2 => ?_, fun o h1 h2 => ?_, m8, ?_⟩
 · have e1 := m2.state (k := (o - (F + (m : Int))).toNat) (by rw [List.length_drop]; omega)
   have e2 := hL.state (k := (o - F).toNat) (by omega)
   rw [show F + (m : Int) + ((o - (F + (m : Int))).toNat : Int) = o by omega] at e1
   rw [show F + ((o - F).toNat : Int) = o by omega] at e2
   rw [e1, e2]
   unfold Fp.fold
   rw [← List.foldl_append, ← List.map_append]
   congr 2
   rw [show (o - F).toNat = m + (o - (F + (m : Int))).toNat by omega, List.take_add]
 · have e1 := m2.read (i := (o - (F + (m : Int))).toNat) (by rw [List.length_drop]; omega)
   have e2 := hL.read (i := (o - F).toNat) (by omega)
   rw [show F + (m : Int) + ((o - (F + (m : Int))).toNat : Int) = o by omega] at e1
   rw [show F + ((o - F).toNat : Int) = o by omega] at e2
   rw [e1, e2, List.getElem_drop]
   congr 2
   omega
 · rw [m2.snap.2.1]
   rcases m2.sn with ⟨_, _, h3, _⟩ | ⟨_, _, h3, _⟩ <;> rw [h3] <;> simp
theorem awL_ok : Ok13 awL := ⟨by decide, by decide⟩
theorem aw_b : ∀ y ∈ awL, PaB y := by
 intro y hy
 simp only [awL, List.mem_cons, List.not_mem_nil, or_false] at hy
 rcases hy with rfl | rfl | rfl | rfl | rfl | rfl | rfl <;> exact ⟨⟨by decide, by decide⟩, ⟨by decide, by decide⟩, ⟨by decide, by decide⟩, by decide⟩
theorem aw_new (W : World) : IsL PaL (W.alloc (.cells (PaL.vals awL).toArray 62)) (.slice (some ⟨W.heap.size, 0, none⟩) 7 7) awL := by
 refine ⟨_, 7, rfl, ⟨(by decide : 7 ≤ maxLen), Nat.le_refl 7⟩, fun y hy => ?_, .inr ⟨W.heap.size, 0, rfl, fun j u hj => ?_⟩⟩
 · have h := aw_b y hy
   exact h
 · have := news_new W W.heap.size (PaL.vals awL) 62 rfl j u hj
   rwa [addr_plain] at this
structure Tw (w : World) (t x : Nat) (sf sg xf xg : Value) (S X : St) (W : World) : Prop where
 m : Ms w w.heap.size (.slice none 0 0) (.slice none 0 0) [(x, stC xf xg X), (t, stC sf sg S)] [(xf, X.d.f), (sf, S.d.f)] [(xg, X.g), (sg, S.g)] W
 l : w.heap.size ≤ t ∧ t < x
section
variable {w W W' : World} {t x : Nat} {f1 g1 f2 g2 : Value} {S X : St}
theorem Tw.at_ (h : Tw w t x f1 g1 f2 g2 S X W) : W.heap[t]? = some (stC f1 g1 S) := h.m.at_ (mcm mcs)
theorem Tw.ax (h : Tw w t x f1 g1 f2 g2 S X W) : W.heap[x]? = some (stC f2 g2 X) := h.m.at_ mcs
theorem Tw.f (h : Tw w t x f1 g1 f2 g2 S X W) : IsL FL W f1 S.d.f := h.m.fl (mcm mcs)
theorem Tw.g (h : Tw w t x f1 g1 f2 g2 S X W) : IsL SL W g1 S.g := h.m.sl (mcm mcs)
theorem Tw.xf (h : Tw w t x f1 g1 f2 g2 S X W) : IsL FL W f2 X.d.f := h.m.fl mcs
theorem Tw.xg (h : Tw w t x f1 g1 f2 g2 S X W) : IsL SL W g2 X.g := h.m.sl mcs
end
theorem awake13 (w : World) : Calls Tryz.prog 8 #[] w fun e w' => e = .returned (.bool true) ∧ Below w.heap.size w w' := by
 obtain ⟨w1, w2, w3, w4, w5⟩ := aw_tells
 have PLH := zid (play13_any 30 (some ⟨w.heap.size, 0, none⟩) 7 7 awL (w.alloc (.cells (PaL.vals awL).toArray 62)) (by decide) (aw_new w))
 have G := G13.acts (q := 30) (by decide) awL (by decide) 7 (by decide)
 have HG := zid G
 have HGT := zid (G.trim (by decide) (by decide) 0 100)
 have al := zid ((Below.refl w.heap.size w).alloc (Nat.le_refl _) (.cells (PaL.vals awL).toArray 62))
 obtain ⟨S, hS⟩ : ∃ S, Lg.playL 30 awL 7 = S := ⟨_, rfl⟩
 rw [hS] at w1 w2 w3 w4 w5 HG HGT
 have HSL := zid (show Lg.playL 30 awL awL.length = S from hS)
 obtain ⟨⟨X, E⟩, hT⟩ : ∃ R, Lg.trimT S 0 100 = R := ⟨_, rfl⟩
 have TR := fun (a a' : Option Addr) (n c n' c' : Nat) (W : World) (h1 : IsL FL W (.slice a n c) S.d.f) (h2 : IsL SL W (.slice a' n' c') S.g) => trim13g HG.out (by decide) (by decide) (by decide) h1 h2 (keep := 0) (count := 100) (by decide) (by decide)
 rw [hT] at w2 w3 w4 w5 HGT TR
 dsimp only at w2 w3 w4 w5 HGT TR
 subst w2
 have hlo := HG.out.lo
 have hlx := HGT.out.lo
 have SN := fun (a a' : Option Addr) (n c n' c' : Nat) (W : World) (h1 : IsL FL W (.slice a n c) X.d.f) (h2 : IsL SL W (.slice a' n' c') X.g) => snap13g HGT.out (by decide) (by decide) (by decide) h1 h2
 have ST := zid fun (a a' : Option Addr) (n c n' c' : Nat) (W : World) (h1 : IsL FL W (.slice a n c) S.d.f) (h2 : IsL SL W (.slice a' n' c') S.g) => state13g HG.out (by decide) (by decide) (by decide) h1 h2 (o := S.x) hlo.2.1 (Int.le_refl _)
 have SX := fun (a a' : Option Addr) (n c n' c' : Nat) (W : World) (h1 : IsL FL W (.slice a n c) X.d.f) (h2 : IsL SL W (.slice a' n' c') X.g) => state13g HGT.out (by decide) (by decide) (by decide) h1 h2 (o := X.x) hlx.2.1 (Int.le_refl _)
 rw [w5] at SX
 have SM := zid fun (v1 v2 : Value) (W : World) (h1 : IsPrs W v1 (Lg.stateT S S.x)) (h2 : IsPrs W v2 (Lg.stateT S S.x)) => fsame_yes v1 v2 _ W h1 h2
 have hw4 : (1 : Int) < ((⟨(Lg.snapT X).toArray⟩ : ByteArray).size : Int) := by have : (⟨(Lg.snapT X).toArray⟩ : ByteArray).size = (Lg.snapT X).length := rfl; omega
 obtain ⟨sx, hsx⟩ : ∃ s : ByteArray, (⟨(Lg.snapT X).toArray⟩ : ByteArray) = s := ⟨_, rfl⟩
 rw [hsx] at SN hw4
 have HW1 := zid w1
 have HW3 := zid w3
 clear w1 w3 w4 w5 hS hT G hlo hlx hsx
 unfold stVal at TR SN ST SX
 replace TR := zid TR
 replace SN := zid SN
 replace ST := zid ST.out
 replace SX := zid SX
 go_enter Tryz.func8, Tryz.ntmps8
 go_wp2_with fail
 refine PLH.out.mono ?_
 rintro e w1 ⟨a1, n1, c1, a2, n2, c2, S', b, rfl, bel, hb, ho⟩
 obtain rfl : b = true := ho awL_ok
 obtain ⟨_, rfl, ks⟩ := hb rfl
 rw [HSL.out] at ks ⊢
 have hn2 : n2 = 2 := by have := ks.g.len.1; rw [HW1.out] at this; exact this
 subst hn2
 have B1 := zid (al.out.trans (bel.mono al.out.size))
 have M0 : Ms w w.heap.size (.slice none 0 0) (.slice none 0 0) [] [(.slice none 0 0, ([] : List Dp.Fl))] [(.slice none 0 0, ([] : List Rt.Sg))] (w.alloc (.cells (PaL.vals awL).toArray 62)) := ⟨fun p hp => (by cases hp), fun p hp => by rw [List.mem_singleton] at hp; subst hp; exact ⟨IsL.nil _ _ _, fun _ _ => Sep.nil _ _ _, fun _ _ _ _ => Sep.nil _ _ _⟩, fun p hp => by rw [List.mem_singleton] at hp; subst hp; exact ⟨IsL.nil _ _ _, fun _ _ => Sep.nil _ _ _, fun _ _ _ _ => Sep.nil _ _ _⟩, al.out.size, al.out⟩
 have M1 := (M0.call2 mcs mcs ks).alloc #[.slice a1 n1 c1, .int .i64 S.d.c, .bool S.d.a, .int .i64 S.d.l, .bool S.d.x, .int .i64 S.v, .slice a2 2 c2, .int .i64 S.x, .int .i64 S.s, .int .i64 S.z, .int .u32 S.c] 32
 have HM1 := zid M1
 obtain ⟨⟨k0, k1, k2, k3, k4⟩, k5, k6, k7, k8, k9, k10⟩ := cellsS (M1.at_ mcs)
 have hwl := B1.out.size
 clear M0 M1 ks bel hb ho PLH al
 unfold stVal
 dsimp only
 go_wp2_with fail
 refine (TR.out _ _ _ _ _ _ _ (HM1.out.fl mcs) (HM1.out.sl mcs)).mono ?_
 rintro e w2 ⟨a3, n3, c3, a4, n4, c4, rfl, ks⟩
 have hn4 : n4 = 1 := by have := ks.g.len.1; rw [HW3.out] at this; exact this
 subst hn4
 have hlt : w1.heap.size < w2.heap.size := Nat.lt_of_lt_of_le (HM1.out.lt mcs) ks.w.size
 have M2 := (HM1.out.call2 mcs mcs ks).alloc #[.slice a3 n3 c3, .int .i64 X.d.c, .bool X.d.a, .int .i64 X.d.l, .bool X.d.x, .int .i64 X.v, .slice a4 1 c4, .int .i64 X.x, .int .i64 X.s, .int .i64 X.z, .int .u32 X.c] 32
 have T2 := zid (show Tw w w1.heap.size w2.heap.size (.slice a1 n1 c1) (.slice a2 2 c2) (.slice a3 n3 c3) (.slice a4 1 c4) S X _ from ⟨M2.sub (fun _ h => h) (fun p hp => by
  simp only [List.mem_cons, List.not_mem_nil, or_false] at hp ⊢
  rcases hp with rfl | rfl
  · exact .inl rfl
  · exact .inr (.inl rfl)) (fun p hp => by
  simp only [List.mem_cons, List.not_mem_nil, or_false] at hp ⊢
  rcases hp with rfl | rfl
  · exact .inl rfl
  · exact .inr (.inl rfl)), hwl, hlt⟩)
 clear M2 ks HM1 k0 k1 k2 k3 k4 k5 k6 k7 k8 k9 k10 TR B1
 unfold stVal
 dsimp only
 go_upto_region 3 with (fail)
 generalize World.alloc w2 _ = W2 at T2 ⊢
 generalize w1.heap.size = t at T2 hwl hlt ⊢
 generalize w2.heap.size = x at T2 hlt ⊢
 clear HG HGT HSL HW1 HW3
 obtain ⟨⟨k0, k1, k2, k3, k4⟩, k5, k6, k7, k8, k9, k10⟩ := cellsS T2.out.at_
 obtain ⟨⟨x0, x1, x2, x3, x4⟩, x5, x6, x7, x8, x9, x10⟩ := cellsS T2.out.ax
 have hl0 : t < W2.heap.size := (Array.getElem?_eq_some_iff.1 T2.out.at_).1
 have hl1 : x < W2.heap.size := (Array.getElem?_eq_some_iff.1 T2.out.ax).1
 go_region_held3 (fun W => (∀ b o, b < W2.heap.size → W.cell? ⟨b, o, none⟩ = W2.cell? ⟨b, o, none⟩) ∧ Below W2.heap.size W2 W) (first | with_reducible assumption | with_reducible exact KW.dr _ | with_reducible exact KW.keep (by assumption) (Below.refl _ _).drew | with_reducible exact KW.keep (by assumption) (by assumption)) (first | (go_at_call 12; refine (SN.out a3 a4 n3 c3 1 c4 _ (T2.out.xf.keep (KW.bel (by assumption))) (T2.out.xg.keep (KW.bel (by assumption)))).mono ?_; rintro e w5 ⟨rfl, q5⟩; have s5 := KW.keep (by assumption) q5) | (go_at_call 16; have hord := HPX; refine (ST.out a1 a2 n1 c1 2 c2 _ (T2.out.f.keep (KW.bel (by assumption))) (T2.out.g.keep (KW.bel (by assumption)))).mono ?_; rintro e w5 ⟨pa, pn, pc, rfl, hpr, q5⟩; have HPR := zid hpr; have s5 := KW.keep (by assumption) q5) | (go_at_call 16; refine (SX.out a3 a4 n3 c3 1 c4 _ (T2.out.xf.keep (KW.bel (by assumption))) (T2.out.xg.keep (KW.bel (by assumption)))).mono ?_; rintro e w5 ⟨qa, qn, qc, rfl, hpx, q5⟩; have HPX := zid hpx; have s5 := KW.keep (by assumption) q5) | (go_at_call 15; refine (SM.out _ _ _ (by first | exact HPX.out | exact HPX.out.below (by assumption) (Nat.le_refl _)) (by first | exact HPR.out | exact HPR.out.below (by assumption) (Nat.le_refl _))).mono ?_; rintro e w5 ⟨rfl, q5⟩; have s5 := KW.keep (by assumption) q5))
 all_goals
  rename_i hh
  have hz := T2.out.m.w.trans ((KW.bel hh).mono T2.out.m.w.size)
  clear hh
  have HZ := zid hz
  clear hz
  go_wp2_with fail
  go_ret
  exact ⟨rfl, HZ.out⟩
end Trm
namespace Trm
open Go.RowKit Go.ChangeShapes Go.WideShapes Go.Deep Go.Joins Dsk
theorem i64_wf13 {n : Int} (h : (Lit.int .i64 n).wf = true) : -9223372036854775808 ≤ n ∧ n ≤ 9223372036854775807 := by
 simpa [Lit.wf, IntKind.min, IntKind.max, IntKind.signed, IntKind.bits] using h
theorem u8_wf13 {n : Int} (h : (Lit.int .u8 n).wf = true) : 0 ≤ n ∧ n ≤ 255 := by
 simpa [Lit.wf, IntKind.min, IntKind.max, IntKind.signed, IntKind.bits] using h
section
variable {H : Type} {enc : TypeId × Value → H} {w : World} {base : Nat} {spare : Nat → Bool} {held : Bool}
theorem open_stC {n : Nat} {cs : List Value} {y : DataW H × List MemPlace} (h : DataW.trod enc Tryz.prog w base spare held n 52 cs = some y) : ∃ a l c ss, cs = [.slice a l c] ∧ IsStrs w (.slice a l c) ss := by
 rcases open_slice Tryz.underlying52 h with ⟨hc, _⟩ | ⟨x, len, cap, m, n, D, Pl, hc, _, hl, hm, hmm, _, hi⟩
 · exact ⟨none, 0, 0, [], hc, none, 0, rfl, Nat.zero_le _, fun _ h => (by cases h), .inl rfl⟩
 · refine ⟨some x, len, cap, ?_⟩
   have hlm : len ≤ m := by rw [hmm]; split <;> omega
   have hS : Tryz.prog.cellsOf 9 = 1 := by kernel_rfl
   rw [hS] at hi
   have key : ∀ i, i < len → ∃ r : ByteArray, r.size ≤ maxLen ∧ w.cell? (x.add i) = some (.string r) := by
    intro i hil
    obtain ⟨cs', hcs, ht⟩ := hi i (by omega)
    obtain ⟨_, hlen, hat⟩ := World.cells?_some hcs
    obtain ⟨c0, rfl⟩ : ∃ c0, cs' = [c0] := by
     match cs', hlen with
     | [c0], _ => exact ⟨c0, rfl⟩
    obtain ⟨rz, hz, _, wz⟩ := DataW.trod_string Tryz.underlying9 ht
    simp at hz
    subst hz
    have := hat 0 (by decide)
    rw [Nat.mul_one] at this
    refine ⟨rz, wz, ?_⟩
    simpa [Addr.add] using this
   obtain ⟨f, hf'⟩ : ∃ f : Nat → ByteArray, ∀ i, i < len → (f i).size ≤ maxLen ∧ w.cell? (x.add i) = some (.string (f i)) := by
    refine ⟨fun i => if h : i < len then Classical.choose (key i h) else ByteArray.empty, fun i h => ?_⟩
    simp only [dif_pos h]
    exact Classical.choose_spec (key i h)
   have hlen : ((List.range len).map f).length = len := by simp
   refine ⟨(List.range len).map f, hc, some x, cap, by rw [hlen], by rw [hlen]; omega, fun r hr => ?_, ?_⟩
   · rw [List.mem_map] at hr
     obtain ⟨i, hi', rfl⟩ := hr
     exact (hf' i (by simpa using hi')).1
   · by_cases h0 : len = 0
     · subst h0
       exact .inl rfl
     · obtain ⟨b, off, spot⟩ := x
       have h1 := (hf' 0 (by omega)).2
       have hspot : spot = none := by simpa [Addr.add] using World.cell?_spot h1
       subst hspot
       refine .inr ⟨b, off, rfl, fun i hi' => ?_⟩
       rw [hlen] at hi'
       have e : ((List.range len).map f).getD i ByteArray.empty = f i := by simp [List.getD_eq_getElem?_getD, hi']
       rw [e]
       have := (hf' i hi').2
       rwa [addr_plain] at this
theorem open_two {n : Nat} {c0 c1 : Value} {y : DataW H × List MemPlace} (h : DataW.trod enc Tryz.prog w base spare held n 23 [c0, c1] = some y) : ∃ a b : Int, c0 = .int .i64 a ∧ c1 = .int .i64 b ∧ (-9223372036854775808 ≤ a ∧ a ≤ 9223372036854775807) ∧ (-9223372036854775808 ≤ b ∧ b ≤ 9223372036854775807) := by
 have hB : Tryz.prog.cellsOf 3 = 1 := by kernel_rfl
 obtain ⟨xs, m, _, _, _, hlen, hi⟩ := DataW.trod_array Tryz.underlying23 h
 have i0 := hi 0 (by omega)
 have i1 := hi 1 (by omega)
 simp [hB] at i0 i1
 match xs, hlen with
 | [x0, x1], _ =>
  obtain ⟨ra, ha, _, wa⟩ := DataW.trod_int Tryz.underlying3 i0
  obtain ⟨rb, hb, _, wb⟩ := DataW.trod_int Tryz.underlying3 i1
  simp at ha hb
  subst ha hb
  exact ⟨ra, rb, rfl, rfl, i64_wf13 wa, i64_wf13 wb⟩
structure Row13 where
 q : Int
 a : Option Addr
 n : Nat
 c : Nat
 l : List ByteArray
 e : Int
 x : Int
 y : Int
def Row13.val (g : Row13) : Value := .agg #[.int .u8 g.q, .slice g.a g.n g.c, .int .u8 g.e, .int .i64 g.x, .int .i64 g.y]
structure Row13.Ok (w : World) (g : Row13) : Prop where
 q : 0 ≤ g.q ∧ g.q ≤ 255
 l : IsStrs w (.slice g.a g.n g.c) g.l
 e : 0 ≤ g.e ∧ g.e ≤ 255
 x : -9223372036854775808 ≤ g.x ∧ g.x ≤ 9223372036854775807
 y : -9223372036854775808 ≤ g.y ∧ g.y ≤ 9223372036854775807
theorem open_row13 {r : Reach} {b0 : Nat} {v : Value} {d : DataW H} {p : List MemPlace}
 (hv : Value.okWide Tryz.prog w r b0 54 v) (h : DataW.Trod enc Tryz.prog w base spare held 54 v d p) : ∃ x : Row13, v = x.val ∧ x.Ok w := by
 have hC : Tryz.prog.cellsOf 54 = 5 := by kernel_rfl
 have hS : Tryz.prog.cellsOf 52 = 1 := by kernel_rfl
 have hU : Tryz.prog.cellsOf 5 = 1 := by kernel_rfl
 have hA : Tryz.prog.cellsOf 23 = 2 := by kernel_rfl
 obtain ⟨cs, rfl, hsz⟩ := okWide_struct Tryz.underlying54 hv
 obtain ⟨l⟩ := cs
 match l, hsz.trans hC with
 | [c0, c1, c2, c3, c4], _ =>
  obtain ⟨fuel, hf⟩ := h
  obtain ⟨y0, y1, y2, y3, n, _, _, h0, h1, h2, h3⟩ := trod_struct4 Tryz.underlying54 hf
  simp [Value.cells, hS, hU, hA] at h0 h1 h2 h3
  obtain ⟨rq, hq, _, wq⟩ := DataW.trod_int Tryz.underlying5 h0
  obtain ⟨ka, kn, kc, ks, hkc, hks⟩ := open_stC h1
  obtain ⟨re, he, _, we⟩ := DataW.trod_int Tryz.underlying5 h2
  obtain ⟨ra, rb, ha, hb, wa, wb⟩ := open_two h3
  simp at hq hkc he
  subst hq hkc ha hb he
  exact ⟨⟨rq, ka, kn, kc, ks, re, ra, rb⟩, rfl, ⟨u8_wf13 wq, hks, u8_wf13 we, wa, wb⟩⟩
end
end Trm
namespace Trm
open Go.RowKit So Dsk Rts Sto
section
variable {w0 W : World}
end
theorem cells2 {W : World} {k : Nat} {T : TypeId} {x y : Value} (h : W.heap[k]? = some (.cells #[x, y] T (0, 0))) : W.cell? ⟨k, 0, none⟩ = some x ∧ W.cell? ⟨k, 1, none⟩ = some y :=
 ⟨by rw [Lib.cell_of_heap h]; rfl, by rw [Lib.cell_of_heap h]; rfl⟩
section
variable {w0 W W' : World} {h t x : Nat} {n0 n1 : Int} {v1 u1 v2 u2 : Value} {S X : St}
end
end Trm
end Go.Proofs.YtijbpdpkoamhbaaGreat
