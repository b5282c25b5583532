/-
  Parts of what the laws of this seat stand on: Law13P.
-/
import Derived.Test.YtijbpdpkoamhbaaGreatQa1
import Derived.Test.YtijbpdpkoamhbaaGreatQa47
import Derived.Test.YtijbpdpkoamhbaaGreatQa52
set_option maxRecDepth 100000
set_option maxHeartbeats 6400000
namespace Go.Proofs.YtijbpdpkoamhbaaGreat
namespace Trm
open Go.RowKit So Dsk Rts Sto
structure Tv (w : World) (h t x y : Nat) (n0 n1 : Int) (f1 g1 f2 g2 f3 g3 : Value) (S X : St) (W : World) : Prop where
 m : Ms w w.heap.size (.slice none 0 0) (.slice none 0 0) [(y, stC f3 g3 X), (x, stC f2 g2 X), (t, stC f1 g1 S), (h, .cells #[.int .i64 n0, .int .i64 n1] 23)] [(f3, X.d.f), (f2, X.d.f), (f1, S.d.f)] [(g3, X.g), (g2, X.g), (g1, S.g)] W
theorem Tv.keep {w W W' : World} {h t x y : Nat} {n0 n1 : Int} {f1 g1 f2 g2 f3 g3 : Value} {S X : St} (k : Tv w h t x y n0 n1 f1 g1 f2 g2 f3 g3 S X W) (b : Below W.heap.size W W') : Tv w h t x y n0 n1 f1 g1 f2 g2 f3 g3 S X W' := ⟨k.m.keep b⟩
theorem plays13 (g : Ask13) (w : World) (hg : g.Ok w) : Calls Tryz.prog 3 #[g.val] w fun e w' => e = .returned (.bool true) ∧ Below w.heap.size w w' := by
 obtain ⟨q, pa, pn, pc, l, x, y, o⟩ := g
 obtain ⟨hq, h, hx, hy, ho⟩ := hg
 dsimp only at hq h hx hy ho
 unfold Ask13.val
 dsimp only
 have A0 := zid ((Below.refl w.heap.size w).alloc (Nat.le_refl _) (.cells #[.int .u8 q, .slice pa pn pc, .int .i64 x, .int .i64 y, .int .u8 o] 25))
 have X0 := heap_alloc_new w (.cells #[.int .u8 q, .slice pa pn pc, .int .i64 x, .int .i64 y, .int .u8 o] 25)
 have hlt0 : w.heap.size < (w.alloc (.cells #[.int .u8 q, .slice pa pn pc, .int .i64 x, .int .i64 y, .int .u8 o] 25)).heap.size := by simp
 have PL := zid fun (W : World) (hW : IsL PaL W (.slice pa pn pc) l) => play13_any (20 + q) pa pn pc l W (by omega) hW
 have HL := zid h
 have AW := zid fun W : World => awake13 W
 have hw20 : IntKind.i64.wrap (20 + q) = 20 + q := IntWalk.i64_in _ ⟨by omega, by omega⟩
 have hwq : IntKind.i64.wrap q = q := IntWalk.i64_in _ ⟨by omega, by omega⟩
 have hwo : IntKind.i64.wrap o = o := IntWalk.i64_in _ ⟨by omega, by omega⟩
 clear h
 go_enter Tryz.func3, Tryz.ntmps3
 go_upto_region 1 with (fail)
 generalize w.alloc _ = w00 at A0 X0 hlt0 ⊢
 obtain ⟨d0, d1, d2, d3, d4⟩ := cells5 X0
 go_cut [3, 4, 5, 6] (fun v1 v2 p v3 we => v1 = .int .u8 q ∧ v2 = .slice pa pn pc ∧ v3 = .int .u8 o ∧ ∃ t : Nat, p = .pointer (some ⟨t, 0, none⟩) ∧ we.heap[t]? = some (.cells #[.int .i64 x, .int .i64 y] 23 (0, 0)) ∧ w00.heap.size ≤ t ∧ Below w00.heap.size w00 we)
 case first =>
  clear PL HL AW
  go_region_held3 (fun W => (∀ b o, b < w00.heap.size → W.cell? ⟨b, o, none⟩ = w00.cell? ⟨b, o, none⟩) ∧ Below w00.heap.size w00 W) (first | with_reducible assumption | with_reducible exact kw_al2 (by assumption) | with_reducible exact kw_st2 (by assumption) (Nat.le_refl _) | with_reducible exact KW.dr _ | with_reducible exact KW.al11 (by assumption) | with_reducible exact KW.al (by assumption) | with_reducible exact KW.ad (KW.start _) | with_reducible exact KW.ad (by assumption) | with_reducible exact KW.st11 (by assumption) (Nat.le_refl _) | with_reducible exact KW.st11 (by assumption) (by assumption) | with_reducible exact KW.keep (by assumption) (Below.refl _ _).drew | with_reducible exact KW.keep (by assumption) (by assumption)) (fail)
  all_goals
   rename_i hh
   have hz := hh.2
   clear hh
   go_wp2_with fail
   go_meet
   case rel => exact ⟨rfl, rfl, rfl, _, rfl, heap_alloc_new w00 _, Nat.le_refl _, hz⟩
 case rest =>
 clear d0 d1 d2 d3 d4
 obtain ⟨rfl, rfl, rfl, t6, rfl, X6, hs6, LT⟩ := hcut
 replace A0 := zid (A0.out.trans (LT.mono A0.out.size))
 have HX0 := zid X6
 have ht6 : w.heap.size ≤ t6 := Nat.le_trans (Nat.le_of_lt hlt0) hs6
 clear X6 X0 LT hs6 hlt0
 go_wp2_with fail
 refine (PL.out _ (HL.out.keep A0.out)).mono ?_
 rintro e w1 ⟨a1, n1, c1, a2, n2, c2, S, b, rfl, bel, hb, _⟩
 have B1 := zid (A0.out.trans (bel.mono A0.out.size))
 cases b with
 | false =>
  have al := zid (B1.out.alloc B1.out.size (.cells #[.slice a1 n1 c1, .int .i64 S.d.c, .bool S.d.a, .int .i64 S.d.l, .bool S.d.x, .int .i64 S.v, .slice a2 n2 c2, .int .i64 S.x, .int .i64 S.s, .int .i64 S.z, .int .u32 S.c] 32))
  clear bel hb
  unfold stVal
  dsimp only
  go_wp2_with fail
  refine (AW.out _).mono ?_
  rintro e w2 ⟨rfl, b2⟩
  have L2 := zid (al.out.trans (b2.mono al.out.size))
  clear b2
  go_wp2_with fail
  go_ret
  exact ⟨rfl, L2.out⟩
 | true =>
  obtain ⟨hl40, hSe, ks⟩ := hb rfl
  have G := play_g (q := 20 + q) (by omega) HL.out.ok hl40
  rw [← hSe] at G
  have HG := zid G
  have TR := fun (a a' : Option Addr) (n c n' c' : Nat) (W : World) (h1 : IsL FL W (.slice a n c) S.d.f) (h2 : IsL SL W (.slice a' n' c') S.g) => trim13g HG.out (by omega) (by decide) (by decide) h1 h2 hx hy
  have RT := fun (a a' : Option Addr) (n c n' c' : Nat) (W : World) (h1 : IsL FL W (.slice a n c) S.d.f) (h2 : IsL SL W (.slice a' n' c') S.g) => rtrim13g (keep := x) (count := y) HG.out (by omega) (by decide) (by decide) h1 h2
  obtain ⟨⟨X, E⟩, hT⟩ : ∃ R, Lg.trimT S x y = R := ⟨_, rfl⟩
  rw [hT] at TR RT
  have SN := fun (a a' : Option Addr) (n c n' c' : Nat) (W : World) (h1 : IsL FL W (.slice a n c) S.d.f) (h2 : IsL SL W (.slice a' n' c') S.g) => snap13g HG.out (by omega) (by decide) (by decide) h1 h2
  have RN := fun (a a' : Option Addr) (n c n' c' : Nat) (W : World) (h1 : IsL FL W (.slice a n c) S.d.f) (h2 : IsL SL W (.slice a' n' c') S.g) => rsnap13g HG.out (by omega) (by decide) (by decide) h1 h2
  generalize (⟨(Lg.snapT S).toArray⟩ : ByteArray) = sx at SN RN
  have hlo := HG.out.lo
  have FLS := fun (a a' : Option Addr) (n c n' c' : Nat) (W : World) (h2 : IsL SL W (.slice a' n' c') S.g) => rfloor_any (.slice a n c) (.slice a' n' c') S W h2 HG.out.ne
  have SS := fun (a a' : Option Addr) (n c n' c' : Nat) (o : Int) (h1 : floor S ≤ o) (h2 : o ≤ S.x) (W : World) (h3 : IsL FL W (.slice a n c) S.d.f) (h4 : IsL SL W (.slice a' n' c') S.g) => state13g HG.out (by omega) (by decide) (by decide) h3 h4 (o := o) h1 h2
  have RS := fun (a a' : Option Addr) (n c n' c' : Nat) (o : Int) (h2 : o ≤ S.x) (W : World) (h3 : IsL FL W (.slice a n c) S.d.f) (h4 : IsL SL W (.slice a' n' c') S.g) => rstate13g HG.out (by omega) (by decide) (by decide) h3 h4 (o := o) h2
  have SM := zid fun (v1 v2 : Value) (l : List Fp.Pr) (W : World) (h1 : IsPrs W v1 l) (h2 : IsPrs W v2 l) => fsame_yes v1 v2 l W h1 h2
  have SMS := fun (a a' b b' : Option Addr) (n c n' c' m d m' d' : Nat) (W : World) (h1 : IsL FL W (.slice a n c) X.d.f) (h2 : IsL SL W (.slice a' n' c') X.g) (h3 : IsL FL W (.slice b m d) X.d.f) (h4 : IsL SL W (.slice b' m' d') X.g) => rsame12_yes (.slice a n c) (.slice a' n' c') (.slice b m d) (.slice b' m' d') X W h1 h2 h3 h4
  unfold stVal at TR RT SN RN FLS SS RS SMS
  replace TR := zid TR
  replace RT := zid RT
  replace SN := zid SN
  replace RN := zid RN
  replace FLS := zid FLS
  replace SS := zid SS
  replace RS := zid RS
  replace SMS := zid SMS
  have M1 := ((ms0 HX0.out ht6 A0.out).call2 mcs mcs ks).alloc #[.slice a1 n1 c1, .int .i64 S.d.c, .bool S.d.a, .int .i64 S.d.l, .bool S.d.x, .int .i64 S.v, .slice a2 n2 c2, .int .i64 S.x, .int .i64 S.s, .int .i64 S.z, .int .u32 S.c] 32
  have HM1 := zid M1
  obtain ⟨⟨k0, k1, k2, k3, k4⟩, k5, k6, k7, k8, k9, k10⟩ := cellsS (M1.at_ mcs)
  obtain ⟨m0, m1⟩ := cells2 (M1.at_ (mcm mcs))
  clear M1 ks bel hb hT hSe G PL HL hl40 A0 HX0 B1
  unfold stVal
  dsimp only
  go_wp2_with fail
  refine (TR.out _ _ _ _ _ _ _ (HM1.out.fl mcs) (HM1.out.sl mcs)).mono ?_
  rintro e w2 ⟨a3, n3, c3, a4, n4, c4, rfl, ks⟩
  have M2 := (HM1.out.call2 mcs mcs ks).alloc #[.slice a3 n3 c3, .int .i64 X.d.c, .bool X.d.a, .int .i64 X.d.l, .bool X.d.x, .int .i64 X.v, .slice a4 n4 c4, .int .i64 X.x, .int .i64 X.s, .int .i64 X.z, .int .u32 X.c] 32
  have T3 := zid (show Th w t6 w1.heap.size w2.heap.size x y (.slice a1 n1 c1) (.slice a2 n2 c2) (.slice a3 n3 c3) (.slice a4 n4 c4) S X _ from ⟨M2.sub (fun _ h => h) (fun p hp => by
   simp only [List.mem_cons, List.not_mem_nil, or_false] at hp ⊢
   rcases hp with rfl | rfl
   · exact .inl rfl
   · exact .inr (.inl rfl)) (fun p hp => by
   simp only [List.mem_cons, List.not_mem_nil, or_false] at hp ⊢
   rcases hp with rfl | rfl
   · exact .inl rfl
   · exact .inr (.inl rfl))⟩)
  clear M2 ks HM1 k0 k1 k2 k3 k4 k5 k6 k7 k8 k9 k10 m0 m1 TR
  unfold stVal
  dsimp only
  go_upto_region 6 with (fail)
  generalize World.alloc w2 _ = W2 at T3 ⊢
  generalize w1.heap.size = t at T3 ⊢
  generalize w2.heap.size = xx at T3 ⊢
  obtain ⟨⟨k0, k1, k2, k3, k4⟩, k5, k6, k7, k8, k9, k10⟩ := cellsS T3.out.at_
  obtain ⟨m0, m1⟩ := cells2 T3.out.ah
  go_wp2_with fail
  refine (RT.out _ _ _ _ _ _ _ T3.out.f T3.out.g).mono ?_
  rintro e w5 ⟨a5, n5, c5, a6, n6, c6, rfl, ks⟩
  have M5 := (T3.out.m.call2 (mcm mcs) (mcm mcs) ks).alloc #[.slice a5 n5 c5, .int .i64 X.d.c, .bool X.d.a, .int .i64 X.d.l, .bool X.d.x, .int .i64 X.v, .slice a6 n6 c6, .int .i64 X.x, .int .i64 X.s, .int .i64 X.z, .int .u32 X.c] 32
  have T5 := zid (show Tv w t6 t xx w5.heap.size x y (.slice a1 n1 c1) (.slice a2 n2 c2) (.slice a3 n3 c3) (.slice a4 n4 c4) (.slice a5 n5 c5) (.slice a6 n6 c6) S X _ from ⟨M5⟩)
  clear M5 ks T3 k0 k1 k2 k3 k4 k5 k6 k7 k8 k9 k10 m0 m1 RT
  unfold stVal
  dsimp only
  go_upto_region 7 with (fail)
  generalize World.alloc w5 _ = W5 at T5 ⊢
  generalize w5.heap.size = yy at T5 ⊢
  clear HG
  go_cut [67] (fun v wc => v = .bool false ∧ Below W5.heap.size W5 wc)
  case first =>
   have o1 := T5.out.m.at_ (t := t) (mcm (mcm mcs))
   have o2 := T5.out.m.at_ (t := xx) (mcm mcs)
   have o3 := T5.out.m.at_ (t := yy) mcs
   obtain ⟨⟨k0, k1, k2, k3, k4⟩, k5, k6, k7, k8, k9, k10⟩ := cellsS o1
   obtain ⟨⟨x0, x1, x2, x3, x4⟩, x5, x6, x7, x8, x9, x10⟩ := cellsS o2
   obtain ⟨⟨y0, y1, y2, y3, y4⟩, y5, y6, y7, y8, y9, y10⟩ := cellsS o3
   have hl0 := (Array.getElem?_eq_some_iff.1 o1).1
   have hl1 := (Array.getElem?_eq_some_iff.1 o2).1
   have hl2 := (Array.getElem?_eq_some_iff.1 o3).1
   have I1 := zid (T5.out.m.fl (v := .slice a1 n1 c1) (mcm (mcm mcs)))
   have J1 := zid (T5.out.m.sl (v := .slice a2 n2 c2) (mcm (mcm mcs)))
   have I2 := zid (T5.out.m.fl (v := .slice a3 n3 c3) (mcm mcs))
   have J2 := zid (T5.out.m.sl (v := .slice a4 n4 c4) (mcm mcs))
   have I3 := zid (T5.out.m.fl (v := .slice a5 n5 c5) mcs)
   have J3 := zid (T5.out.m.sl (v := .slice a6 n6 c6) mcs)
   clear o1 o2 o3 AW FLS SS RS SM hlo T5 hwo hw20 hwq
   go_region_held3 (fun W => (∀ b o, b < W5.heap.size → W.cell? ⟨b, o, none⟩ = W5.cell? ⟨b, o, none⟩) ∧ Below W5.heap.size W5 W) (first | with_reducible assumption | with_reducible exact KW.dr _ | with_reducible exact KW.keep (by assumption) (Below.refl _ _).drew | with_reducible exact KW.keep (by assumption) (by assumption)) (first | (go_at_call 12; refine (SN.out a1 a2 n1 c1 n2 c2 _ (I1.out.keep (KW.bel (by assumption))) (J1.out.keep (KW.bel (by assumption)))).mono ?_; rintro e w5 ⟨rfl, q5⟩; have s5 := KW.keep (by assumption) q5) | (go_at_call 13; refine (RN.out a1 a2 n1 c1 n2 c2 _ (I1.out.keep (KW.bel (by assumption))) (J1.out.keep (KW.bel (by assumption)))).mono ?_; rintro e w5 ⟨rfl, q5⟩; have s5 := KW.keep (by assumption) q5) | (go_at_call 11; refine (SMS.out a3 a4 a5 a6 n3 c3 n4 c4 n5 c5 n6 c6 _ (I2.out.keep (KW.bel (by assumption))) (J2.out.keep (KW.bel (by assumption))) (I3.out.keep (KW.bel (by assumption))) (J3.out.keep (KW.bel (by assumption)))).mono ?_; rintro e w5 ⟨rfl, q5⟩; have s5 := KW.keep (by assumption) q5))
   all_goals
    rename_i hh
    have LB := zid (KW.bel hh)
    clear hh
    go_wp2_with fail
    go_meet
    case rel => exact ⟨rfl, LB.out⟩
  case rest =>
   obtain ⟨rfl, bc⟩ := hcut
   have T6 := zid (T5.out.keep bc)
   clear bc T5 SN RN SMS
   obtain ⟨⟨k0, k1, k2, k3, k4⟩, k5, k6, k7, k8, k9, k10⟩ := cellsS (T6.out.m.at_ (t := t) (mcm (mcm mcs)))
   go_wp2_with fail
   refine (FLS.out _ _ _ _ _ _ _ (T6.out.m.sl (v := .slice a2 n2 c2) (mcm (mcm mcs)))).mono ?_
   rintro e w6 ⟨rfl, b6⟩
   have T7 := zid (T6.out.keep b6)
   clear b6 T6 FLS k0 k1 k2 k3 k4 k5 k6 k7 k8 k9 k10
   obtain ⟨⟨k0, k1, k2, k3, k4⟩, k5, k6, k7, k8, k9, k10⟩ := cellsS (T7.out.m.at_ (t := t) (mcm (mcm mcs)))
   generalize floor S = fl at SS hlo ⊢
   have hw1 : IntKind.i64.wrap (S.x - fl) = S.x - fl := IntWalk.i64_in _ ⟨by omega, by omega⟩
   have hw2 : IntKind.i64.wrap (S.x - fl + 1) = S.x - fl + 1 := IntWalk.i64_in _ ⟨by omega, by omega⟩
   have hnz : S.x - fl + 1 ≠ 0 := by omega
   go_upto_region 11 with (fail)
   have hr0 : 0 ≤ o % (S.x - fl + 1) := Int.emod_nonneg _ hnz
   have hr1 : o % (S.x - fl + 1) < S.x - fl + 1 := Int.emod_lt_of_pos _ (by omega)
   obtain ⟨at_, hat⟩ : ∃ v, fl + o % (S.x - fl + 1) = v := ⟨_, rfl⟩
   have hwa : wrap64 at_ = at_ := by unfold wrap64; omega
   rw [hat, hwa]
   have SS1 := zid fun (W : World) (h3 : IsL FL W (.slice a1 n1 c1) S.d.f) (h4 : IsL SL W (.slice a2 n2 c2) S.g) => SS.out a1 a2 n1 c1 n2 c2 at_ (by omega) (by omega) W h3 h4
   have RS1 := zid fun (W : World) (h3 : IsL FL W (.slice a1 n1 c1) S.d.f) (h4 : IsL SL W (.slice a2 n2 c2) S.g) => RS.out a1 a2 n1 c1 n2 c2 at_ (by omega) W h3 h4
   generalize Lg.stateT S at_ = L at SS1 RS1
   have o1 := T7.out.m.at_ (t := t) (mcm (mcm mcs))
   have hl0 := (Array.getElem?_eq_some_iff.1 o1).1
   have I1 := zid (T7.out.m.fl (v := .slice a1 n1 c1) (mcm (mcm mcs)))
   have J1 := zid (T7.out.m.sl (v := .slice a2 n2 c2) (mcm (mcm mcs)))
   have TW := zid T7.out.m.w
   clear o1 T7 SS RS hw1 hw2 hnz hr0 hr1 hat hwa hlo hwo hw20 hwq
   go_region_held3 (fun W => (∀ b o, b < w6.heap.size → W.cell? ⟨b, o, none⟩ = w6.cell? ⟨b, o, none⟩) ∧ Below w6.heap.size w6 W) (first | with_reducible assumption | with_reducible exact KW.dr _ | with_reducible exact KW.keep (by assumption) (Below.refl _ _).drew | with_reducible exact KW.keep (by assumption) (by assumption)) (first | (go_at_call 8; refine (AW.out _).mono ?_; rintro e w5 ⟨rfl, q5⟩; have s5 := KW.keep (by assumption) q5) | (go_at_call 16; refine (SS1.out _ (I1.out.keep (KW.bel (by assumption))) (J1.out.keep (KW.bel (by assumption)))).mono ?_; rintro e w5 ⟨pa, pn, pc, rfl, hpr, q5⟩; have HPR := zid hpr; have s5 := KW.keep (by assumption) q5) | (go_at_call 17; refine (RS1.out _ (I1.out.keep (KW.bel (by assumption))) (J1.out.keep (KW.bel (by assumption)))).mono ?_; rintro e w5 ⟨qa, qn, qc, rfl, hpx, q5⟩; have HPX := zid hpx; have s5 := KW.keep (by assumption) q5) | (go_at_call 15; refine (SM.out _ _ L _ (by first | exact HPR.out | exact HPR.out.below (by assumption) (Nat.le_refl _)) (by first | exact HPX.out | exact HPX.out.below (by assumption) (Nat.le_refl _))).mono ?_; rintro e w5 ⟨rfl, q5⟩; have s5 := KW.keep (by assumption) q5))
   all_goals
    rename_i hh
    have LB := zid (TW.out.trans ((KW.bel hh).mono TW.out.size))
    clear hh
    go_wp2_with fail
    go_ret
    exact ⟨rfl, LB.out⟩
end Trm
end Go.Proofs.YtijbpdpkoamhbaaGreat
