/-
  Parts of what the laws of this seat stand on: Law13S.
-/
import Derived.Test.YtijbpdpkoamhbaaGreatQa1
import Derived.Laws.StructEq
import Derived.Test.YtijbpdpkoamhbaaGreatQa47
import Derived.Test.YtijbpdpkoamhbaaGreatQa52
set_option maxRecDepth 100000
set_option maxHeartbeats 6400000
namespace Go.Proofs.YtijbpdpkoamhbaaGreat
namespace Trm
open Go.RowKit So Dsk Rts Sto
theorem states13 (q : Int) (pa : Option Addr) (pn pc : Nat) (l : List Lg.Pa) (x y : Int) (w : World) (hq : 0 ≤ q ∧ q ≤ 255) (h : IsL PaL w (.slice pa pn pc) l) (hx : -9223372036854775808 ≤ x ∧ x ≤ 9223372036854775807) (hy : -9223372036854775808 ≤ y ∧ y ≤ 9223372036854775807) :
 Calls Tryz.prog 4 #[.int .u8 q, .slice pa pn pc, .agg #[.int .i64 x, .int .i64 y]] w fun e w' => e = .returned (.bool true) ∧ Below w.heap.size w w' := by
 have A0 := zid ((Below.refl w.heap.size w).alloc (Nat.le_refl _) (.cells #[.int .i64 x, .int .i64 y] 23))
 have X0 := heap_alloc_new w (.cells #[.int .i64 x, .int .i64 y] 23)
 have PL := zid fun (W : World) (hW : IsL PaL W (.slice pa pn pc) l) => play13_any (20 + q) pa pn pc l W (by omega) hW
 have HL := zid h
 have AW := zid fun W : World => awake13 W
 have hw20 : IntKind.i64.wrap (20 + q) = 20 + q := IntWalk.i64_in _ ⟨by omega, by omega⟩
 have hwq : IntKind.i64.wrap q = q := IntWalk.i64_in _ ⟨by omega, by omega⟩
 clear h
 go_enter Tryz.func4, Tryz.ntmps4
 go_upto_region 1 with (fail)
 generalize w.alloc _ = w0 at A0 X0 ⊢
 have HX0 := zid X0
 clear X0
 go_wp2_with fail
 refine (PL.out _ (HL.out.keep A0.out)).mono ?_
 rintro e w1 ⟨a1, n1, c1, a2, n2, c2, S, b, rfl, bel, hb, _⟩
 have B1 := zid (A0.out.trans (bel.mono A0.out.size))
 cases b with
 | false =>
  have al := zid (B1.out.alloc B1.out.size (.cells #[.slice a1 n1 c1, .int .i64 S.d.c, .bool S.d.a, .int .i64 S.d.l, .bool S.d.x, .int .i64 S.v, .slice a2 n2 c2, .int .i64 S.x, .int .i64 S.s, .int .i64 S.z, .int .u32 S.c] 32))
  clear bel hb
  unfold stVal
  dsimp only
  go_wp2_with fail
  refine (AW.out _).mono ?_
  rintro e w2 ⟨rfl, b2⟩
  have L2 := zid (al.out.trans (b2.mono al.out.size))
  clear b2
  go_wp2_with fail
  go_ret
  exact ⟨rfl, L2.out⟩
 | true =>
  obtain ⟨hl40, hSe, ks⟩ := hb rfl
  have G := play_g (q := 20 + q) (by omega) HL.out.ok hl40
  rw [← hSe] at G
  have HG := zid G
  have HGT := zid (G.trim (by decide) (by decide) x y)
  have F := trm_facts G (by decide) x y
  have TR := fun (a a' : Option Addr) (n c n' c' : Nat) (W : World) (h1 : IsL FL W (.slice a n c) S.d.f) (h2 : IsL SL W (.slice a' n' c') S.g) => trim13g HG.out (by omega) (by decide) (by decide) h1 h2 hx hy
  obtain ⟨⟨X, E⟩, hT⟩ : ∃ R, Lg.trimT S x y = R := ⟨_, rfl⟩
  rw [hT] at TR HGT F
  have HF := zid F
  dsimp only at HGT TR
  have hne := HGT.out.ne
  have hloS := HG.out.lo
  have hloX := HGT.out.lo
  have FLX := fun (a a' : Option Addr) (n c n' c' : Nat) (W : World) (h2 : IsL SL W (.slice a' n' c') X.g) => rfloor_any (.slice a n c) (.slice a' n' c') X W h2 hne
  have FLS := fun (a a' : Option Addr) (n c n' c' : Nat) (W : World) (h2 : IsL SL W (.slice a' n' c') S.g) => rfloor_any (.slice a n c) (.slice a' n' c') S W h2 HG.out.ne
  have SX := fun (a a' : Option Addr) (n c n' c' : Nat) (o : Int) (h1 : floor X ≤ o) (h2 : o ≤ S.x) (W : World) (h3 : IsL FL W (.slice a n c) X.d.f) (h4 : IsL SL W (.slice a' n' c') X.g) => (show Calls Tryz.prog 16 #[stVal (.slice a n c) (.slice a' n' c') X, .int .i64 o] W (SttOut W (Lg.stateT S o)) from by
   have h := state13g HGT.out (by omega) (by decide) (by decide) h3 h4 (o := o) h1 (by have e : X.x = S.x := HF.out.x; omega)
   have e : Lg.stateT X o = Lg.stateT S o := HF.out.st o h1 h2
   rwa [e] at h)
  have SS := fun (a a' : Option Addr) (n c n' c' : Nat) (o : Int) (h1 : floor X ≤ o) (h2 : o ≤ S.x) (W : World) (h3 : IsL FL W (.slice a n c) S.d.f) (h4 : IsL SL W (.slice a' n' c') S.g) => state13g HG.out (by omega) (by decide) (by decide) h3 h4 (o := o) (by have e : floor S ≤ floor X := HF.out.lo.1; omega) h2
  have RS := fun (a a' : Option Addr) (n c n' c' : Nat) (o : Int) (W : World) (h3 : IsL FL W (.slice a n c) S.d.f) (h4 : IsL SL W (.slice a' n' c') S.g) => rread12_any a a' n c n' c' S o W h3 h4 (HG.out.stb (by omega) (by decide) (by decide))
  have RX := fun (a a' : Option Addr) (n c n' c' : Nat) (o : Int) (h1 : floor X ≤ o) (h2 : o < S.x) (W : World) (h3 : IsL FL W (.slice a n c) X.d.f) (h4 : IsL SL W (.slice a' n' c') X.g) => (show Calls Tryz.prog 18 #[stVal (.slice a n c) (.slice a' n' c') X, .int .i64 o] W (fun e w' => e = .returned (RdVal ((readT S o).1, 0)) ∧ Below W.heap.size W w') from by
   have h := rread12_any a a' n c n' c' X o W h3 h4 (HGT.out.stb (by omega) (by decide) (by decide))
   have e : readT X o = ((readT S o).1, 0) := HF.out.rd o h1 h2
   rwa [e] at h)
  have SM := zid fun (v1 v2 : Value) (l : List Fp.Pr) (W : World) (h1 : IsPrs W v1 l) (h2 : IsPrs W v2 l) => fsame_yes v1 v2 l W h1 h2
  have e3 : (X.x != S.x) = false := by have e : X.x = S.x := F.x; simp [e]
  have e4 : (X.s != S.s) = false := by have e : X.s = S.s := F.s; simp [e]
  have hl1 : floor S ≤ floor X := F.lo.1
  have hl2 : floor X ≤ S.x := F.lo.2
  have hEE : E = 0 ∨ E = 9 ∨ E = 10 := F.e
  have hx40 : S.x ≤ 40 := hloS.2.2
  have hfl0 : 0 ≤ floor X := hloX.1
  unfold stVal at TR FLX FLS SX SS RS RX
  unfold RdVal recVal at RS RX
  replace TR := zid TR
  replace FLX := zid FLX
  replace FLS := zid FLS
  replace SX := zid SX
  replace SS := zid SS
  replace RS := zid RS
  replace RX := zid RX
  have M1 := ((ms0 HX0.out (Nat.le_refl _) A0.out).call2 mcs mcs ks).alloc #[.slice a1 n1 c1, .int .i64 S.d.c, .bool S.d.a, .int .i64 S.d.l, .bool S.d.x, .int .i64 S.v, .slice a2 n2 c2, .int .i64 S.x, .int .i64 S.s, .int .i64 S.z, .int .u32 S.c] 32
  have HM1 := zid M1
  obtain ⟨⟨k0, k1, k2, k3, k4⟩, k5, k6, k7, k8, k9, k10⟩ := cellsS (M1.at_ mcs)
  obtain ⟨m0, m1⟩ := cells2 (M1.at_ (mcm mcs))
  have hwl : w.heap.size < w1.heap.size := Nat.lt_of_lt_of_le (Array.getElem?_eq_some_iff.1 HX0.out).1 bel.size
  clear M1 ks bel hb hT hSe F G PL HL hl40 A0 HX0 B1 hloS hloX
  unfold stVal
  dsimp only
  go_wp2_with fail
  refine (TR.out _ _ _ _ _ _ _ (HM1.out.fl mcs) (HM1.out.sl mcs)).mono ?_
  rintro e w2 ⟨a3, n3, c3, a4, n4, c4, rfl, ks⟩
  have M2 := (HM1.out.call2 mcs mcs ks).alloc #[.slice a3 n3 c3, .int .i64 X.d.c, .bool X.d.a, .int .i64 X.d.l, .bool X.d.x, .int .i64 X.v, .slice a4 n4 c4, .int .i64 X.x, .int .i64 X.s, .int .i64 X.z, .int .u32 X.c] 32
  have hlt : w1.heap.size < w2.heap.size := Nat.lt_of_lt_of_le (HM1.out.lt mcs) ks.w.size
  have T3 := zid (show Th w w.heap.size w1.heap.size w2.heap.size x y (.slice a1 n1 c1) (.slice a2 n2 c2) (.slice a3 n3 c3) (.slice a4 n4 c4) S X _ from ⟨M2.sub (fun _ h => h) (fun p hp => by
   simp only [List.mem_cons, List.not_mem_nil, or_false] at hp ⊢
   rcases hp with rfl | rfl
   · exact .inl rfl
   · exact .inr (.inl rfl)) (fun p hp => by
   simp only [List.mem_cons, List.not_mem_nil, or_false] at hp ⊢
   rcases hp with rfl | rfl
   · exact .inl rfl
   · exact .inr (.inl rfl))⟩)
  clear M2 ks HM1 k0 k1 k2 k3 k4 k5 k6 k7 k8 k9 k10 m0 m1 TR hne
  unfold stVal
  dsimp only
  go_upto_region 5 with (fail)
  generalize World.alloc w2 _ = W2 at T3 ⊢
  generalize w1.heap.size = t at T3 hwl hlt ⊢
  generalize w2.heap.size = xx at T3 hlt ⊢
  clear HG HGT HF hwl hlt
  generalize floor X = fx at FLX SX SS RX hl1 hl2 hfl0
  generalize floor S = fs at FLS hl1
  obtain ⟨⟨x0, x1, x2, x3, x4⟩, x5, x6, x7, x8, x9, x10⟩ := cellsS T3.out.ax
  go_wp2_with fail
  refine (FLX.out _ _ _ _ _ _ _ T3.out.g2).mono ?_
  rintro e w5 ⟨rfl, b5⟩
  have T5 := zid (T3.out.keep b5)
  clear b5 T3 x0 x1 x2 x3 x4 x5 x6 x7 x8 x9 x10 FLX
  go_upto_region 6 with (fail)
  go_cut [75] (fun v wc => v = .bool false ∧ Below w5.heap.size w5 wc)
  case first =>
   obtain ⟨⟨k0, k1, k2, k3, k4⟩, k5, k6, k7, k8, k9, k10⟩ := cellsS T5.out.at_
   clear SX SS RS RX SM AW
   go_wp2_with fail
   refine (FLS.out _ _ _ _ _ _ _ T5.out.g).mono ?_
   rintro e w6 ⟨rfl, b6⟩
   have T6 := zid (T5.out.keep b6)
   have HB6 := zid b6
   clear b6 k0 k1 k2 k3 k4 k5 k6 k7 k8 k9 k10 FLS T5
   obtain ⟨⟨k0, k1, k2, k3, k4⟩, k5, k6, k7, k8, k9, k10⟩ := cellsS T6.out.at_
   obtain ⟨⟨x0, x1, x2, x3, x4⟩, x5, x6, x7, x8, x9, x10⟩ := cellsS T6.out.ax
   have hc1 : ¬ fx < fs := by omega
   have hc2 : ¬ S.x < fx := by omega
   rcases hEE with rfl | rfl | rfl
   all_goals
    go_wp2_with fail
    go_meet
    case rel => exact ⟨by simp [hc1, hc2], HB6.out⟩
  case rest =>
   obtain ⟨rfl, bc⟩ := hcut
   have T6 := zid (T5.out.keep bc)
   clear bc T5 FLS hEE e3 e4
   obtain ⟨f0, hf0⟩ : ∃ f0 : Nat, fx = (f0 : Int) := ⟨fx.toNat, by omega⟩
   obtain ⟨d, hd⟩ : ∃ d : Nat, S.x = (f0 : Int) + (d : Int) := ⟨(S.x - fx).toNat, by omega⟩
   subst hf0
   have hd40 : d ≤ 40 := by omega
   have HD := zid hd
   clear hd
   go_wp2_with fail
   go_loopw [12] (fun i wr => ∃ k : Nat, k ≤ d + 1 ∧ i = .int .i64 ((f0 + k : Nat) : Int) ∧ Hid (Th w w.heap.size t xx x y (.slice a1 n1 c1) (.slice a2 n2 c2) (.slice a3 n3 c3) (.slice a4 n4 c4) S X wr)) (fun i _ => f0 + d + 1 - (intOf i).toNat)
   case atStart => exact ⟨0, by omega, rfl, T6⟩
   case round =>
    clear T6
    obtain ⟨k, hk, rfl, TH⟩ := hrel
    by_cases hlt : k ≤ d
    · have hle : ((f0 + k : Nat) : Int) ≤ S.x := by have := HD.out; omega
      have SX1 := zid fun (W : World) (h3 : IsL FL W (.slice a3 n3 c3) X.d.f) (h4 : IsL SL W (.slice a4 n4 c4) X.g) => SX.out a3 a4 n3 c3 n4 c4 ((f0 + k : Nat) : Int) (by omega) hle W h3 h4
      have SS1 := zid fun (W : World) (h3 : IsL FL W (.slice a1 n1 c1) S.d.f) (h4 : IsL SL W (.slice a2 n2 c2) S.g) => SS.out a1 a2 n1 c1 n2 c2 ((f0 + k : Nat) : Int) (by omega) hle W h3 h4
      generalize Lg.stateT S ((f0 + k : Nat) : Int) = L at SX1 SS1
      obtain ⟨ii, hii⟩ : ∃ ii : Int, ((f0 + k : Nat) : Int) = ii := ⟨_, rfl⟩
      rw [hii] at SX1 SS1 hle ⊢
      have HII := zid hii
      have hwi : IntKind.i64.wrap (ii + 1) = ii + 1 := IntWalk.i64_in _ ⟨by omega, by omega⟩
      obtain ⟨⟨k0, k1, k2, k3, k4⟩, k5, k6, k7, k8, k9, k10⟩ := cellsS TH.out.at_
      obtain ⟨⟨x0, x1, x2, x3, x4⟩, x5, x6, x7, x8, x9, x10⟩ := cellsS TH.out.ax
      have hl1 := TH.out.lx
      have hl0 := TH.out.lt
      clear hii
      go_upto_region 11 with (fail)
      go_cut [90] (fun v wc => v = .bool false ∧ Below wr.heap.size wr wc)
      case first =>
       clear SX SS RS RX AW hwi
       go_region_held3 (fun W => (∀ b o, b < wr.heap.size → W.cell? ⟨b, o, none⟩ = wr.cell? ⟨b, o, none⟩) ∧ Below wr.heap.size wr W) (first | with_reducible assumption | with_reducible exact KW.dr _ | with_reducible exact KW.keep (by assumption) (Below.refl _ _).drew | with_reducible exact KW.keep (by assumption) (by assumption)) (first | (go_at_call 16; have hord := HPX; refine (SS1.out _ (TH.out.f.keep (KW.bel (by assumption))) (TH.out.g.keep (KW.bel (by assumption)))).mono ?_; rintro e w5 ⟨pa, pn, pc, rfl, hpr, q5⟩; have HPR := zid hpr; have s5 := KW.keep (by assumption) q5) | (go_at_call 16; refine (SX1.out _ (TH.out.f2.keep (KW.bel (by assumption))) (TH.out.g2.keep (KW.bel (by assumption)))).mono ?_; rintro e w5 ⟨qa, qn, qc, rfl, hpx, q5⟩; have HPX := zid hpx; have s5 := KW.keep (by assumption) q5) | (go_at_call 15; refine (SM.out _ _ L _ (by first | exact HPX.out | exact HPX.out.below (by assumption) (Nat.le_refl _)) (by first | exact HPR.out | exact HPR.out.below (by assumption) (Nat.le_refl _))).mono ?_; rintro e w5 ⟨rfl, q5⟩; have s5 := KW.keep (by assumption) q5))
       all_goals
        rename_i hh
        have LB := zid (KW.bel hh)
        clear hh
        go_wp2_with fail
        go_meet
        case rel => exact ⟨rfl, LB.out⟩
      case rest =>
       obtain ⟨rfl, bc⟩ := hcut
       have TN := zid (TH.out.keep bc)
       clear bc k0 k1 k2 k3 k4 k5 k6 k7 k8 k9 k10 x0 x1 x2 x3 x4 x5 x6 x7 x8 x9 x10 TH SX1 SS1 hl0 hl1
       go_wp2_with fail
       go_roundw
       case rel => exact ⟨k + 1, by omega, by congr 1; have := HII.out; omega, TN⟩
       case measure => have := HII.out; simp [intOf]; omega
    · obtain rfl : k = d + 1 := by omega
      have hgt : ¬ ((f0 + (d + 1) : Nat) : Int) ≤ S.x := by have := HD.out; omega
      obtain ⟨ii, hii⟩ : ∃ ii : Int, ((f0 + (d + 1) : Nat) : Int) = ii := ⟨_, rfl⟩
      rw [hii] at hgt ⊢
      obtain ⟨⟨k0, k1, k2, k3, k4⟩, k5, k6, k7, k8, k9, k10⟩ := cellsS TH.out.at_
      clear SX SS SM hii
      go_wp2_with fail
      clear k0 k1 k2 k3 k4 k5 k6 k7 k8 k9 k10 hgt hlt hk
      go_loopw [13] (fun i wr => ∃ k : Nat, k ≤ d ∧ i = .int .i64 ((f0 + k : Nat) : Int) ∧ Hid (Th w w.heap.size t xx x y (.slice a1 n1 c1) (.slice a2 n2 c2) (.slice a3 n3 c3) (.slice a4 n4 c4) S X wr)) (fun i _ => f0 + d - (intOf i).toNat)
      case atStart => exact ⟨0, by omega, rfl, TH⟩
      case round =>
       clear TH
       obtain ⟨k, hk, rfl, TH⟩ := hrel
       by_cases hlt : k < d
       · have hle : ((f0 + k : Nat) : Int) < S.x := by have := HD.out; omega
         have RX1 := fun (W : World) (h3 : IsL FL W (.slice a3 n3 c3) X.d.f) (h4 : IsL SL W (.slice a4 n4 c4) X.g) => RX.out a3 a4 n3 c3 n4 c4 ((f0 + k : Nat) : Int) (by omega) hle W h3 h4
         have RS1 := fun (W : World) (h3 : IsL FL W (.slice a1 n1 c1) S.d.f) (h4 : IsL SL W (.slice a2 n2 c2) S.g) => RS.out a1 a2 n1 c1 n2 c2 ((f0 + k : Nat) : Int) W h3 h4
         generalize readT S ((f0 + k : Nat) : Int) = R at RX1 RS1
         obtain ⟨⟨ra, rt, rd⟩, re⟩ := R
         dsimp only at RX1 RS1
         obtain ⟨ii, hii⟩ : ∃ ii : Int, ((f0 + k : Nat) : Int) = ii := ⟨_, rfl⟩
         rw [hii] at RX1 RS1 hle ⊢
         replace RX1 := zid RX1
         replace RS1 := zid RS1
         have HII := zid hii
         have hwi : IntKind.i64.wrap (ii + 1) = ii + 1 := IntWalk.i64_in _ ⟨by omega, by omega⟩
         obtain ⟨⟨k0, k1, k2, k3, k4⟩, k5, k6, k7, k8, k9, k10⟩ := cellsS TH.out.at_
         clear hii
         go_wp2_with fail
         refine (RS1.out _ TH.out.f TH.out.g).mono ?_
         rintro e w5 ⟨rfl, b5⟩
         have T5 := zid ((TH.out.keep b5).keep ((Below.refl w5.heap.size w5).alloc (Nat.le_refl _) (.cells #[.int .i64 ra, .int .i64 rt, .string rd] 47)))
         have R5 := heap_alloc_new w5 (.cells #[.int .i64 ra, .int .i64 rt, .string rd] 47)
         have HR5 := zid R5
         clear k0 k1 k2 k3 k4 k5 k6 k7 k8 k9 k10 b5 TH R5 RS1
         obtain ⟨⟨x0, x1, x2, x3, x4⟩, x5, x6, x7, x8, x9, x10⟩ := cellsS T5.out.ax
         go_wp2_with fail
         refine (RX1.out _ T5.out.f2 T5.out.g2).mono ?_
         rintro e w6 ⟨rfl, b6⟩
         have T6 := zid ((T5.out.keep b6).keep ((Below.refl w6.heap.size w6).alloc (Nat.le_refl _) (.cells #[.int .i64 ra, .int .i64 rt, .string rd] 47)))
         have Q5 := hkeep (hkeep HR5.out b6) ((Below.refl w6.heap.size w6).alloc (Nat.le_refl _) (.cells #[.int .i64 ra, .int .i64 rt, .string rd] 47))
         obtain ⟨p0, p1, p2⟩ := cells3 Q5
         obtain ⟨r0, r1, r2⟩ := cells3 (heap_alloc_new w6 (.cells #[.int .i64 ra, .int .i64 rt, .string rd] 47))
         clear x0 x1 x2 x3 x4 x5 x6 x7 x8 x9 x10 b6 T5 RX1 Q5 HR5
         go_wp2_with fail
         go_roundw
         case rel => exact ⟨k + 1, by omega, by congr 1; have := HII.out; omega, T6⟩
         case measure => have := HII.out; simp [intOf]; omega
       · obtain rfl : k = d := by omega
         have hge : ¬ ((f0 + k : Nat) : Int) < S.x := by have := HD.out; omega
         obtain ⟨ii, hii⟩ : ∃ ii : Int, ((f0 + k : Nat) : Int) = ii := ⟨_, rfl⟩
         rw [hii] at hge ⊢
         obtain ⟨⟨k0, k1, k2, k3, k4⟩, k5, k6, k7, k8, k9, k10⟩ := cellsS TH.out.at_
         clear RX RS hii
         go_wp2_with fail
         refine (AW.out _).mono ?_
         rintro e w5 ⟨rfl, b5⟩
         have L5 := zid (TH.out.w.trans (b5.mono TH.out.w.size))
         clear b5 k0 k1 k2 k3 k4 k5 k6 k7 k8 k9 k10
         go_wp2_with fail
         go_ret
         exact ⟨rfl, L5.out⟩
end Trm
end Go.Proofs.YtijbpdpkoamhbaaGreat
