/-
  Parts of what the laws of this seat stand on: Law12P, StoOpen, DiskNames, DiskTwo.
-/
import Derived.BigQuiet
import Derived.ChangeSame
import Derived.Deep.Fields
import Derived.Deep.Slices
import Derived.Lib.SmallJoins
import Derived.Test.YthhhocgpoenigaaGreatBu13
import Derived.Test.YthhhocgpoenigaaGreatBu14
import Derived.Test.YthhhocgpoenigaaGreatBu32
import Derived.Test.YthhhocgpoenigaaGreatBu5
namespace Go.Proofs.YthhhocgpoenigaaGreat.Sto
open Go.RowKit Go.Proofs.YthhhocgpoenigaaGreat.So Go.Proofs.YthhhocgpoenigaaGreat.Dsk Go.Proofs.YthhhocgpoenigaaGreat.Rts

theorem getD_mem12 {l : List Ac} {k : Nat} (h : k < l.length) : l.getD k azero ∈ l := by rw [getD_lt h]; exact List.getElem_mem _

set_option maxRecDepth 100000 in
set_option maxHeartbeats 6400000 in
theorem plays12 (q : Int) (v : Value) (l : List Ac) (w : World) (hq : 0 ≤ q ∧ q < 256) (h : IsL AcL w v l) : Calls Tryz.prog 3 #[.int .u8 q, v] w fun e w' => e = .returned (.bool true) ∧ Below w.heap.size w w' := by
  obtain ⟨fa, fn, fc, rfl⟩ : ∃ a n c, v = .slice a n c := by obtain ⟨a, c, h, _⟩ := h; exact ⟨a, _, c, h⟩
  have SH := short12_any _ l w h
  have HL := Lib.hid h
  have HFN := Lib.hid h.len.1
  have hok := h.ok
  clear h
  by_cases hs : Short12 l
  case neg =>
    rw [decide_eq_false hs] at SH
    have AW := Lib.hid (awake12 w)
    replace SH := Lib.hid SH
    clear hs hok
    go_enter Tryz.func3, Tryz.ntmps3
    go_wp2_with fail
    refine SH.out.mono ?_
    rintro e w1 ⟨rfl, rfl⟩
    go_wp2_with fail
    refine AW.out.mono ?_
    rintro e w2 ⟨rfl, b2⟩
    have B2 := Lib.hid b2
    clear b2
    go_wp2_with fail
    go_ret
    exact ⟨rfl, B2.out⟩
  rw [decide_eq_true hs] at SH
  have hfn : fn ≤ 40 := by rw [HFN.out]; exact hs.1
  have HOK := Lib.hid (show ∀ k, k < fn → AcB (l.getD k azero) from fun k hk => hok _ (getD_mem12 (by rw [← HFN.out]; exact hk)))
  replace SH := Lib.hid SH
  have CR := Lib.hid fun W : World => create12_any none 0 0 Dp.empty W 0 (IsL.nil W none 0) bd_emp (by decide)
  have CQ := Lib.hid fun W : World => rcreate12_any none 0 0 Dp.empty W 0 (IsL.nil W none 0) bd_emp (by decide)
  obtain ⟨c1, c2⟩ := aw_create
  obtain ⟨⟨S0, E0⟩, hc⟩ : ∃ R, createT Dp.empty = R := ⟨_, rfl⟩
  rw [hc] at c1 c2 CR CQ
  obtain rfl : E0 = 0 := c1
  have G0 := Lib.hid (show Gd S0 1 from c2.d)
  unfold dkVal at CR CQ
  replace CR := Lib.hid CR.out
  replace CQ := Lib.hid CQ.out
  clear hc hs hok
  go_enter Tryz.func3, Tryz.ntmps3
  go_wp2_with fail
  refine SH.out.mono ?_
  rintro e w1 ⟨rfl, rfl⟩
  clear SH
  go_wp2_with fail
  refine (CR.out _).mono ?_
  rintro e w1 ⟨a1, n1, c1, a2, n2, c2, rfl, ks⟩
  have al := (Below.refl w1.heap.size w1).alloc (Nat.le_refl _) (.cells #[.slice a1 n1 c1, .int .i64 S0.d.c, .bool S0.d.a, .int .i64 S0.d.l, .bool S0.d.x, .int .i64 S0.v, .slice a2 n2 c2, .int .i64 S0.x, .int .i64 S0.s, .int .i64 S0.z, .int .u32 S0.c] 31)
  have KS := Lib.hid ks
  have L0 := Lib.hid (ks.w.trans (al.mono ks.w.size))
  have hw1 := ks.w.size
  have ALH := Lib.hid al
  clear ks al CR
  unfold stVal
  dsimp only
  go_wp2_with fail
  refine (CQ.out _).mono ?_
  rintro e w3 ⟨a3, n3, c3, a4, n4, c4, rfl, ks⟩
  have al3 := (Below.refl w3.heap.size w3).alloc (Nat.le_refl _) (.cells #[.slice a3 n3 c3, .int .i64 S0.d.c, .bool S0.d.a, .int .i64 S0.d.l, .bool S0.d.x, .int .i64 S0.v, .slice a4 n4 c4, .int .i64 S0.x, .int .i64 S0.s, .int .i64 S0.z, .int .u32 S0.c] 31)
  have hs13 : w1.heap.size < w3.heap.size := by have := ks.w.size; simp at this; omega
  have B1 := Lib.hid (((Bx.first (P := [w1.heap.size, w3.heap.size]) KS.out (fun p hp => by simp at hp; omega)).keep ks.w).keep al3)
  have B2 := Lib.hid (Bx.first2 (P := [w1.heap.size, w3.heap.size]) ks (fun p hp => by
    simp at hp
    rcases hp with rfl | rfl
    · exact .inr ⟨by simp, Sep.nil _ _ _, Sep.nil _ _ _⟩
    · exact .inl (Nat.le_refl _)))
  have L3 := Lib.hid ((L0.out.trans (ks.w.mono L0.out.size)).trans (al3.mono (Nat.le_trans L0.out.size ks.w.size)))
  clear ks al3 KS ALH CQ L0
  unfold stVal
  dsimp only
  obtain ⟨b1, hb1⟩ : ∃ b, w1.heap.size = b := ⟨_, rfl⟩
  obtain ⟨b2, hb2⟩ : ∃ b, w3.heap.size = b := ⟨_, rfl⟩
  rw [hb1] at B1 B2 hs13 hw1
  rw [hb2] at B1 B2 hs13
  obtain ⟨⟨k0, k1, k2, k3, k4⟩, k5, k6, k7, k8, k9, k10⟩ := cellsS B1.out.d
  obtain ⟨⟨x0, x1, x2, x3, x4⟩, x5, x6, x7, x8, x9, x10⟩ := cellsS B2.out.d
  have SM := rsame12_yes (.slice a1 n1 c1) (.slice a2 n2 c2) (.slice a3 n3 c3) (.slice a4 n4 c4) S0 _ B1.out.f B1.out.g B2.out.f B2.out.g
  have hn2 : ((n2 : Int) == 0) = false := by
    have h1 := B1.out.g.len.1
    have h2 := List.length_pos_iff.2 G0.out.ne
    simp; omega
  unfold stVal at SM
  replace SM := Lib.hid SM
  go_upto_region 5 with (fail)
  try rw [hb1]
  try rw [hb2]
  generalize w3.alloc _ = w0 at *
  clear hb1 hb2
  go_wp2_with fail
  refine SM.out.mono ?_
  rintro e w5 ⟨rfl, b5⟩
  have C1 := B1.out.keep b5
  have C2 := Lib.hid (B2.out.keep b5)
  have L5 := Lib.hid (L3.out.trans (b5.mono L3.out.size))
  clear k0 k1 k2 k3 k4 k5 k6 k7 k8 k9 k10 x0 x1 x2 x3 x4 x5 x6 x7 x8 x9 x10 SM b5 B1 B2 L3
  obtain ⟨⟨k0, k1, k2, k3, k4⟩, k5, k6, k7, k8, k9, k10⟩ := cellsS C1.d
  have D1 := Lib.hid C1
  clear C1
  go_wp2_with fail
  clear k0 k1 k2 k3 k4 k5 k6 k7 k8 k9 k10 hn2
  have hwq : IntKind.i64.wrap q = q := IntWalk.i64_in _ ⟨by omega, by omega⟩
  have hw20 : IntKind.i64.wrap (20 + q) = 20 + q := IntWalk.i64_in _ ⟨by omega, by omega⟩
  go_loopw [9] (fun i wr => ∃ (k : Nat) (S : St), k ≤ fn ∧ i = .int .i64 k ∧ Hid (Gd S (k + 1)) ∧ Hid (BxR [b1, b2] b1 S wr) ∧ Hid (BxR [b1, b2] b2 S wr) ∧ Hid (Below w.heap.size w wr)) (fun i _ => fn - (intOf i).toNat)
  case atStart => exact ⟨0, S0, Nat.zero_le _, rfl, G0, ⟨_, _, _, _, _, _, D1.out⟩, ⟨_, _, _, _, _, _, C2.out⟩, L5⟩
  case round =>
    clear D1 C2 L5 G0
    obtain ⟨k, S, hk, rfl, HG, HB1, HB2, HW⟩ := hrel
    obtain ⟨a5, n5, c5, a6, n6, c6, P1⟩ := HB1.out
    obtain ⟨a7, n7, c7, a8, n8, c8, P2⟩ := HB2.out
    clear HB1 HB2
    by_cases hlt : k < fn
    · have hac := HOK.out k hlt
      have HGT := HG.out.act (20 + q) (l.getD k azero) hac.2.1.2
      have DO := Lib.hid fun (W : World) (h1 : IsL FL W (.slice a5 n5 c5) S.d.f) (h2 : IsL SL W (.slice a6 n6 c6) S.g) => do12_any a5 a6 n5 c5 n6 c6 S (20 + q) (l.getD k azero) W _ h1 h2 HG.out (by omega) hac
      have WA := Lib.hid fun (W : World) (h1 : IsL FL W (.slice a7 n7 c7) S.d.f) (h2 : IsL SL W (.slice a8 n8 c8) S.g) => want12_any a7 a8 n7 c7 n8 c8 S (20 + q) (l.getD k azero) W _ h1 h2 HG.out (by omega) hac
      obtain ⟨⟨T, E⟩, hT⟩ : ∃ R, doA (20 + q) S (l.getD k azero) = R := ⟨_, rfl⟩
      rw [hT] at DO WA HGT
      replace HGT := Lib.hid (show Gd T (k + 2) from HGT)
      unfold stVal acVal at DO WA
      obtain ⟨g, off, rfl, c0, c1, c2⟩ := ac_at (HL.out.keep HW.out) hlt
      have hbg := block_lt_of_cell c0
      generalize l.getD k azero = ac at DO WA c0 c1 c2
      clear hT hac
      have CA := Lib.hid (show ∀ W, Below wr.heap.size wr W → W.cell? ⟨g, off + k * 3, none⟩ = some (.int .i64 ac.k) ∧ W.cell? ⟨g, off + k * 3 + 1, none⟩ = some (.int .i64 ac.n) ∧ W.cell? ⟨g, off + k * 3 + 2, none⟩ = some (.string ac.d) from fun W b => ⟨(b.cell (p := ⟨g, off + k * 3, none⟩) hbg).trans c0, (b.cell (p := ⟨g, off + k * 3 + 1, none⟩) hbg).trans c1, (b.cell (p := ⟨g, off + k * 3 + 2, none⟩) hbg).trans c2⟩)
      obtain ⟨⟨k0, k1, k2, k3, k4⟩, k5, k6, k7, k8, k9, k10⟩ := cellsS P1.d
      have hb1 : b1 < wr.heap.size := P1.lt
      have hb2 : b2 < wr.heap.size := P2.lt
      have hP : ∀ p ∈ [b1, b2], p < wr.heap.size := fun p hp => by simp at hp; omega
      have H1 := Lib.hid P1
      have H2 := Lib.hid P2
      clear P1 P2
      go_upto_region 10 with (fail)
      go_cut [10, 11] (fun p e we => ∃ t : Nat, p = .pointer (some ⟨t, 0, none⟩) ∧ e = .int .i64 E ∧ BxR [b1, b2] t T we ∧ Below wr.heap.size wr we ∧ wr.heap.size ≤ t)
      case first =>
        go_region_held3 (fun W => (∀ b o, b < wr.heap.size → W.cell? ⟨b, o, none⟩ = wr.cell? ⟨b, o, none⟩) ∧ Below wr.heap.size wr W) (first | with_reducible assumption | with_reducible exact KW.dr _ | with_reducible exact KW.al11 (by assumption) | with_reducible exact KW.al (by assumption) | with_reducible exact KW.ad (KW.start _) | with_reducible exact KW.ad (by assumption) | with_reducible exact KW.st11 (by assumption) (Nat.le_refl _) | with_reducible exact KW.st11 (by assumption) (by assumption) | with_reducible exact KW.keep (by assumption) (Below.refl _ _).drew | with_reducible exact KW.keep (by assumption) (by assumption)) (first | (go_at_call 12; refine (DO.out _ (by first | exact H1.out.f.keep (KW.bel (by assumption)) | exact H1.out.f.keep (Below.refl _ _).drew) (by first | exact H1.out.g.keep (KW.bel (by assumption)) | exact H1.out.g.keep (Below.refl _ _).drew)).mono ?_; rintro e w5 ⟨a5, n5, c5, a6, n6, c6, rfl, k5'⟩; have q5 := k5'.w; have s5 := KW.keep (by assumption) q5; have q4 := KW.at (by assumption) q5; (first | (with_reducible have z5 := hkeep (alloc_drew_new _ _ _) q5) | skip); (first | (have zc := cellsS z5; have zf := frozenS z5; obtain ⟨⟨y0, y1, y2, y3, y4⟩, y5, y6, y7, y8, y9, y10⟩ := zc) | skip); unfold stVal))
        all_goals
          rename_i hh
          clear hh s5
          go_wp2_with fail
          go_meet
          case rel =>
            first
              | (refine ⟨_, rfl, rfl, ?_, ?_, ?_⟩; (with_reducible exact BxR.A H1.out q4 k5' hP); (with_reducible exact BxR.bA q4 k5' _); exact Nat.le_trans q4.size k5'.w.size)
              | (refine ⟨_, rfl, rfl, ?_, ?_, ?_⟩; (with_reducible exact BxR.B H1.out q4 k5' hP z5 (Nat.le_refl _) (alloc_drew_lt _ _)); (with_reducible exact BxR.bB q4 k5' (Nat.le_refl _)); exact Nat.le_refl _)
      case rest =>
        clear k0 k1 k2 k3 k4 k5 k6 k7 k8 k9 k10 c0 c1 c2 DO hP
        obtain ⟨t1, rfl, rfl, BT, LT, ht1⟩ := hcut
        have Q1 := H1.out.keep LT
        have Q2 := H2.out.keep LT
        obtain ⟨c0, c1, c2⟩ := CA.out _ LT
        have hbg2 : g < wc.heap.size := Nat.lt_of_lt_of_le hbg LT.size
        obtain ⟨⟨k0, k1, k2, k3, k4⟩, k5, k6, k7, k8, k9, k10⟩ := cellsS Q2.d
        have hP : ∀ p ∈ [b1, b2], p < wc.heap.size := fun p hp => by have := LT.size; simp at hp; omega
        have hb21 : b2 < wc.heap.size := Q2.lt
        have LTH := Lib.hid LT
        have ht1l : t1 < wc.heap.size := by obtain ⟨_, _, _, _, _, _, h⟩ := BT; exact h.lt
        have hsz1 := LT.size
        have BTH := Lib.hid BT
        replace H1 := Lib.hid Q1
        replace H2 := Lib.hid Q2
        clear LT BT Q1 Q2
        go_upto_region 11 with (fail)
        go_cut [12, 13] (fun p e we => ∃ t : Nat, p = .pointer (some ⟨t, 0, none⟩) ∧ e = .int .i64 E ∧ BxR [b1, b2] t T we ∧ Below wc.heap.size wc we ∧ wc.heap.size ≤ t)
        case first =>
          go_region_held3 (fun W => (∀ b o, b < wc.heap.size → W.cell? ⟨b, o, none⟩ = wc.cell? ⟨b, o, none⟩) ∧ Below wc.heap.size wc W) (first | with_reducible assumption | with_reducible exact KW.dr _ | with_reducible exact KW.al11 (by assumption) | with_reducible exact KW.al (by assumption) | with_reducible exact KW.ad (KW.start _) | with_reducible exact KW.ad (by assumption) | with_reducible exact KW.st11 (by assumption) (Nat.le_refl _) | with_reducible exact KW.st11 (by assumption) (by assumption) | with_reducible exact KW.keep (by assumption) (Below.refl _ _).drew | with_reducible exact KW.keep (by assumption) (by assumption)) (first | (go_at_call 13; refine (WA.out _ (by first | exact H2.out.f.keep (KW.bel (by assumption)) | exact H2.out.f.keep (Below.refl _ _).drew) (by first | exact H2.out.g.keep (KW.bel (by assumption)) | exact H2.out.g.keep (Below.refl _ _).drew)).mono ?_; rintro e w5 ⟨a5, n5, c5, a6, n6, c6, rfl, k5'⟩; have q5 := k5'.w; have s5 := KW.keep (by assumption) q5; have q4 := KW.at (by assumption) q5; (first | (with_reducible have z5 := hkeep (alloc_drew_new _ _ _) q5) | skip); (first | (have zc := cellsS z5; have zf := frozenS z5; obtain ⟨⟨y0, y1, y2, y3, y4⟩, y5, y6, y7, y8, y9, y10⟩ := zc) | skip); unfold stVal))
          all_goals
            rename_i hh
            clear hh s5
            go_wp2_with fail
            go_meet
            case rel =>
              first
                | (refine ⟨_, rfl, rfl, ?_, ?_, ?_⟩; (with_reducible exact BxR.A H2.out q4 k5' hP); (with_reducible exact BxR.bA q4 k5' _); exact Nat.le_trans q4.size k5'.w.size)
                | (refine ⟨_, rfl, rfl, ?_, ?_, ?_⟩; (with_reducible exact BxR.B H2.out q4 k5' hP z5 (Nat.le_refl _) (alloc_drew_lt _ _)); (with_reducible exact BxR.bB q4 k5' (Nat.le_refl _)); exact Nat.le_refl _)
        case rest =>
          clear k0 k1 k2 k3 k4 k5 k6 k7 k8 k9 k10 c0 c1 c2 WA hP CA
          obtain ⟨t2, rfl, rfl, BT2, LT2, ht2⟩ := hcut
          obtain ⟨a1, n1, c1, a2, n2, c2, X1⟩ := BTH.out.keep LT2
          obtain ⟨a3, n3, c3, a4, n4, c4, X2⟩ := BT2
          have Q1 := H1.out.keep LT2
          have Q2 := H2.out.keep LT2
          have LW := HW.out.trans ((LTH.out.trans (LT2.mono LTH.out.size)).mono HW.out.size)
          have S1 := Lib.hid fun (W : World) (f1 : IsL FL W (.slice a1 n1 c1) T.d.f) (g1 : IsL SL W (.slice a2 n2 c2) T.g) (f2 : IsL FL W (.slice a3 n3 c3) T.d.f) (g2 : IsL SL W (.slice a4 n4 c4) T.g) => rsame12_yes (.slice a1 n1 c1) (.slice a2 n2 c2) (.slice a3 n3 c3) (.slice a4 n4 c4) T W f1 g1 f2 g2
          have S2 := Lib.hid fun (W : World) (f1 : IsL FL W (.slice a5 n5 c5) S.d.f) (g1 : IsL SL W (.slice a6 n6 c6) S.g) (f2 : IsL FL W (.slice a7 n7 c7) S.d.f) (g2 : IsL SL W (.slice a8 n8 c8) S.g) => rsame12_yes (.slice a5 n5 c5) (.slice a6 n6 c6) (.slice a7 n7 c7) (.slice a8 n8 c8) S W f1 g1 f2 g2
          unfold stVal at S1 S2
          have hn2 : ((n2 : Int) == 0) = false := by
            have h1 := X1.g.len.1
            have h2 := List.length_pos_iff.2 HGT.out.ne
            simp; omega
          obtain ⟨⟨k0, k1, k2, k3, k4⟩, k5, k6, k7, k8, k9, k10⟩ := cellsS X1.d
          obtain ⟨⟨x0, x1, x2, x3, x4⟩, x5, x6, x7, x8, x9, x10⟩ := cellsS X2.d
          have XH1 := Lib.hid X1
          have XH2 := Lib.hid X2
          have QH1 := Lib.hid Q1
          have QH2 := Lib.hid Q2
          have LWH := Lib.hid LW
          clear X1 X2 Q1 Q2 LW LT2
          go_wp2_with fail
          refine (S1.out _ XH1.out.f XH1.out.g XH2.out.f XH2.out.g).mono ?_
          rintro e w6 ⟨rfl, b6⟩
          have Q1 := QH1.out.keep b6
          have Q2 := QH2.out.keep b6
          have X1 := XH1.out.keep b6
          have X2 := XH2.out.keep b6
          have LW := Lib.hid (LWH.out.trans (b6.mono LWH.out.size))
          clear k0 k1 k2 k3 k4 k5 k6 k7 k8 k9 k10 x0 x1 x2 x3 x4 x5 x6 x7 x8 x9 x10 b6 XH1 XH2 QH1 QH2 LWH S1
          obtain ⟨⟨k0, k1, k2, k3, k4⟩, k5, k6, k7, k8, k9, k10⟩ := cellsS Q1.d
          obtain ⟨⟨x0, x1, x2, x3, x4⟩, x5, x6, x7, x8, x9, x10⟩ := cellsS Q2.d
          have XH1 := Lib.hid X1
          have XH2 := Lib.hid X2
          have QH1 := Lib.hid Q1
          have QH2 := Lib.hid Q2
          clear Q1 Q2 X1 X2
          go_wp2_with fail
          refine (S2.out _ QH1.out.f QH1.out.g QH2.out.f QH2.out.g).mono ?_
          rintro e w7 ⟨rfl, b7⟩
          have Q1 := QH1.out.keep b7
          have Q2 := QH2.out.keep b7
          have X1 := XH1.out.keep b7
          have X2 := XH2.out.keep b7
          have LV := Lib.hid (LW.out.trans (b7.mono LW.out.size))
          clear k0 k1 k2 k3 k4 k5 k6 k7 k8 k9 k10 x0 x1 x2 x3 x4 x5 x6 x7 x8 x9 x10 b7 XH1 XH2 QH1 QH2 LW S2
          obtain ⟨⟨x0, x1, x2, x3, x4⟩, x5, x6, x7, x8, x9, x10⟩ := cellsS X1.d
          obtain ⟨⟨y0, y1, y2, y3, y4⟩, y5, y6, y7, y8, y9, y10⟩ := cellsS X2.d
          obtain ⟨⟨k0, k1, k2, k3, k4⟩, k5, k6, k7, k8, k9, k10⟩ := cellsS Q1.d
          obtain ⟨⟨u0, u1, u2, u3, u4⟩, u5, u6, u7, u8, u9, u10⟩ := cellsS Q2.d
          have kf1 := frozenS Q1.d
          have kf2 := frozenS Q2.d
          have n12 : b1 ≠ b2 := by omega
          have nt1 : b1 ≠ t1 := by omega
          have nt2 : b1 ≠ t2 := by omega
          have nt3 : b2 ≠ t1 := by omega
          have nt4 : b2 ≠ t2 := by omega
          have XH1 := Lib.hid X1
          have XH2 := Lib.hid X2
          have QH1 := Lib.hid Q1
          have QH2 := Lib.hid Q2
          clear X1 X2 Q1 Q2
          go_upto_region 14 with (fail)
          go_region
          all_goals
            go_upto_region 9 with (fail)
            obtain ⟨Z1, e1, f1, g1, h1⟩ := XH1.out.copy QH1.out (by simp)
            obtain ⟨Z2, e2, f2, g2, h2⟩ := (g1 t2 _ _ _ nt2.symm XH2.out).copy (g1 b2 _ _ _ n12.symm QH2.out) (by simp)
            rw [← e1] at e2
            rw [e2]
            have R1 := Lib.hid (show BxR [b1, b2] b1 T Z2 from ⟨_, _, _, _, _, _, g2 b1 _ _ _ n12 f1⟩)
            have R2 := Lib.hid (show BxR [b1, b2] b2 T Z2 from ⟨_, _, _, _, _, _, f2⟩)
            have R3 := Lib.hid (h2 w.heap.size w (by omega) (h1 _ _ (by omega) LV.out))
            clear e1 e2 f1 f2 g1 g2 h1 h2 k0 k1 k2 k3 k4 k5 k6 k7 k8 k9 k10 x0 x1 x2 x3 x4 x5 x6 x7 x8 x9 x10 y0 y1 y2 y3 y4 y5 y6 y7 y8 y9 y10 u0 u1 u2 u3 u4 u5 u6 u7 u8 u9 u10 kf1 kf2
            go_wp2_with fail
            go_roundw
            case rel => exact ⟨k + 1, T, by omega, by go_num, HGT, Lib.hid (R1.out.keep (Below.refl _ _).drew), Lib.hid (R2.out.keep (Below.refl _ _).drew), Lib.hid R3.out.drew⟩
            case measure => simp [intOf]; omega
    · have hst := HG.out.stb (by omega)
      have hmn : Mfs.MnB (man S) := ⟨by have := HG.out.v; show _ ≤ S.v ∧ S.v ≤ _; omega, by show _ ≤ S.z ∧ S.z ≤ _; rw [HG.out.z]; omega, by show 0 ≤ S.c ∧ S.c < _; rw [HG.out.c]; omega⟩
      have AW := Lib.hid fun W : World => awake12 W
      have F1 := Lib.hid fun (W : World) (h : IsL SL W (.slice a6 n6 c6) S.g) => floor12_any (.slice a5 n5 c5) (.slice a6 n6 c6) S W h HG.out.ne
      have F2 := Lib.hid fun (W : World) (h : IsL SL W (.slice a8 n8 c8) S.g) => rfloor_any (.slice a7 n7 c7) (.slice a8 n8 c8) S W h HG.out.ne
      have M1 := Lib.hid fun (W : World) (h : IsL SL W (.slice a6 n6 c6) S.g) => man12_any (.slice a5 n5 c5) (.slice a6 n6 c6) S W h hst
      have M2 := Lib.hid fun (W : World) (h : IsL SL W (.slice a8 n8 c8) S.g) => rman_any (.slice a7 n7 c7) (.slice a8 n8 c8) S W h hst
      have SM := Lib.hid fun (a a' : Option Addr) (n c n' c' : Nat) (W : World) (h1 : IsL Mfs.IL W (.slice a n c) (man S).l) (h2 : IsL Mfs.IL W (.slice a' n' c') (man S).l) => Mfs.rsame10_yes a a' n c n' c' (man S) W h1 h2
      unfold stVal at F1 F2 M1 M2
      unfold Mfs.mnVal at SM
      generalize man S = m at M1 M2 SM
      generalize floor S = fl at F1 F2
      obtain ⟨⟨k0, k1, k2, k3, k4⟩, k5, k6, k7, k8, k9, k10⟩ := cellsS P1.d
      obtain ⟨⟨x0, x1, x2, x3, x4⟩, x5, x6, x7, x8, x9, x10⟩ := cellsS P2.d
      have hb1 : b1 < wr.heap.size := P1.lt
      have hb2 : b2 < wr.heap.size := P2.lt
      have H1 := Lib.hid P1
      have H2 := Lib.hid P2
      have hkk : ¬ (k : Int) < (fn : Int) := by omega
      clear P1 P2 hst hmn
      go_upto_region 15 with (fail)
      go_cut [4] (fun p we => p = .bool true ∧ Below wr.heap.size wr we)
      case first =>
        go_region_held3 (fun W => (∀ b o, b < wr.heap.size → W.cell? ⟨b, o, none⟩ = wr.cell? ⟨b, o, none⟩) ∧ Below wr.heap.size wr W) (first | with_reducible assumption | with_reducible exact KW.dr _ | with_reducible exact KW.al11 (by assumption) | with_reducible exact KW.al (by assumption) | with_reducible exact KW.ad (KW.start _) | with_reducible exact KW.ad (by assumption) | with_reducible exact KW.st11 (by assumption) (Nat.le_refl _) | with_reducible exact KW.st11 (by assumption) (by assumption) | with_reducible exact KW.keep (by assumption) (Below.refl _ _).drew | with_reducible exact KW.keep (by assumption) (by assumption)) (first | (go_at_call 8; refine (AW.out _).mono ?_; rintro e wA ⟨rfl, bA⟩) | (go_at_call 14; refine (F1.out _ (by first | exact H1.out.g.keep (KW.bel (by assumption)) | exact H1.out.g.keep (Below.refl _ _).drew)).mono ?_; rintro e wB ⟨rfl, bB⟩) | (go_at_call 15; refine (F2.out _ (by first | exact H2.out.g.keep (KW.bel (by assumption)) | exact H2.out.g.keep (Below.refl _ _).drew)).mono ?_; rintro e wC ⟨rfl, bC⟩) | (go_at_call 17; refine (M1.out _ (by first | exact H1.out.g.keep (KW.bel (by assumption)) | exact H1.out.g.keep (Below.refl _ _).drew)).mono ?_; rintro e wD ⟨am, nm, cm, rfl, hl, bD⟩; have HLD := Lib.hid hl; clear hl) | (go_at_call 18; refine (M2.out _ (by first | exact H2.out.g.keep (KW.bel (by assumption)) | exact H2.out.g.keep (Below.refl _ _).drew)).mono ?_; rintro e wE ⟨aq, nq, cq, rfl, hl, bE⟩; have HLE := Lib.hid hl; clear hl) | (go_at_call 16; refine (SM.out am aq nm cm nq cq _ (by first | exact HLD.out | exact HLD.out.keep bE) (by first | exact HLE.out | exact HLE.out.keep bD)).mono ?_; rintro e wF ⟨rfl, bF⟩))
        all_goals
          rename_i hh
          have hz := hh.2
          clear hh
          go_wp2_with fail
          go_meet
          case rel => exact ⟨rfl, hz⟩
      case rest =>
        obtain ⟨rfl, hz⟩ := hcut
        have LF := Lib.hid (HW.out.trans (hz.mono HW.out.size))
        clear hz
        go_wp2_with fail
        go_ret
        exact ⟨rfl, LF.out⟩

end Go.Proofs.YthhhocgpoenigaaGreat.Sto

namespace Go.Proofs.YthhhocgpoenigaaGreat.Sto
open Go.RowKit Go.ChangeShapes Go.WideShapes Go.Deep Go.Joins Go.Proofs.YthhhocgpoenigaaGreat.Dsk

theorem i64_wf12 {n : Int} (h : (Lit.int .i64 n).wf = true) : -9223372036854775808 ≤ n ∧ n ≤ 9223372036854775807 := by
  simpa [Lit.wf, IntKind.min, IntKind.max, IntKind.signed, IntKind.bits] using h
theorem u16_wf12 {n : Int} (h : (Lit.int .u16 n).wf = true) : 0 ≤ n ∧ n ≤ 65535 := by
  simpa [Lit.wf, IntKind.min, IntKind.max, IntKind.signed, IntKind.bits] using h
/-- A slice in memory, element by element. -/
theorem isL_of12 {α : Type} {Y : Lay α} {w : World} {b off cap : Nat} {l : List α} (hm : l.length ≤ maxLen) (hcap : l.length ≤ cap) (hok : ∀ x ∈ l, Y.ok x)
    (hc : ∀ i, i < l.length → ∀ r u, (Y.enc (l.getD i Y.z))[r]? = some u → w.cell? ⟨b, off + (i * Y.k + r), none⟩ = some u) : IsL Y w (.slice (some ⟨b, off, none⟩) l.length cap) l := by
  refine ⟨_, cap, rfl, ⟨hm, hcap⟩, hok, .inr ⟨b, off, rfl, fun j u hj => ?_⟩⟩
  have hlt := (List.getElem?_eq_some_iff.1 hj).1
  rw [Y.vals_len] at hlt
  have hk := Y.pos
  have h1 : j / Y.k < l.length := Nat.div_lt_of_lt_mul (by rw [Nat.mul_comm]; exact hlt)
  have h2 : j % Y.k < Y.k := Nat.mod_lt _ hk
  have e : j = j / Y.k * Y.k + j % Y.k := by rw [Nat.mul_comm]; exact (Nat.div_add_mod j Y.k).symm
  have h3 := Y.vals_get l (j / Y.k) (j % Y.k) h1 h2
  rw [← e, hj] at h3
  have := hc (j / Y.k) h1 (j % Y.k) u h3.symm
  rwa [← e] at this

section
variable {H : Type} {enc : TypeId × Value → H} {w : World} {base : Nat} {spare : Nat → Bool} {held : Bool}
set_option maxRecDepth 100000 in
/-- A slice of acts. -/
theorem open_acC {n : Nat} {cs : List Value} {y : DataW H × List MemPlace} (h : DataW.trod enc Tryz.prog w base spare held n 22 cs = some y) : ∃ a l c ms, cs = [.slice a l c] ∧ IsL AcL w (.slice a l c) ms := by
  rcases open_slice Tryz.underlying22 h with ⟨hc, _⟩ | ⟨x, len, cap, m, n, D, Pl, hc, _, hl, hm, hmm, _, hi⟩
  · exact ⟨none, 0, 0, [], hc, IsL.nil w none 0⟩
  · refine ⟨some x, len, cap, ?_⟩
    have hlm : len ≤ m := by rw [hmm]; split <;> omega
    have hC : Tryz.prog.cellsOf 38 = 3 := by kernel_rfl
    have hO : Tryz.prog.cellsOf 3 = 1 := by kernel_rfl
    have hS : Tryz.prog.cellsOf 9 = 1 := by kernel_rfl
    rw [hC] at hi
    have key : ∀ i, i < len → ∃ r : Ac, AcB r ∧ ∀ j u, (acCells r)[j]? = some u → w.cell? ((x.add (i * 3)).add j) = some u := by
      intro i hil
      obtain ⟨cs', hcs, ht⟩ := hi i (by omega)
      obtain ⟨_, hlen, hat⟩ := World.cells?_some hcs
      obtain ⟨c0, c1, c2, rfl⟩ : ∃ c0 c1 c2, cs' = [c0, c1, c2] := by
        match cs', hlen with
        | [c0, c1, c2], _ => exact ⟨c0, c1, c2, rfl⟩
      obtain ⟨y0, y1, y2, n', _, _, h0, h1, h2⟩ := trod_struct3 Tryz.underlying38 ht
      obtain ⟨rb, hb, _, wb⟩ := DataW.trod_int Tryz.underlying3 h0
      obtain ⟨rn, hn, _, wn⟩ := DataW.trod_int Tryz.underlying3 h1
      obtain ⟨rz, hz, _, wz⟩ := DataW.trod_string Tryz.underlying9 h2
      simp [hO, hS] at hb hn hz
      subst hb hn hz
      unfold maxLen at wz
      refine ⟨⟨rb, rn, rz⟩, ⟨i64_wf12 wb, i64_wf12 wn, wz⟩, fun j u hj => ?_⟩
      have hjl : j < 3 := (List.getElem?_eq_some_iff.1 hj).1
      have := hat j hjl
      exact this.trans hj
    obtain ⟨f, hf'⟩ : ∃ f : Nat → Ac, ∀ i, i < len → AcB (f i) ∧ ∀ j u, (acCells (f i))[j]? = some u → w.cell? ((x.add (i * 3)).add j) = some u := by
      refine ⟨fun i => if h : i < len then Classical.choose (key i h) else azero, fun i h => ?_⟩
      simp only [dif_pos h]
      exact Classical.choose_spec (key i h)
    have hlen : ((List.range len).map f).length = len := by simp
    have hall : ∀ r ∈ (List.range len).map f, AcB r := fun r hr => by
      rw [List.mem_map] at hr
      obtain ⟨i, hi', rfl⟩ := hr
      exact (hf' i (by simpa using hi')).1
    refine ⟨(List.range len).map f, hc, ?_⟩
    by_cases h0 : len = 0
    · subst h0
      exact IsL.nil w _ cap
    · obtain ⟨b, off, spot⟩ := x
      have h1 := (hf' 0 (by omega)).2 0 _ rfl
      rw [Nat.zero_mul] at h1
      have hspot : spot = none := by simpa [Addr.add] using World.cell?_spot h1
      subst hspot
      have := isL_of12 (Y := AcL) (w := w) (b := b) (off := off) (cap := cap) (l := (List.range len).map f) (by rw [hlen]; omega) (by rw [hlen]; exact hl) hall (fun i hi' r u hu => by
        rw [hlen] at hi'
        have e : ((List.range len).map f).getD i AcL.z = f i := by simp [List.getD_eq_getElem?_getD, hi']
        rw [e] at hu
        have := (hf' i hi').2 r u hu
        rw [addr_plain, addr_plain] at this
        rw [← Nat.add_assoc]
        exact this)
      rw [hlen] at this
      exact this
set_option maxRecDepth 100000 in
theorem open_acs {a : Option Addr} {len cap : Nat} {d : DataW H} {p : List MemPlace} (h : DataW.Trod enc Tryz.prog w base spare held 22 (.slice a len cap) d p) : ∃ l, IsL AcL w (.slice a len cap) l := by
  obtain ⟨fuel, hf⟩ := h
  obtain ⟨a', l', c', ks, e, hk⟩ := open_acC hf
  simp [Value.cells] at e
  obtain ⟨rfl, rfl, rfl⟩ := e
  exact ⟨ks, hk⟩

/-- Acts, of segments of a size, an offset, and how much is asked. -/
structure Ask12 where
  q : Int
  a : Option Addr
  n : Nat
  c : Nat
  l : List Ac
  o : Int
  x : Int
  y : Int
def Ask12.val (g : Ask12) : Value := .agg #[.int .u8 g.q, .slice g.a g.n g.c, .int .i64 g.o, .int .u16 g.x, .int .u16 g.y]
structure Ask12.Ok (w : World) (g : Ask12) : Prop where
  q : 0 ≤ g.q ∧ g.q < 256
  l : IsL AcL w (.slice g.a g.n g.c) g.l
  o : -9223372036854775808 ≤ g.o ∧ g.o ≤ 9223372036854775807
  x : 0 ≤ g.x ∧ g.x < 65536
  y : 0 ≤ g.y ∧ g.y < 65536
theorem u8_wf12 {n : Int} (h : (Lit.int .u8 n).wf = true) : 0 ≤ n ∧ n ≤ 255 := by
  simpa [Lit.wf, IntKind.min, IntKind.max, IntKind.signed, IntKind.bits] using h
set_option maxRecDepth 100000 in
theorem open_ask12 {r : Reach} {b0 : Nat} {v : Value} {d : DataW H} {p : List MemPlace}
    (hv : Value.okWide Tryz.prog w r b0 55 v) (h : DataW.Trod enc Tryz.prog w base spare held 55 v d p) : ∃ x : Ask12, v = x.val ∧ x.Ok w := by
  have hC : Tryz.prog.cellsOf 55 = 5 := by kernel_rfl
  have hS : Tryz.prog.cellsOf 22 = 1 := by kernel_rfl
  have hO : Tryz.prog.cellsOf 3 = 1 := by kernel_rfl
  have hU : Tryz.prog.cellsOf 5 = 1 := by kernel_rfl
  have hA : Tryz.prog.cellsOf 53 = 2 := by kernel_rfl
  have hB : Tryz.prog.cellsOf 52 = 1 := by kernel_rfl
  obtain ⟨cs, rfl, hsz⟩ := okWide_struct Tryz.underlying55 hv
  obtain ⟨l⟩ := cs
  match l, hsz.trans hC with
  | [c0, c1, c2, c3, c4], _ =>
    obtain ⟨fuel, hf⟩ := h
    obtain ⟨y0, y1, y2, y3, n, _, _, h0, h1, h2, h3⟩ := trod_struct4 Tryz.underlying55 hf
    simp [Value.cells, hS, hO, hU, hA] at h0 h1 h2 h3
    obtain ⟨rq, hq, _, wq⟩ := DataW.trod_int Tryz.underlying5 h0
    obtain ⟨ka, kn, kc, ks, hkc, hks⟩ := open_acC h1
    obtain ⟨rt, ht, _, wt⟩ := DataW.trod_int Tryz.underlying3 h2
    obtain ⟨xs, m, _, _, _, hlen, hi⟩ := DataW.trod_array Tryz.underlying53 h3
    have i0 := hi 0 (by omega)
    have i1 := hi 1 (by omega)
    simp [hB] at i0 i1
    match xs, hlen with
    | [x0, x1], _ =>
      obtain ⟨ra, ha, _, wa⟩ := DataW.trod_int Tryz.underlying52 i0
      obtain ⟨rb, hb, _, wb⟩ := DataW.trod_int Tryz.underlying52 i1
      simp at hq hkc ht ha hb
      subst hq hkc ht ha hb
      have u0 := u8_wf12 wq
      have u1 := u16_wf12 wa
      have u2 := u16_wf12 wb
      exact ⟨⟨rq, ka, kn, kc, ks, rt, ra, rb⟩, rfl, ⟨⟨u0.1, by show rq < 256; omega⟩, hks, i64_wf12 wt, ⟨u1.1, by show ra < 65536; omega⟩, ⟨u2.1, by show rb < 65536; omega⟩⟩⟩
end

end Go.Proofs.YthhhocgpoenigaaGreat.Sto

namespace Go.Proofs.YthhhocgpoenigaaGreat.Dsk
open Go.RowKit Go.Proofs.YthhhocgpoenigaaGreat.Dp

/-- How texts lie in memory. -/
def SL : Lay ByteArray where
  enc := fun s => [.string s]
  k := 1
  len := fun _ => rfl
  one := by intro f u hu; simp at hu; rw [hu]; rfl
  pos := by decide
  T := 9
  ok := fun _ => True
  z := ⟨#[]⟩

/-- Few files, of few bytes? -/
def FewF (l : List Fl) : Prop := l.length ≤ 40 ∧ ∀ f ∈ l, f.d.size ≤ 3000 ∧ f.n.size ≤ 100
instance (l : List Fl) : Decidable (FewF l) := inferInstanceAs (Decidable (_ ∧ _))

set_option maxRecDepth 100000 in
set_option maxHeartbeats 3200000 in
theorem rfew_any (fv : Value) (D : Dk) (b : Bool) (w : World) (hv : IsL FL w fv D.f) (hb : decide (FewF D.f) = b) :
    Calls Tryz.prog 19 #[dkVal fv D] w fun e w' => e = .returned (.bool b) ∧ Below w.heap.size w w' := by
  obtain ⟨fa, fn, fc, rfl⟩ : ∃ a n c, fv = .slice a n c := by obtain ⟨a, c, h, _⟩ := hv; exact ⟨a, _, c, h⟩
  have HV := Lib.hid hv
  have hfl := hv.len.1
  have hl := hv.len.2
  unfold maxLen at hl
  have hl2 : D.f.length ≤ 9223372036854775807 := by omega
  clear hl
  have HOK := Lib.hid hv.ok
  have G0 := Lib.hid (heap_alloc_new w (.cells #[.slice fa fn fc, .int .i64 D.c, .bool D.a, .int .i64 D.l, .bool D.x] 27))
  have B0 := Lib.hid ((Below.refl w.heap.size w).alloc (Nat.le_refl _) (.cells #[.slice fa fn fc, .int .i64 D.c, .bool D.a, .int .i64 D.l, .bool D.x] 27))
  have HLong := Lib.hid (show 40 < D.f.length → b = false from fun h => by rw [← hb]; exact decide_eq_false fun h2 => by have := h2.1; omega)
  have HNo := Lib.hid (show ∀ k, k < D.f.length → ¬ ((D.f.getD k zero).d.size ≤ 3000 ∧ (D.f.getD k zero).n.size ≤ 100) → b = false from fun k hk hn => by
    rw [← hb]
    refine decide_eq_false fun h2 => hn ?_
    rw [getD_fl hk]
    exact h2.2 _ (List.getElem_mem hk))
  have HYes := Lib.hid (show D.f.length ≤ 40 → (∀ k, k < D.f.length → (D.f.getD k zero).d.size ≤ 3000 ∧ (D.f.getD k zero).n.size ≤ 100) → b = true from fun h1 h2 => by
    rw [← hb]
    refine decide_eq_true ⟨h1, fun f hf => ?_⟩
    obtain ⟨k, hk, rfl⟩ := List.getElem_of_mem hf
    have := h2 k hk
    rw [getD_fl hk] at this
    exact this)
  obtain ⟨fl, dc, da, dl, dx⟩ := D
  dsimp only at *
  rw [← hfl] at hl2 HLong HNo HYes
  have HFL := Lib.hid hfl
  clear hfl hv hb
  unfold dkVal
  dsimp only
  obtain ⟨q0, q1, q2, q3, q4⟩ := cells5 G0.out
  by_cases h40 : 40 < fn
  · have HB := Lib.hid (HLong.out h40)
    have i40 : (40 : Int) < (fn : Int) := by omega
    go_enter Tryz.func19, Tryz.ntmps19
    go_wp2_with fail
    go_ret
    exact ⟨by rw [HB.out]; rfl, B0.out⟩
  · have hl40 : fn ≤ 40 := by omega
    clear h40
    go_enter Tryz.func19, Tryz.ntmps19
    go_wp2_with fail
    generalize World.alloc w _ = w0 at G0 B0 q0 q1 q2 q3 q4 ⊢
    go_loop [3] (fun i => ∃ k : Nat, k ≤ fn ∧ i = .int .i64 k ∧ (∀ j, j < k → (fl.getD j zero).d.size ≤ 3000 ∧ (fl.getD j zero).n.size ≤ 100)) (fun i => fn - (intOf i).toNat)
    case atStart => exact ⟨0, Nat.zero_le _, rfl, fun j hj => absurd hj (Nat.not_lt_zero j)⟩
    case round =>
      obtain ⟨k, hk, rfl, hall⟩ := hrel
      have HALL := Lib.hid hall
      clear hall
      by_cases hlt : k < fn
      · obtain ⟨g, off, rfl, c0, c1, c2⟩ := isL_at (HV.out.keep B0.out) hlt
        have hfb := HOK.out _ (show fl.getD k zero ∈ fl by rw [getD_fl (by rw [← HFL.out]; exact hlt)]; exact List.getElem_mem _)
        have hz1 := hfb.1
        have hz2 := hfb.2.1
        have HN := Lib.hid (HNo.out k hlt)
        have HG := Lib.hid (show (fl.getD k zero).d.size ≤ 3000 ∧ (fl.getD k zero).n.size ≤ 100 → ∀ j, j < k + 1 → (fl.getD j zero).d.size ≤ 3000 ∧ (fl.getD j zero).n.size ≤ 100 from fun h j hj => by
          by_cases e : j = k
          · subst e; exact h
          · exact HALL.out j (by omega))
        have HD : (3000 < (fl.getD k zero).d.size) ∨ ((fl.getD k zero).d.size ≤ 3000 ∧ 100 < (fl.getD k zero).n.size) ∨ ((fl.getD k zero).d.size ≤ 3000 ∧ (fl.getD k zero).n.size ≤ 100) := by omega
        clear hfb
        generalize fl.getD k zero = f at c0 c1 c2 hz1 hz2 HD HN HG
        rcases HD with h1 | ⟨h1, h2⟩ | ⟨h1, h2⟩
        · have HB := Lib.hid (HN.out (by omega))
          have i1 : (3000 : Int) < (f.d.size : Int) := by omega
          go_wp2_with fail
          go_ret
          exact ⟨by rw [HB.out]; rfl, B0.out⟩
        · have HB := Lib.hid (HN.out (by omega))
          have i1 : ¬ ((3000 : Int) < (f.d.size : Int)) := by omega
          have i2 : (100 : Int) < (f.n.size : Int) := by omega
          go_wp2_with fail
          go_ret
          exact ⟨by rw [HB.out]; rfl, B0.out⟩
        · have i1 : ¬ ((3000 : Int) < (f.d.size : Int)) := by omega
          have i2 : ¬ ((100 : Int) < (f.n.size : Int)) := by omega
          have HGG := Lib.hid (HG.out ⟨h1, h2⟩)
          go_wp2_with fail
          go_round
          case rel => exact ⟨k + 1, by omega, by go_num, HGG.out⟩
          case measure => simp [intOf]; omega
      · have HB := Lib.hid (HYes.out hl40 (fun j hj => HALL.out j (by omega)))
        go_wp2_with fail
        go_ret
        exact ⟨by rw [HB.out]; rfl, B0.out⟩

end Go.Proofs.YthhhocgpoenigaaGreat.Dsk

namespace Go.Proofs.YthhhocgpoenigaaGreat.Dsk
open Go.RowKit Go.Proofs.YthhhocgpoenigaaGreat.Dp

/-- As Two, and the elder one's files are in neither variable. -/
structure Two2 (base b t : Nat) (v v' : Value) (D D' : Dk) (w w2 : World) : Prop where
  tw : Two base b t v v' D D' w w2
  g : Held w2 base t v D.f
  ne : b ≠ t
theorem Two2.before {w W W' : World} {base b t : Nat} {v v' : Value} {D D' : Dk} {x1 x2 x3 x4 x5 : Value} (hv : Var W base b v D) (hl : Held W base t v D.f) (ht : W.heap[t]? = some (.cells #[x1, x2, x3, x4, x5] 27 (0, 0))) (hB : base ≤ W.heap.size) (hne : b ≠ t) (hk : KeptOr W' W.heap.size v D.f v' D'.f) (bel : Below W.heap.size W W')
    (hw : Below w.heap.size w W) (hwt : w.heap.size ≤ t) : Two2 base b t v v' D D' w (set5 W' t v' (.int .i64 D'.c) (.bool D'.a) (.int .i64 D'.l) (.bool D'.x)) :=
  ⟨Two.before hv hl ht hB hne hk bel hw hwt, (hl.keep bel).set5 _ _ _ _ _, hne⟩
theorem Two.keep {base b t : Nat} {v v' : Value} {D D' : Dk} {w w2 w3 : World} (h : Two base b t v v' D D' w w2) (bel : Below w2.heap.size w2 w3) : Two base b t v v' D D' w w3 := ⟨h.o.keep bel, h.n.keep bel, h.h.keep bel, h.b.trans (bel.mono h.b.size)⟩
theorem Two2.keep {base b t : Nat} {v v' : Value} {D D' : Dk} {w w2 w3 : World} (h : Two2 base b t v v' D D' w w2) (bel : Below w2.heap.size w2 w3) : Two2 base b t v v' D D' w w3 := ⟨h.tw.keep bel, h.g.keep bel, h.ne⟩

end Go.Proofs.YthhhocgpoenigaaGreat.Dsk
