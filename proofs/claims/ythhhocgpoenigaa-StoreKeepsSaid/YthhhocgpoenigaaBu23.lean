/-
  Parts of what the laws of this seat stand on: Law12K, StoOpen.
-/
import Derived.ChangeSame
import Derived.Deep.Fields
import Derived.Deep.Slices
import Derived.Lib.SmallJoins
import Derived.Test.YthhhocgpoenigaaBu14
import Derived.Test.YthhhocgpoenigaaBu22
namespace Go.Proofs.Ythhhocgpoenigaa.Sto
open Go.RowKit Go.Proofs.Ythhhocgpoenigaa.So Go.Proofs.Ythhhocgpoenigaa.Dsk Go.Proofs.Ythhhocgpoenigaa.Rts

theorem getD_mem12k {l : List Ac} {k : Nat} (h : k < l.length) : l.getD k azero ∈ l := by rw [getD_lt h]; exact List.getElem_mem _
theorem own_str {W : World} {B : Nat} {v : Value} {l : List ByteArray} (h : OwnL Dsk.SL W B v l) : ∃ a c, v = .slice a l.length c := by
  rcases h.2 with ⟨rfl, h0⟩ | ⟨g, cap, cur, rfl, _⟩
  · rw [show l.length = 0 from h0]
    exact ⟨none, 0, rfl⟩
  · exact ⟨_, _, rfl⟩
def AppOk (a : Ac) (E : Int) : Prop := a.k ≠ 1 ∧ a.k ≠ 2 ∧ a.k ≠ 3 ∧ E = 0
instance (a : Ac) (E : Int) : Decidable (AppOk a E) := inferInstanceAs (Decidable (_ ∧ _))
theorem appd_yes {a : Ac} {E : Int} {l : List ByteArray} (h : AppOk a E) : appd a E l = l ++ [a.d] := if_pos h
theorem appd_no {a : Ac} {E : Int} {l : List ByteArray} (h : ¬ AppOk a E) : appd a E l = l := if_neg h

set_option maxRecDepth 100000 in
set_option maxHeartbeats 6400000 in
theorem keeps12 (q : Int) (v : Value) (l : List Ac) (w : World) (hq : 0 ≤ q ∧ q < 256) (h : IsL AcL w v l) : Calls Try.prog 3 #[.int .u8 q, v] w fun e w' => e = .returned (.bool true) ∧ Below w.heap.size w w' := by
  obtain ⟨fa, fn, fc, rfl⟩ : ∃ a n c, v = .slice a n c := by obtain ⟨a, c, h, _⟩ := h; exact ⟨a, _, c, h⟩
  have SH := short12_any _ l w h
  have HL := Lib.hid h
  have HFN := Lib.hid h.len.1
  have hok := h.ok
  have AW := Lib.hid fun W : World => awake12 W
  clear h
  by_cases hs : Short12 l
  case neg =>
    rw [decide_eq_false hs] at SH
    replace SH := Lib.hid SH
    clear hs hok
    go_enter Try.func3, Try.ntmps3
    go_wp2_with fail
    refine SH.out.mono ?_
    rintro e w1 ⟨rfl, rfl⟩
    go_wp2_with fail
    refine (AW.out _).mono ?_
    rintro e w2 ⟨rfl, b2⟩
    have B2 := Lib.hid b2
    clear b2
    go_wp2_with fail
    go_ret
    exact ⟨rfl, B2.out⟩
  rw [decide_eq_true hs] at SH
  have hfn : fn ≤ 40 := by rw [HFN.out]; exact hs.1
  have HOK := Lib.hid (show ∀ k, k < fn → AcB (l.getD k azero) from fun k hk => hok _ (getD_mem12k (by rw [← HFN.out]; exact hk)))
  replace SH := Lib.hid SH
  have CR := Lib.hid fun W : World => create12_any none 0 0 Dp.empty W 0 (IsL.nil W none 0) bd_emp (by decide)
  obtain ⟨c1, c2⟩ := aw_create
  obtain ⟨_, c3⟩ := kp_new (q := 20 + q) (by omega)
  obtain ⟨⟨S0, E0⟩, hc⟩ : ∃ R, createT Dp.empty = R := ⟨_, rfl⟩
  rw [hc] at c1 c2 c3 CR
  obtain rfl : E0 = 0 := c1
  have G0 := Lib.hid (show Gd S0 1 from c2.d)
  have K0 := Lib.hid (show Kp (20 + q) S0 [] from c3)
  unfold dkVal at CR
  replace CR := Lib.hid CR.out
  clear hc hs hok
  go_enter Try.func3, Try.ntmps3
  go_wp2_with fail
  refine SH.out.mono ?_
  rintro e w1 ⟨rfl, rfl⟩
  clear SH
  go_wp2_with fail
  refine (CR.out _).mono ?_
  rintro e w1 ⟨a1, n1, c1, a2, n2, c2, rfl, ks⟩
  have al := (Below.refl w1.heap.size w1).alloc (Nat.le_refl _) (.cells #[.slice a1 n1 c1, .int .i64 S0.d.c, .bool S0.d.a, .int .i64 S0.d.l, .bool S0.d.x, .int .i64 S0.v, .slice a2 n2 c2, .int .i64 S0.x, .int .i64 S0.s, .int .i64 S0.z, .int .u32 S0.c] 31)
  have B0 := Lib.hid (Bx.first (P := withRow w1.heap.size (.slice none 0 0)) ks (fun p hp => by unfold withRow at hp; simp [Value.ownBlock] at hp; omega))
  have L0 := Lib.hid (ks.w.trans (al.mono ks.w.size))
  have hbw : w.heap.size ≤ w1.heap.size := ks.w.size
  clear ks al CR
  unfold stVal
  dsimp only
  go_wp2_with fail
  generalize w1.alloc _ = w0 at B0 L0 ⊢
  generalize w1.heap.size = b at B0 L0 hbw ⊢
  have hwq : IntKind.i64.wrap q = q := IntWalk.i64_in _ ⟨by omega, by omega⟩
  have hw20 : IntKind.i64.wrap (20 + q) = 20 + q := IntWalk.i64_in _ ⟨by omega, by omega⟩
  go_loopw [7, 8] (fun x i wr => ∃ (k : Nat) (S : St) (al : List ByteArray), k ≤ fn ∧ i = .int .i64 k ∧ al.length ≤ k ∧ Hid (Gd S (k + 1)) ∧ Hid (Kp (20 + q) S al) ∧ Hid (BxR (withRow b x) b S wr) ∧ Hid (OwnL Dsk.SL wr (b + 1) x al) ∧ Hid (Below w.heap.size w wr)) (fun _ i _ => fn - (intOf i).toNat)
  case atStart => exact ⟨0, S0, [], Nat.zero_le _, rfl, Nat.le_refl _, G0, K0, ⟨_, _, _, _, _, _, B0.out⟩, OwnL.nil _ _, L0⟩
  case round =>
    clear B0 L0 G0 K0
    obtain ⟨k, S, al, hk, rfl, hal, HG, HK, HB, HO, HW⟩ := hrel
    obtain ⟨a5, n5, c5, a6, n6, c6, P1⟩ := HB.out
    obtain ⟨va, vc, rfl⟩ := own_str HO.out
    clear HB
    by_cases hlt : k < fn
    · have hac := HOK.out k hlt
      have HGT := HG.out.act (20 + q) (l.getD k azero) hac.2.1.2
      have HKT := HK.out.act (by omega) (by omega) (l.getD k azero)
      have DO := Lib.hid fun (W : World) (h1 : IsL FL W (.slice a5 n5 c5) S.d.f) (h2 : IsL Rts.SL W (.slice a6 n6 c6) S.g) => do12_any a5 a6 n5 c5 n6 c6 S (20 + q) (l.getD k azero) W _ h1 h2 HG.out (by omega) hac
      obtain ⟨⟨T, E⟩, hT⟩ : ∃ R, doA (20 + q) S (l.getD k azero) = R := ⟨_, rfl⟩
      rw [hT] at DO HGT HKT
      dsimp only at HKT
      replace HGT := Lib.hid (show Gd T (k + 2) from HGT)
      replace HKT := Lib.hid HKT
      unfold stVal acVal at DO
      obtain ⟨g, off, rfl, c0, c1, c2⟩ := ac_at (HL.out.keep HW.out) hlt
      have CA := Lib.hid (show ∀ W, Below w.heap.size w W → W.cell? ⟨g, off + k * 3, none⟩ = some (.int .i64 (l.getD k azero).k) ∧ W.cell? ⟨g, off + k * 3 + 1, none⟩ = some (.int .i64 (l.getD k azero).n) ∧ W.cell? ⟨g, off + k * 3 + 2, none⟩ = some (.string (l.getD k azero).d) from fun W b => by
        obtain ⟨g', off', e, d0, d1, d2⟩ := ac_at (HL.out.keep b) hlt
        obtain ⟨rfl, rfl⟩ : g = g' ∧ off = off' := by simpa using e
        exact ⟨d0, d1, d2⟩)
      have hbg := block_lt_of_cell c0
      generalize l.getD k azero = ac at DO c0 c1 c2 HKT CA
      clear hT hac
      obtain ⟨⟨k0, k1, k2, k3, k4⟩, k5, k6, k7, k8, k9, k10⟩ := cellsS P1.d
      have hb0 : b < wr.heap.size := P1.lt
      have hP : ∀ p ∈ withRow b (.slice va al.length vc), p < wr.heap.size := withRow_lt hb0 HO.out
      have hn6 : ((n6 : Int) == 0) = false := by
        have h1 := P1.g.len.1
        have h2 := List.length_pos_iff.2 HG.out.ne
        simp; omega
      have H1 := Lib.hid P1
      clear P1
      go_upto_region 10 with (fail)
      go_cut [9, 10] (fun p e we => ∃ t : Nat, p = .pointer (some ⟨t, 0, none⟩) ∧ e = .int .i64 E ∧ BxR (withRow b (.slice va al.length vc)) t T we ∧ Below wr.heap.size wr we ∧ wr.heap.size ≤ t)
      case first =>
        go_region_held3 (fun W => (∀ b o, b < wr.heap.size → W.cell? ⟨b, o, none⟩ = wr.cell? ⟨b, o, none⟩) ∧ Below wr.heap.size wr W) (first | with_reducible assumption | with_reducible exact KW.dr _ | with_reducible exact KW.al11 (by assumption) | with_reducible exact KW.al (by assumption) | with_reducible exact KW.ad (KW.start _) | with_reducible exact KW.ad (by assumption) | with_reducible exact KW.st11 (by assumption) (Nat.le_refl _) | with_reducible exact KW.st11 (by assumption) (by assumption) | with_reducible exact KW.keep (by assumption) (Below.refl _ _).drew | with_reducible exact KW.keep (by assumption) (by assumption)) (first | (go_at_call 7; refine (DO.out _ (by first | exact H1.out.f.keep (KW.bel (by assumption)) | exact H1.out.f.keep (Below.refl _ _).drew) (by first | exact H1.out.g.keep (KW.bel (by assumption)) | exact H1.out.g.keep (Below.refl _ _).drew)).mono ?_; rintro e w5 ⟨a5, n5, c5, a6, n6, c6, rfl, k5'⟩; have q5 := k5'.w; have s5 := KW.keep (by assumption) q5; have q4 := KW.at (by assumption) q5; (first | (with_reducible have z5 := hkeep (alloc_drew_new _ _ _) q5) | skip); (first | (have zc := cellsS z5; have zf := frozenS z5; obtain ⟨⟨y0, y1, y2, y3, y4⟩, y5, y6, y7, y8, y9, y10⟩ := zc) | skip); unfold stVal))
        all_goals
          rename_i hh
          clear hh s5
          go_wp2_with fail
          go_meet
          case rel =>
            first
              | (refine ⟨_, rfl, rfl, ?_, ?_, ?_⟩; (with_reducible exact BxR.A H1.out q4 k5' hP); (with_reducible exact BxR.bA q4 k5' _); exact Nat.le_trans q4.size k5'.w.size)
              | (refine ⟨_, rfl, rfl, ?_, ?_, ?_⟩; (with_reducible exact BxR.B H1.out q4 k5' hP z5 (Nat.le_refl _) (alloc_drew_lt _ _)); (with_reducible exact BxR.bB q4 k5' (Nat.le_refl _)); exact Nat.le_refl _)
      case rest =>
        clear k0 k1 k2 k3 k4 k5 k6 k7 k8 k9 k10 c0 c1 c2 DO hP hn6
        obtain ⟨t1, rfl, rfl, BT, LT, ht1⟩ := hcut
        have Q1 := Lib.hid (H1.out.keep LT)
        have O1 := Lib.hid (HO.out.keep LT)
        have W1 := Lib.hid (HW.out.trans (LT.mono HW.out.size))
        obtain ⟨c0, c1, c2⟩ := CA.out _ W1.out
        have BTH := Lib.hid BT
        have hsz := LT.size
        clear BT LT H1
        go_upto_region 11 with (fail)
        obtain ⟨B, hBe⟩ : ∃ B, decide (AppOk ac E) = B := ⟨_, rfl⟩
        have HBE := Lib.hid hBe
        clear hBe
        go_cut [72] (fun p we => p = .bool B ∧ we = wc)
        case first =>
          by_cases h1 : ac.k = 1
          · have HDB := Lib.hid (decide_eq_false (show ¬ AppOk ac E from fun h => h.1 h1))
            have q1 : (ac.k != 1) = false := by simpa using h1
            clear h1
            go_wp2_with fail
            go_meet
            case rel => exact ⟨by rw [← HBE.out, HDB.out], rfl⟩
          have q1 : (ac.k != 1) = true := by simpa using h1
          by_cases h2 : ac.k = 2
          · have HDB := Lib.hid (decide_eq_false (show ¬ AppOk ac E from fun h => h.2.1 h2))
            have q2 : (ac.k != 2) = false := by simpa using h2
            clear h1 h2
            go_wp2_with fail
            go_meet
            case rel => exact ⟨by rw [← HBE.out, HDB.out], rfl⟩
          have q2 : (ac.k != 2) = true := by simpa using h2
          by_cases h3 : ac.k = 3
          · have HDB := Lib.hid (decide_eq_false (show ¬ AppOk ac E from fun h => h.2.2.1 h3))
            have q3 : (ac.k != 3) = false := by simpa using h3
            clear h1 h2 h3
            go_wp2_with fail
            go_meet
            case rel => exact ⟨by rw [← HBE.out, HDB.out], rfl⟩
          have q3 : (ac.k != 3) = true := by simpa using h3
          by_cases h4 : E = 0
          · have HDB := Lib.hid (decide_eq_true (show AppOk ac E from ⟨h1, h2, h3, h4⟩))
            have q4 : (E == 0) = true := by simpa using h4
            clear h1 h2 h3 h4
            go_wp2_with fail
            go_meet
            case rel => exact ⟨by rw [← HBE.out, HDB.out], rfl⟩
          · have HDB := Lib.hid (decide_eq_false (show ¬ AppOk ac E from fun h => h4 h.2.2.2))
            have q4 : (E == 0) = false := by simpa using h4
            clear h1 h2 h3 h4
            go_wp2_with fail
            go_meet
            case rel => exact ⟨by rw [← HBE.out, HDB.out], rfl⟩
        case rest =>
          obtain ⟨rfl, rfl⟩ := hcut
          have hcl : c0 = c0 := rfl
          clear hcl
          obtain ⟨i0, hi0, hz0, hz1, hz2⟩ := info_parts info_sl
          have hwsz := W1.out.size
          have hbw' : b + 1 ≤ wc.heap.size := Nat.le_trans hb0 hsz
          go_upto_if 72 with (fail)
          go_cut [7] (fun x we => Hid (OwnL Dsk.SL we (b + 1) x (appd ac E al)) ∧ Hid (BxR (withRow b x) t1 T we) ∧ Hid (BxR (withRow b x) b S we) ∧ Hid (Below w.heap.size w we))
          case first =>
            cases B with
            | true =>
              have hap := of_decide_eq_true HBE.out
              have HBW := (Below.refl wc.heap.size wc).alloc (Nat.le_refl _) (.cells [Value.string ac.d].toArray 9)
              have HOX := Lib.hid (show (wc.alloc (.cells [Value.string ac.d].toArray 9)).ownsRow (b + 1) 9 1 (.slice va al.length vc) al.length (Dsk.SL.vals al) from World.ownsRow.alloc O1.out _)
              have hx1 : ∀ q, (Value.slice va al.length vc).ownBlock = some q → q ≠ t1 := fun q hq => by have := (HO.out.lt q hq).2; omega
              have hx2 : ∀ q, (Value.slice va al.length vc).ownBlock = some q → q ≠ b := fun q hq => by have := (HO.out.lt q hq).1; omega
              have hxb : ∀ q, (Value.slice va al.length vc).ownBlock = some q → w.heap.size ≤ q := fun q hq => by have := (HO.out.lt q hq).1; omega
              have HF := Lib.hid (show ∀ v' w3, w3.ownsRow (b + 1) 9 1 v' (al.length + 1) (Dsk.SL.vals al ++ [.string ac.d]) → (wc.alloc (.cells [Value.string ac.d].toArray 9)).grownBy w3 (Value.slice va al.length vc).ownBlock → Moved (wc.alloc (.cells [Value.string ac.d].toArray 9)) (.slice va al.length vc) v' → Hid (OwnL Dsk.SL w3 (b + 1) v' (appd ac E al)) ∧ Hid (BxR (withRow b v') t1 T w3) ∧ Hid (BxR (withRow b v') b S w3) ∧ Hid (Below w.heap.size w w3) from fun v' w3 h hg hm => by
                rw [appd_yes hap]
                exact ⟨Lib.hid (OwnL.snoc (n := al.length) h rfl rfl), Lib.hid ((BTH.out.keep HBW).grow hg hx1 hm), Lib.hid ⟨_, _, _, _, _, _, (Q1.out.keep HBW).grow hg hx2 hm⟩, Lib.hid ((W1.out.alloc W1.out.size _).grown hg (Nat.le_trans W1.out.size HBW.size) hxb)⟩)
              have HNEW := Lib.hid (news_new wc wc.heap.size [Value.string ac.d] 9 rfl)
              have HC := Lib.hid (show ∀ u ∈ [Value.string ac.d], u.oneCell' = true from Dsk.SL.one ac.d)
              clear hx1 hx2 hxb HBW
              generalize hxs : Dsk.SL.vals al = xs at *
              generalize hll : al.length = ll at *
              clear hxs hll hap
              go_wp2_with (at_builtin; refine wpList_append_where _ rfl _ _ 35 rfl (b + 1) 9 i0 (.string ByteArray.empty) 1 16 Try.underlying35 hi0 hz0 hz1 hz2 rfl (by decide) _ _ _ rfl HOX.out ⟨wc.heap.size, 0, none⟩ 1 1 [Value.string ac.d] rfl rfl HNEW.out HC.out (by decide) (by unfold maxLen; omega) (by omega) (by simp; omega) ?_; intro v' w3 hown' hgrow3 hmov3)
              go_meet
              case rel => exact HF.out v' w3 hown' hgrow3 hmov3
            | false =>
              have hap := of_decide_eq_false HBE.out
              have HF := Lib.hid (appd_no (l := al) hap)
              clear hap
              go_wp2_with fail
              go_meet
              case rel => exact ⟨by rw [HF.out]; exact O1, BTH, Lib.hid ⟨_, _, _, _, _, _, Q1.out⟩, W1⟩
          case rest =>
            obtain ⟨HO2, HBT2, HBS2, HW2⟩ := hcut
            have hal2 := appd_len ac E al
            clear HO W1 O1 Q1 BTH HBE c0 c1 c2 hsz HW
            generalize appd ac E al = al2 at *
            obtain ⟨va2, vc2, rfl⟩ := own_str HO2.out
            obtain ⟨a7, n7, c7, a8, n8, c8, BT⟩ := HBT2.out
            obtain ⟨a5, n5, c5, a6, n6, c6, BS⟩ := HBS2.out
            obtain ⟨HK2, hs1, hs2, hs3⟩ := HKT.out
            have HKH := Lib.hid HK2
            have ht3 := HK2.len
            have e1 : (T.x == ((al2.length : Nat) : Int)) = true := by simpa using ht3
            have e1' : (T.x != ((al2.length : Nat) : Int)) = false := by simpa using ht3
            have e2 : decide (T.s < S.s) = false := by simp; omega
            have e3 : decide (T.x < T.s) = false := by simp; omega
            obtain ⟨c0, c1, c2⟩ := CA.out _ HW2.out
            have hbl : w.heap.size ≤ b := hbw
            have CP := Lib.hid (BT.copy BS (withRow_box _ _))
            obtain ⟨⟨k0, k1, k2, k3, k4⟩, k5, k6, k7, k8, k9, k10⟩ := cellsS BS.d
            have kf := frozenS BS.d
            obtain ⟨⟨x0, x1, x2, x3, x4⟩, x5, x6, x7, x8, x9, x10⟩ := cellsS BT.d
            have htb : ∀ q, (Value.slice va2 al2.length vc2).ownBlock = some q → q ≠ b := fun q hq => by have := (HO2.out.lt q hq).1; omega
            clear BS BT HBT2 HBS2 HKT HK2 ht3 CA
            go_upto_region 13 with (fail)
            go_cut [118] (fun p we => p = .bool false ∧ we = wc)
            case first =>
              by_cases h0 : E = 0
              · have q0 : (E == 0) = true := by simpa using h0
                by_cases h1 : ac.k = 1
                · have q1 : (ac.k == 1) = true := by simpa using h1
                  have q2 : (T.s != T.x) = false := by simpa using hs3 h0 h1
                  clear h0 h1 hs1 hs2 hs3
                  go_wp2_with fail
                  go_meet
                  case rel => exact ⟨rfl, rfl⟩
                · have q1 : (ac.k == 1) = false := by simpa using h1
                  clear h0 h1 hs1 hs2 hs3
                  go_wp2_with fail
                  go_meet
                  case rel => exact ⟨rfl, rfl⟩
              · have q0 : (E == 0) = false := by simpa using h0
                clear h0 hs1 hs2 hs3
                go_wp2_with fail
                go_meet
                case rel => exact ⟨rfl, rfl⟩
            case rest =>
              obtain ⟨rfl, rfl⟩ := hcut
              clear e1 e1' e2 e3 hs1 hs2 hs3 c0 c1 c2
              go_upto_region 7 with (fail)
              obtain ⟨Z, hZ, Z1, _, Z3⟩ := CP.out
              rw [hZ]
              have R3 := Lib.hid (Z3 w.heap.size w hbl HW2.out)
              have R1 := Lib.hid (show BxR (withRow b (.slice va2 al2.length vc2)) b T Z from ⟨_, _, _, _, _, _, Z1⟩)
              have R2 := Lib.hid (own_other HO2.out hZ.symm htb)
              clear hZ CP Z1 Z3 k0 k1 k2 k3 k4 k5 k6 k7 k8 k9 k10 kf x0 x1 x2 x3 x4 x5 x6 x7 x8 x9 x10
              go_wp2_with fail
              go_roundw
              case rel => exact ⟨k + 1, T, al2, by omega, by go_num, by omega, HGT, HKH, R1, R2, R3⟩
              case measure => simp [intOf]; omega
    · have hkk : ¬ (k : Int) < (fn : Int) := by omega
      have hst := HG.out.stb (by omega)
      have RD := Lib.hid fun (o : Int) (W : World) (h1 : IsL FL W (.slice a5 n5 c5) S.d.f) (h2 : IsL Rts.SL W (.slice a6 n6 c6) S.g) => read12_any a5 a6 n5 c5 n6 c6 S (20 + q) (rcOf al) o W h1 h2 hst HK.out.i (by rw [rcOf_len]; have := HK.out.n; omega)
      have KR := Lib.hid fun (j : Nat) (hj : j < al.length) => HK.out.read hj
      have KE := Lib.hid HK.out.end_
      have hal4 : al.length ≤ 40 := by omega
      have P1H := Lib.hid P1
      have b0 := Lib.hid (Below.refl wr.heap.size wr)
      clear hst P1 HK HG hlt hwq hw20
      unfold stVal at RD
      go_wp2_with fail
      go_loopw [11] (fun i W => ∃ j : Nat, j ≤ al.length ∧ i = .int .i64 j ∧ Hid (Below wr.heap.size wr W)) (fun i _ => al.length - (intOf i).toNat)
      case atStart => exact ⟨0, Nat.zero_le _, rfl, b0⟩
      case round =>
        obtain ⟨j, hj, rfl, HB2⟩ := hrel
        have P2 := P1H.out.keep HB2.out
        by_cases hlt2 : j < al.length
        · have R1 := RD.out (j : Int) _ P2.f P2.g
          rw [KR.out j hlt2] at R1
          unfold RdVal recVal at R1
          dsimp only at R1
          replace R1 := Lib.hid R1
          have O2 := HO.out.keep HB2.out
          have hls := Lib.hid (O2.is (by unfold maxLen; omega) (fun _ _ => trivial))
          obtain ⟨⟨k0, k1, k2, k3, k4⟩, k5, k6, k7, k8, k9, k10⟩ := cellsS P2.d
          clear P2 O2
          go_wp2_with fail
          refine R1.out.mono ?_
          rintro e w3 ⟨rfl, b3⟩
          have al3 := (Below.refl w3.heap.size w3).alloc (Nat.le_refl _) (.cells #[.int .i64 j, .int .i64 7, .string (al.getD j ⟨#[]⟩)] 40)
          have L3 := Lib.hid ((HB2.out.trans (b3.mono HB2.out.size)).trans (al3.mono (Nat.le_trans HB2.out.size b3.size)))
          have Y1 := heap_alloc_new w3 (.cells #[.int .i64 j, .int .i64 7, .string (al.getD j ⟨#[]⟩)] 40)
          obtain ⟨y0, y1, y2⟩ := cells3 Y1
          obtain ⟨sb, so, rfl, s0⟩ := sl_at ((hls.out.keep b3).keep al3) hlt2
          generalize al.getD j ⟨#[]⟩ = dd at *
          clear k0 k1 k2 k3 k4 k5 k6 k7 k8 k9 k10 b3 al3 R1 Y1
          go_upto_region 20 with (fail)
          generalize w3.alloc _ = w4 at L3 y0 y1 y2 s0 ⊢
          go_quiet (fail)
          go_wp2_with fail
          go_roundw
          case rel => exact ⟨j + 1, by omega, by go_num, Lib.hid (L3.out.trans ((bel_drewN _).mono L3.out.size))⟩
          case measure => simp [intOf]; omega
        · obtain rfl : j = al.length := by omega
          have hjj : ¬ ((al.length : Nat) : Int) < ((al.length : Nat) : Int) := by omega
          have R1 := RD.out (al.length : Int) _ P2.f P2.g
          rw [KE.out] at R1
          unfold RdVal recVal at R1
          dsimp only [Rp.zero] at R1
          replace R1 := Lib.hid R1
          obtain ⟨⟨k0, k1, k2, k3, k4⟩, k5, k6, k7, k8, k9, k10⟩ := cellsS P2.d
          clear P2
          go_wp2_with fail
          refine R1.out.mono ?_
          rintro e w3 ⟨rfl, b3⟩
          have al3 := (Below.refl w3.heap.size w3).alloc (Nat.le_refl _) (.cells #[.int .i64 0, .int .i64 0, .string ⟨#[]⟩] 40)
          have L3 := Lib.hid (HW.out.trans ((((HB2.out.trans (b3.mono HB2.out.size)).trans (al3.mono (Nat.le_trans HB2.out.size b3.size)))).mono HW.out.size))
          clear k0 k1 k2 k3 k4 k5 k6 k7 k8 k9 k10 b3 al3 R1
          go_wp2_with fail
          refine (AW.out _).mono ?_
          rintro e w5 ⟨rfl, b5⟩
          have L5 := Lib.hid (L3.out.trans (b5.mono L3.out.size))
          clear b5
          go_wp2_with fail
          go_ret
          exact ⟨rfl, L5.out⟩

end Go.Proofs.Ythhhocgpoenigaa.Sto

namespace Go.Proofs.Ythhhocgpoenigaa.Sto
open Go.RowKit Go.ChangeShapes Go.WideShapes Go.Deep Go.Joins Go.Proofs.Ythhhocgpoenigaa.Dsk

theorem i64_wf12 {n : Int} (h : (Lit.int .i64 n).wf = true) : -9223372036854775808 ≤ n ∧ n ≤ 9223372036854775807 := by
  simpa [Lit.wf, IntKind.min, IntKind.max, IntKind.signed, IntKind.bits] using h
/-- A slice in memory, element by element. -/
theorem isL_of12 {α : Type} {Y : Lay α} {w : World} {b off cap : Nat} {l : List α} (hm : l.length ≤ maxLen) (hcap : l.length ≤ cap) (hok : ∀ x ∈ l, Y.ok x)
    (hc : ∀ i, i < l.length → ∀ r u, (Y.enc (l.getD i Y.z))[r]? = some u → w.cell? ⟨b, off + (i * Y.k + r), none⟩ = some u) : IsL Y w (.slice (some ⟨b, off, none⟩) l.length cap) l := by
  refine ⟨_, cap, rfl, ⟨hm, hcap⟩, hok, .inr ⟨b, off, rfl, fun j u hj => ?_⟩⟩
  have hlt := (List.getElem?_eq_some_iff.1 hj).1
  rw [Y.vals_len] at hlt
  have hk := Y.pos
  have h1 : j / Y.k < l.length := Nat.div_lt_of_lt_mul (by rw [Nat.mul_comm]; exact hlt)
  have h2 : j % Y.k < Y.k := Nat.mod_lt _ hk
  have e : j = j / Y.k * Y.k + j % Y.k := by rw [Nat.mul_comm]; exact (Nat.div_add_mod j Y.k).symm
  have h3 := Y.vals_get l (j / Y.k) (j % Y.k) h1 h2
  rw [← e, hj] at h3
  have := hc (j / Y.k) h1 (j % Y.k) u h3.symm
  rwa [← e] at this

section
variable {H : Type} {enc : TypeId × Value → H} {w : World} {base : Nat} {spare : Nat → Bool} {held : Bool}
set_option maxRecDepth 100000 in
/-- A slice of acts. -/
theorem open_acC {n : Nat} {cs : List Value} {y : DataW H × List MemPlace} (h : DataW.trod enc Try.prog w base spare held n 22 cs = some y) : ∃ a l c ms, cs = [.slice a l c] ∧ IsL AcL w (.slice a l c) ms := by
  rcases open_slice Try.underlying22 h with ⟨hc, _⟩ | ⟨x, len, cap, m, n, D, Pl, hc, _, hl, hm, hmm, _, hi⟩
  · exact ⟨none, 0, 0, [], hc, IsL.nil w none 0⟩
  · refine ⟨some x, len, cap, ?_⟩
    have hlm : len ≤ m := by rw [hmm]; split <;> omega
    have hC : Try.prog.cellsOf 38 = 3 := by kernel_rfl
    have hO : Try.prog.cellsOf 3 = 1 := by kernel_rfl
    have hS : Try.prog.cellsOf 9 = 1 := by kernel_rfl
    rw [hC] at hi
    have key : ∀ i, i < len → ∃ r : Ac, AcB r ∧ ∀ j u, (acCells r)[j]? = some u → w.cell? ((x.add (i * 3)).add j) = some u := by
      intro i hil
      obtain ⟨cs', hcs, ht⟩ := hi i (by omega)
      obtain ⟨_, hlen, hat⟩ := World.cells?_some hcs
      obtain ⟨c0, c1, c2, rfl⟩ : ∃ c0 c1 c2, cs' = [c0, c1, c2] := by
        match cs', hlen with
        | [c0, c1, c2], _ => exact ⟨c0, c1, c2, rfl⟩
      obtain ⟨y0, y1, y2, n', _, _, h0, h1, h2⟩ := trod_struct3 Try.underlying38 ht
      obtain ⟨rb, hb, _, wb⟩ := DataW.trod_int Try.underlying3 h0
      obtain ⟨rn, hn, _, wn⟩ := DataW.trod_int Try.underlying3 h1
      obtain ⟨rz, hz, _, wz⟩ := DataW.trod_string Try.underlying9 h2
      simp [hO, hS] at hb hn hz
      subst hb hn hz
      unfold maxLen at wz
      refine ⟨⟨rb, rn, rz⟩, ⟨i64_wf12 wb, i64_wf12 wn, wz⟩, fun j u hj => ?_⟩
      have hjl : j < 3 := (List.getElem?_eq_some_iff.1 hj).1
      have := hat j hjl
      exact this.trans hj
    obtain ⟨f, hf'⟩ : ∃ f : Nat → Ac, ∀ i, i < len → AcB (f i) ∧ ∀ j u, (acCells (f i))[j]? = some u → w.cell? ((x.add (i * 3)).add j) = some u := by
      refine ⟨fun i => if h : i < len then Classical.choose (key i h) else azero, fun i h => ?_⟩
      simp only [dif_pos h]
      exact Classical.choose_spec (key i h)
    have hlen : ((List.range len).map f).length = len := by simp
    have hall : ∀ r ∈ (List.range len).map f, AcB r := fun r hr => by
      rw [List.mem_map] at hr
      obtain ⟨i, hi', rfl⟩ := hr
      exact (hf' i (by simpa using hi')).1
    refine ⟨(List.range len).map f, hc, ?_⟩
    by_cases h0 : len = 0
    · subst h0
      exact IsL.nil w _ cap
    · obtain ⟨b, off, spot⟩ := x
      have h1 := (hf' 0 (by omega)).2 0 _ rfl
      rw [Nat.zero_mul] at h1
      have hspot : spot = none := by simpa [Addr.add] using World.cell?_spot h1
      subst hspot
      have := isL_of12 (Y := AcL) (w := w) (b := b) (off := off) (cap := cap) (l := (List.range len).map f) (by rw [hlen]; omega) (by rw [hlen]; exact hl) hall (fun i hi' r u hu => by
        rw [hlen] at hi'
        have e : ((List.range len).map f).getD i AcL.z = f i := by simp [List.getD_eq_getElem?_getD, hi']
        rw [e] at hu
        have := (hf' i hi').2 r u hu
        rw [addr_plain, addr_plain] at this
        rw [← Nat.add_assoc]
        exact this)
      rw [hlen] at this
      exact this
theorem open_acs {a : Option Addr} {len cap : Nat} {d : DataW H} {p : List MemPlace} (h : DataW.Trod enc Try.prog w base spare held 22 (.slice a len cap) d p) : ∃ l, IsL AcL w (.slice a len cap) l := by
  obtain ⟨fuel, hf⟩ := h
  obtain ⟨a', l', c', ks, e, hk⟩ := open_acC hf
  simp [Value.cells] at e
  obtain ⟨rfl, rfl, rfl⟩ := e
  exact ⟨ks, hk⟩

/-- Acts, of segments of a size, an offset, and how much is asked. -/
structure Ask12 where
  q : Int
  a : Option Addr
  n : Nat
  c : Nat
  l : List Ac
  o : Int
  x : Int
  y : Int
def Ask12.val (g : Ask12) : Value := .agg #[.int .u8 g.q, .slice g.a g.n g.c, .int .i64 g.o, .int .u16 g.x, .int .u16 g.y]
structure Ask12.Ok (w : World) (g : Ask12) : Prop where
  q : 0 ≤ g.q ∧ g.q < 256
  l : IsL AcL w (.slice g.a g.n g.c) g.l
  o : -9223372036854775808 ≤ g.o ∧ g.o ≤ 9223372036854775807
  x : 0 ≤ g.x ∧ g.x < 65536
  y : 0 ≤ g.y ∧ g.y < 65536
theorem u8_wf12 {n : Int} (h : (Lit.int .u8 n).wf = true) : 0 ≤ n ∧ n ≤ 255 := by
  simpa [Lit.wf, IntKind.min, IntKind.max, IntKind.signed, IntKind.bits] using h
end

end Go.Proofs.Ythhhocgpoenigaa.Sto
