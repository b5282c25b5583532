/-
  Parts of what the laws of this seat stand on: StoApp2, StoGrow, Mem.
-/
import Derived.Deep.Heap
import Derived.Lib.BufferOwn
import Derived.Test.YthhhocgpoenigaaGreatBu1
import Derived.Test.YthhhocgpoenigaaGreatBu16
import Derived.Test.YthhhocgpoenigaaGreatBu18
import Derived.Test.YthhhocgpoenigaaGreatBu20
namespace Go.Proofs.YthhhocgpoenigaaGreat.Sto
open Go.RowKit Go.Proofs.YthhhocgpoenigaaGreat.So Go.Proofs.YthhhocgpoenigaaGreat.Dsk Go.Proofs.YthhhocgpoenigaaGreat.Rts

theorem last_at {S : St} {m : Nat} (h : S.g.length = m + 1) : S.g.getD m Rt.zero = lastG S := by unfold lastG; rw [h]; rfl
theorem ok_fault {r : Rp.Rec} (h : ¬ Rp.Ok r) : Rp.fault r ≠ 0 := by
  rcases Rp.fault_cases r with h1 | h1
  · exact absurd h1.2 h
  · have := h1.2; omega

set_option maxRecDepth 100000 in
set_option maxHeartbeats 6400000 in
/-- The document's Append. -/
theorem rappend12_any (fa ga : Option Addr) (fn fc gn gc : Nat) (S : St) (q : Int) (r : Rp.Rec) (w : World) (k : Nat) (hv : IsL FL w (.slice fa fn fc) S.d.f) (hg : IsL SL w (.slice ga gn gc) S.g) (hn : S.g ≠ []) (hB : Stb S) (hS : Bd S.d k) (hk : k ≤ 70000) (hver : S.v < 1152921504606846976) (hr : RecOk r) :
    Calls Tryz.prog 42 #[stVal (.slice fa fn fc) (.slice ga gn gc) S, .int .i64 q, recVal r] w (StOut w (.slice fa fn fc) (.slice ga gn gc) (append S q r)) := by
  have T0 := Lib.hid fun (W0 : World) => @Ta.new w (.slice fa fn fc) (.slice ga gn gc) S #[.int .i64 r.a, .int .i64 r.t, .string r.d] 57 W0 hv hg
  have hgl := hg.len.1
  have hgn : gn ≤ 1000 := by rw [hgl]; exact hB.n
  have hpos : 0 < S.g.length := List.length_pos_iff.2 hn
  obtain ⟨m, rfl⟩ : ∃ m, gn = m + 1 := ⟨gn - 1, by omega⟩
  have HGL := Lib.hid hgl
  have RO := Lib.hid fun (hx : S.x ≤ 1099511627776) (W : World) (h1 : IsL FL W (.slice fa fn fc) S.d.f) (h2 : IsL SL W (.slice ga (m + 1) gc) S.g) => rroll_any fa ga fn fc (m + 1) gc S W k h1 h2 hn hB hS (by omega) ⟨hB.x.1, hx⟩ hver
  have RF := Lib.hid (roll_facts hn hB hS hk hver)
  have HB := Lib.hid hB
  have HS := Lib.hid hS
  have HN := Lib.hid hn
  have HRO := Lib.hid hr
  have RR := Lib.hid fun W : World => rright_any r W hr.d1
  have HAP := Lib.hid (append.eq_1 S q r)
  have hxb := hB.x
  obtain ⟨ra0, ra1, rt0, rt1, rd1⟩ := hr
  clear hv hg hn hB hS hgl hpos
  unfold stVal at RO ⊢
  unfold recVal at RR ⊢
  go_enter Tryz.func42, Tryz.ntmps42
  go_upto_region 1 with (fail)
  obtain ⟨w0, hW⟩ : ∃ W0, ((w.alloc (.cells #[.slice fa fn fc, .int .i64 S.d.c, .bool S.d.a, .int .i64 S.d.l, .bool S.d.x, .int .i64 S.v, .slice ga (m + 1) gc, .int .i64 S.x, .int .i64 S.s, .int .i64 S.z, .int .u32 S.c] 31)).alloc (.cells #[.int .i64 r.a, .int .i64 r.t, .string r.d] 57)).alloc (.cells #[.slice none 0 0, .int .i64 0, .bool false, .int .i64 0, .bool false, .int .i64 0, .slice none 0 0, .int .i64 0, .int .i64 0, .int .i64 0, .int .u32 0] 31) = W0 := ⟨_, rfl⟩
  rw [hW]
  have T1 := T0.out w0 hW
  clear T0 hW
  obtain ⟨e0, e1, e2⟩ := cells3 T1.e
  have TT := Lib.hid T1
  clear T1
  by_cases hok : Rp.Ok r
  case neg =>
    have HR := Lib.hid (show append S q r = (S, 1) from by rw [HAP.out, if_pos (fun h => hok h.1)])
    rw [okB_no (ok_fault hok)] at RR
    clear hok
    go_wp2_with fail
    refine (RR.out _).mono ?_
    rintro e w1 ⟨rfl, b1⟩
    have T2 := TT.out.keep b1
    clear b1 e0 e1 e2
    obtain ⟨⟨k0, k1, k2, k3, k4⟩, k5, k6, k7, k8, k9, k10⟩ := cellsS T2.d
    obtain ⟨⟨r0, r1, r2, r3, r4⟩, r5, r6, r7, r8, r9, r10⟩ := cellsS T2.q
    have kr := frozenS T2.q
    have TF := Lib.hid T2.fin
    clear T2
    go_wp2_with fail
    obtain ⟨Z3, hZ3, Z4, Z5⟩ := TF.out
    rw [hZ3]
    obtain ⟨⟨s0, s1, s2, s3, s4⟩, s5, s6, s7, s8, s9, s10⟩ := cellsS Z4
    refine bodyPost_ret (v := .tuple #[stVal (.slice fa fn fc) (.slice ga (m + 1) gc) S, .int .i64 1]) (by unfold stVal; simp [results, Tryz.results42, go_sem, s0, s1, s2, s3, s4, s5, s6, s7, s8, s9, s10]) rfl ?_
    rw [HR.out]
    exact ⟨_, _, _, _, _, _, rfl, Z5⟩
  have HOK := Lib.hid hok
  rw [okB_yes (Rp.fault_zero hok)] at RR
  clear hok
  by_cases hat : r.a = S.x
  case neg =>
    have HR := Lib.hid (show append S q r = (S, 1) from by rw [HAP.out, if_pos (fun h => hat h.2)])
    have hat' : (r.a != S.x) = true := by simpa using hat
    clear hat
    go_wp2_with fail
    refine (RR.out _).mono ?_
    rintro e w1 ⟨rfl, b1⟩
    have T2 := TT.out.keep b1
    clear b1 e0 e1 e2
    obtain ⟨e0, e1, e2⟩ := cells3 T2.e
    obtain ⟨⟨k0, k1, k2, k3, k4⟩, k5, k6, k7, k8, k9, k10⟩ := cellsS T2.d
    obtain ⟨⟨r0, r1, r2, r3, r4⟩, r5, r6, r7, r8, r9, r10⟩ := cellsS T2.q
    have kr := frozenS T2.q
    have TF := Lib.hid T2.fin
    clear T2
    go_wp2_with fail
    obtain ⟨Z3, hZ3, Z4, Z5⟩ := TF.out
    rw [hZ3]
    obtain ⟨⟨s0, s1, s2, s3, s4⟩, s5, s6, s7, s8, s9, s10⟩ := cellsS Z4
    refine bodyPost_ret (v := .tuple #[stVal (.slice fa fn fc) (.slice ga (m + 1) gc) S, .int .i64 1]) (by unfold stVal; simp [results, Tryz.results42, go_sem, s0, s1, s2, s3, s4, s5, s6, s7, s8, s9, s10]) rfl ?_
    rw [HR.out]
    exact ⟨_, _, _, _, _, _, rfl, Z5⟩
  have HAT := Lib.hid hat
  have hat' : (r.a != S.x) = false := by simpa using hat
  clear hat
  go_wp2_with fail
  refine (RR.out _).mono ?_
  rintro e w1 ⟨rfl, b1⟩
  have T2 := TT.out.keep b1
  clear b1 e0 e1 e2 TT RR
  obtain ⟨e0, e1, e2⟩ := cells3 T2.e
  obtain ⟨⟨k0, k1, k2, k3, k4⟩, k5, k6, k7, k8, k9, k10⟩ := cellsS T2.d
  obtain ⟨⟨r0, r1, r2, r3, r4⟩, r5, r6, r7, r8, r9, r10⟩ := cellsS T2.q
  have kr := frozenS T2.q
  have TT := Lib.hid T2
  clear T2
  by_cases hend : 1099511627776 ≤ S.x
  · have HR := Lib.hid (show append S q r = (S, 13) from by rw [HAP.out, if_neg (fun h => h ⟨HOK.out, HAT.out⟩), if_pos hend])
    have TF := Lib.hid TT.out.fin
    go_wp2_with fail
    obtain ⟨Z3, hZ3, Z4, Z5⟩ := TF.out
    rw [hZ3]
    obtain ⟨⟨s0, s1, s2, s3, s4⟩, s5, s6, s7, s8, s9, s10⟩ := cellsS Z4
    refine bodyPost_ret (v := .tuple #[stVal (.slice fa fn fc) (.slice ga (m + 1) gc) S, .int .i64 13]) (by unfold stVal; simp [results, Tryz.results42, go_sem, s0, s1, s2, s3, s4, s5, s6, s7, s8, s9, s10]) rfl ?_
    rw [HR.out]
    exact ⟨_, _, _, _, _, _, rfl, Z5⟩
  have HEN := Lib.hid (show append S q r = (if q ≤ (lastG S).z then (if (roll S).2 ≠ 0 then roll S else put (roll S).1 r) else put S r) from by rw [HAP.out, if_neg (fun h => h ⟨HOK.out, HAT.out⟩), if_neg hend])
  have hend' : decide ((1099511627776 : Int) ≤ S.x) = false := by simpa using hend
  have hx1 : S.x ≤ 1099511627776 := by omega
  have RO2 := Lib.hid (RO.out hx1)
  have HLA := Lib.hid (last_at HGL.out.symm)
  obtain ⟨gb, goff, rfl, g0, g1, g2⟩ := sg_at TT.out.g (Nat.lt_succ_self m)
  rw [HLA.out] at g0 g1 g2
  have hmw : IntKind.i64.wrap (((m + 1 : Nat) : Int) - 1) = (m : Int) := by
    rw [show ((m + 1 : Nat) : Int) - 1 = (m : Int) from by omega]
    exact IntWalk.i64_in _ ⟨by omega, by omega⟩
  have hmw2 : IntKind.i64.wrap (m : Int) = (m : Int) := IntWalk.i64_in _ ⟨by omega, by omega⟩
  clear hend HAP RO
  go_upto_if 40 with (fail)
  go_cut [] (fun we => ∃ T : St, Hid (append S q r = put T r ∧ Bd T.d (k + 8) ∧ Stb T ∧ T.g ≠ [] ∧ T.x = S.x) ∧ TaR w (.slice fa fn fc) (.slice (some ⟨gb, goff, none⟩) (m + 1) gc) (.cells #[.int .i64 r.a, .int .i64 r.t, .string r.d] 57) T we)
  case first =>
    by_cases hq : q ≤ (lastG S).z
    · obtain ⟨⟨T, E⟩, hT⟩ : ∃ R, roll S = R := ⟨_, rfl⟩
      have RO3 := RO2.out _ TT.out.f TT.out.g
      rw [hT] at RO3
      have RF2 := RF.out
      rw [hT] at RF2
      have HE := Lib.hid (show append S q r = (if E ≠ 0 then (T, E) else put T r) from by rw [HEN.out, if_pos hq, hT])
      replace RF2 := Lib.hid RF2
      replace RO3 := Lib.hid RO3
      clear hT RO2 RF HEN
      go_wp2_with fail
      refine RO3.out.mono ?_
      rintro e w2 ⟨a1, n1, c1, a2, n2, c2, rfl, ks⟩
      have al := (Below.refl w2.heap.size w2).alloc (Nat.le_refl _) (.cells #[.slice a1 n1 c1, .int .i64 T.d.c, .bool T.d.a, .int .i64 T.d.l, .bool T.d.x, .int .i64 T.v, .slice a2 n2 c2, .int .i64 T.x, .int .i64 T.s, .int .i64 T.z, .int .u32 T.c] 31)
      have X2 := heap_alloc_new w2 (.cells #[.slice a1 n1 c1, .int .i64 T.d.c, .bool T.d.a, .int .i64 T.d.l, .bool T.d.x, .int .i64 T.v, .slice a2 n2 c2, .int .i64 T.x, .int .i64 T.s, .int .i64 T.z, .int .u32 T.c] 31)
      have LR := Lib.hid (TT.out.roll ks al)
      have LG := Lib.hid (TT.out.gone ks al)
      have kf := frozenS (hkeep (hkeep TT.out.d ks.w) al)
      have kr := frozenS (hkeep (hkeep TT.out.q ks.w) al)
      clear k0 k1 k2 k3 k4 k5 k6 k7 k8 k9 k10 r0 r1 r2 r3 r4 r5 r6 r7 r8 r9 r10 e0 e1 e2 g0 g1 g2
      obtain ⟨⟨k0, k1, k2, k3, k4⟩, k5, k6, k7, k8, k9, k10⟩ := cellsS (hkeep (hkeep TT.out.d ks.w) al)
      obtain ⟨⟨r0, r1, r2, r3, r4⟩, r5, r6, r7, r8, r9, r10⟩ := cellsS (hkeep (hkeep TT.out.q ks.w) al)
      obtain ⟨⟨x0, x1, x2, x3, x4⟩, x5, x6, x7, x8, x9, x10⟩ := cellsS X2
      clear al X2 ks
      unfold stVal
      by_cases hz : E = 0
      · subst hz
        go_wp2_with fail
        obtain ⟨Z, hZ, Z1⟩ := LR.out
        rw [hZ]
        go_meet
        case rel => exact ⟨T, ⟨HE.out, RF2.out⟩, _, _, _, _, _, _, Z1⟩
      · have HR := Lib.hid (show append S q r = (T, E) from by rw [HE.out, if_pos hz])
        have hz' := ne_b hz
        clear hz
        go_wp2_with fail
        obtain ⟨Z3, hZ3, Z4, Z5⟩ := LG.out
        rw [hZ3]
        obtain ⟨⟨s0, s1, s2, s3, s4⟩, s5, s6, s7, s8, s9, s10⟩ := cellsS Z4
        refine bodyPost_ret (v := .tuple #[stVal (.slice a1 n1 c1) (.slice a2 n2 c2) T, .int .i64 E]) (by unfold stVal; simp [results, Tryz.results42, go_sem, s0, s1, s2, s3, s4, s5, s6, s7, s8, s9, s10]) rfl ?_
        rw [HR.out]
        exact ⟨_, _, _, _, _, _, rfl, Z5⟩
    · have HE := Lib.hid (show append S q r = put S r from by rw [HEN.out, if_neg hq])
      go_wp2_with fail
      go_meet
      case rel => exact ⟨S, ⟨HE.out, HS.out.mono (by omega), HB.out, HN.out, rfl⟩, _, _, _, _, _, _, TT.out⟩
  case rest =>
    clear k0 k1 k2 k3 k4 k5 k6 k7 k8 k9 k10 r0 r1 r2 r3 r4 r5 r6 r7 r8 r9 r10 kr e0 e1 e2 g0 g1 g2 TT RO2 RF HEN HLA
    obtain ⟨T, HQ, a1, n1, c1, a2, n2, c2, T5⟩ := hcut
    obtain ⟨HAQ, HBT, HTB, HTN, HTX⟩ := HQ.out
    clear HQ
    have RP := Lib.hid fun W : World => rrecput_yes r W HOK.out
    unfold recVal putVal at RP
    rw [Rp.fault_zero HOK.out] at RP
    have hsz : (⟨(Rp.putB r).toArray⟩ : ByteArray).size ≤ 3000 := by
      rw [size_mk_list]
      have := Rp.putB_le r
      omega
    have RL := Lib.hid fun (W : World) (h : IsL SL W (.slice a2 n2 c2) T.g) => rlast_any (.slice a1 n1 c1) (.slice a2 n2 c2) T W h HTN HTB
    have RA := fun (W : World) (n : ByteArray) (h : IsL FL W (.slice a1 n1 c1) T.d.f) => rappend_s HBT (by omega) n ⟨(Rp.putB r).toArray⟩ hsz h
    obtain ⟨⟨D1, E1⟩, hR⟩ : ∃ R, Dp.append T.d (segN (lastG T).b) ⟨(Rp.putB r).toArray⟩ = R := ⟨_, rfl⟩
    have RN := fun (W : World) (h : IsL FL W (.slice a1 n1 c1) T.d.f) => RA W (segN (lastG T).b) h
    rw [hR] at RN
    have HPU := Lib.hid (show append S q r = (if E1 ≠ 0 then ({ T with d := D1 }, E1) else ({ T with d := D1, g := grown T.g (Rp.putB r).length, x := T.x + 1 }, 0)) from by
      rw [HAQ]
      unfold put
      dsimp only
      rw [hR])
    have HPL := Lib.hid (Rp.putB_le r)
    have HSB := Lib.hid (size_mk_list (Rp.putB r))
    unfold stVal at RL
    unfold dkVal at RN
    replace RN := Lib.hid RN
    clear hR RA HAQ hsz
    generalize hPB : (⟨(Rp.putB r).toArray⟩ : ByteArray) = pb at *
    generalize hPL : (Rp.putB r).length = pl at *
    clear hPB hPL
    generalize segN (lastG T).b = nn at *
    obtain ⟨e0, e1, e2⟩ := cells3 T5.e
    obtain ⟨⟨k0, k1, k2, k3, k4⟩, k5, k6, k7, k8, k9, k10⟩ := cellsS T5.d
    have HTX2 := Lib.hid HTX
    have HTN2 := Lib.hid HTN
    have HTB2 := Lib.hid HTB
    replace HBT := Lib.hid HBT
    clear HTX HTN HTB
    go_wp2_with fail
    refine (RP.out _).mono ?_
    rintro e w3 ⟨rfl, b3⟩
    have T6 := T5.keep b3
    clear b3 T5 k0 k1 k2 k3 k4 k5 k6 k7 k8 k9 k10 e0 e1 e2 RP
    obtain ⟨⟨k0, k1, k2, k3, k4⟩, k5, k6, k7, k8, k9, k10⟩ := cellsS T6.d
    have klt := T6.lt
    have TT := Lib.hid T6
    clear T6
    have hb0 : w.heap.size < w3.heap.size := by omega
    clear klt
    go_upto_region 11 with (fail)
    go_cut [12, 13] (fun p e we => ∃ t : Nat, p = .pointer (some ⟨t, 0, none⟩) ∧ e = .int .i64 E1 ∧ TdR w w.heap.size (.slice fa fn fc) (.slice (some ⟨gb, goff, none⟩) (m + 1) gc) (.slice a1 n1 c1) (.slice a2 n2 c2) (.cells #[.int .i64 r.a, .int .i64 r.t, .string r.d] 57) T D1 t we)
    case first =>
      go_region_held3 (fun W => (∀ b o, b < w3.heap.size → W.cell? ⟨b, o, none⟩ = w3.cell? ⟨b, o, none⟩) ∧ Below w3.heap.size w3 W) (first | with_reducible assumption | with_reducible exact KW.dr _ | with_reducible exact KW.al5 (by assumption) | with_reducible exact KW.al (by assumption) | with_reducible exact KW.ad (KW.start _) | with_reducible exact KW.ad (by assumption) | with_reducible exact KW.st5 (by assumption) (by assumption) | with_reducible exact KW.keep (by assumption) (Below.refl _ _).drew | with_reducible exact KW.keep (by assumption) (by assumption)) (first | (go_at_call 78; refine (RL.out _ (by first | exact TT.out.g.keep (KW.bel (by assumption)) | exact TT.out.g.keep (Below.refl _ _).drew)).mono ?_; rintro e w4 ⟨rfl, b4⟩; have h4 : w3.heap.size ≤ w4.heap.size := Nat.le_trans (by first | exact Nat.le_refl _ | exact alloc_drew_size _ _) b4.size; (first | (with_reducible have z4 := hkeep (alloc_drew_new _ _ _) b4; have y4 : w3.heap.size < w4.heap.size := Nat.lt_of_lt_of_le (alloc_drew_lt _ _) b4.size; have x4 : w3.heap.size ≤ w3.heap.size := Nat.le_refl _) | skip)) | (go_at_call 54; refine (RN.out _ (by first | exact TT.out.f.keep (KW.bel (by assumption)) | exact TT.out.f.keep (Below.refl _ _).drew)).mono ?_; rintro e w5 ⟨a5, n5, c5, rfl, k5'⟩; have q5 := k5'.w; have s5 := KW.keep (by assumption) q5; have q4 := KW.at (by assumption) q5; (first | (with_reducible have z5 := hkeep (heap_alloc_new _ _) q5) | (with_reducible have z5 := hkeep z4 q5) | skip); (first | (have zc := cells5 z5; have zf := frozen5 z5; obtain ⟨y0, y1, y2, y3, y4⟩ := zc; obtain ⟨yf0, yf1, yf2, yf3, yf4⟩ := zf) | skip); unfold dkVal))
      all_goals
        rename_i hh
        clear hh s5
        go_wp2_with fail
        go_meet
        case rel =>
          first
            | (refine ⟨_, rfl, rfl, ?_⟩; with_reducible exact TdR.A TT.out q4 k5')
            | (refine ⟨_, rfl, rfl, ?_⟩; with_reducible exact TdR.B TT.out q4 k5' z5 (by assumption) (by first | assumption | simp))
    case rest =>
      clear k0 k1 k2 k3 k4 k5 k6 k7 k8 k9 k10 TT RL RN hb0
      obtain ⟨t, rfl, rfl, a7, n7, c7, Y⟩ := hcut
      obtain ⟨d0, d1, d2, d3, d4⟩ := cells5 Y.d
      obtain ⟨⟨k0, k1, k2, k3, k4⟩, k5, k6, k7, k8, k9, k10⟩ := cellsS Y.y.d
      have kf := frozenS Y.y.d
      have LY := Lib.hid (Y.y.disk Y.f Y.s Y.k)
      clear Y
      go_upto_if 68 with (fail)
      obtain ⟨Z, hZ, T7⟩ := LY.out
      rw [hZ]
      clear hZ LY d0 d1 d2 d3 d4 kf k0 k1 k2 k3 k4 k5 k6 k7 k8 k9 k10
      by_cases hz : E1 = 0
      case neg =>
        have HR := Lib.hid (show append S q r = ({ T with d := D1 }, E1) from by rw [HPU.out, if_pos hz])
        have hz' := ne_b hz
        clear hz
        obtain ⟨⟨k0, k1, k2, k3, k4⟩, k5, k6, k7, k8, k9, k10⟩ := cellsS T7.d
        obtain ⟨⟨r0, r1, r2, r3, r4⟩, r5, r6, r7, r8, r9, r10⟩ := cellsS T7.q
        have kr := frozenS T7.q
        have TF := Lib.hid T7.fin
        clear T7
        go_wp2_with fail
        obtain ⟨Z3, hZ3, Z4, Z5⟩ := TF.out
        rw [hZ3]
        obtain ⟨⟨s0, s1, s2, s3, s4⟩, s5, s6, s7, s8, s9, s10⟩ := cellsS Z4
        refine bodyPost_ret (v := .tuple #[stVal (.slice a7 n7 c7) (.slice a2 n2 c2) { T with d := D1 }, .int .i64 E1]) (by unfold stVal; simp [results, Tryz.results42, go_sem, s0, s1, s2, s3, s4, s5, s6, s7, s8, s9, s10]) rfl ?_
        rw [HR.out]
        exact ⟨_, _, _, _, _, _, rfl, Z5⟩
      subst hz
      have HR := Lib.hid (show append S q r = ({ T with d := D1, g := grown T.g pl, x := T.x + 1 }, 0) from HPU.out)
      clear HPU
      have hgl2 := T7.g.len.1
      dsimp only at hgl2
      have hp2 : 0 < T.g.length := List.length_pos_iff.2 HTN2.out
      obtain ⟨m2, rfl⟩ : ∃ m2, n2 = m2 + 1 := ⟨n2 - 1, by omega⟩
      have HM2 := Lib.hid hgl2.symm
      obtain ⟨gb2, goff2, rfl, _, _, _⟩ := sg_at T7.g (Nat.lt_succ_self m2)
      obtain ⟨i0, hi0, hz0, hz1, hz2⟩ := info_parts info_sg
      have hm2 : m2 + 1 ≤ 1000 := by rw [hgl2]; exact HTB2.out.n
      have al0 := (Below.refl Z.heap.size Z).alloc (Nat.le_refl _) (.cells #[] 65)
      have HNW := Lib.hid (show ∀ j u, (SL.vals T.g)[j]? = some u → (Z.alloc (.cells #[] 65)).cell? ((⟨gb2, goff2, none⟩ : Addr).add j) = some u from (T7.g.keep al0).news)
      have HL1 := Lib.hid (show (SL.vals T.g).length = (m2 + 1) * 3 by rw [Lay.vals_len, ← hgl2]; rfl)
      have HC1 := Lib.hid (show ∀ u ∈ SL.vals T.g, u.oneCell' = true from SL.vals_cells _)
      have HLT := Lib.hid (show T.g.getD m2 Rt.zero = lastG T from last_at hgl2.symm)
      have HLG := HTB2.out.g (lastG T) (by rw [← HLT.out, getD_lt (by omega)]; exact List.getElem_mem _)
      have hmv : IntKind.i64.wrap (((m2 + 1 : Nat) : Int) - 1) = (m2 : Int) := by
        rw [show ((m2 + 1 : Nat) : Int) - 1 = (m2 : Int) from by omega]
        exact IntWalk.i64_in _ ⟨by omega, by omega⟩
      have hmv2 : IntKind.i64.wrap (m2 : Int) = (m2 : Int) := IntWalk.i64_in _ ⟨by omega, by omega⟩
      have TZ := Lib.hid T7
      obtain ⟨xs1, hxs⟩ : ∃ xs, SL.vals T.g = xs := ⟨_, rfl⟩
      rw [hxs] at HNW HL1 HC1
      have HXS := Lib.hid hxs
      obtain ⟨⟨k0, k1, k2, k3, k4⟩, k5, k6, k7, k8, k9, k10⟩ := cellsS (hkeep T7.d al0)
      clear T7 hgl2 hp2 al0 hxs
      have HFO := Lib.hid (show ∀ v3 w4, w4.ownsRow Z.heap.size 65 3 v3 (0 + (m2 + 1)) ([] ++ xs1) → (Z.alloc (.cells #[] 65)).grownBy w4 (some Z.heap.size) → ∃ p cap3, v3 = .slice (some ⟨p, 0, none⟩) (m2 + 1) cap3 ∧ Tg w w.heap.size (.slice fa fn fc) (.slice (some ⟨gb, goff, none⟩) (m + 1) gc) (.slice a7 n7 c7) p (m2 + 1) cap3 { T with d := D1 } (w4.setCell ⟨w.heap.size, 6, none⟩ (.slice (some ⟨p, 0, none⟩) (m2 + 1) cap3)) ∧ w4.heap[w.heap.size]? = some (.cells #[.slice a7 n7 c7, .int .i64 ({ T with d := D1 } : St).d.c, .bool ({ T with d := D1 } : St).d.a, .int .i64 ({ T with d := D1 } : St).d.l, .bool ({ T with d := D1 } : St).d.x, .int .i64 ({ T with d := D1 } : St).v, .slice (some ⟨gb2, goff2, none⟩) (m2 + 1) c2, .int .i64 ({ T with d := D1 } : St).x, .int .i64 ({ T with d := D1 } : St).s, .int .i64 ({ T with d := D1 } : St).z, .int .u32 ({ T with d := D1 } : St).c] 31 (0, 0)) from fun v3 w4 hown hgrow => by
        rw [Nat.zero_add, List.nil_append] at hown
        have B3 := ((Below.refl Z.heap.size Z).alloc (Nat.le_refl _) (.cells #[] 65)).grown hgrow (by simp) (fun q hq => by injection hq with hq; omega)
        rcases hown.2 with ⟨_, h0⟩ | ⟨g3, cap3, cur3, rfl, _⟩
        · omega
        · have HO3 : OwnL SL w4 Z.heap.size (.slice (some ⟨g3, 0, none⟩) (m2 + 1) cap3) T.g := by
            unfold OwnL
            rw [HM2.out, HXS.out]
            exact hown
          exact ⟨g3, cap3, rfl, TZ.out.own B3 HO3, hkeep TZ.out.d B3⟩)
      go_upto_region 16 with (at_builtin; refine wpList_append_own _ rfl _ _ 28 rfl Z.heap.size 65 i0 (.agg #[.int .i64 0, .int .i64 0, .int .i64 0]) 3 24 Tryz.underlying28 hi0 hz0 hz1 hz2 rfl (by decide) _ 0 [] rfl (own_empty12 (heap_alloc_new Z _) (Nat.le_refl _)) ⟨gb2, goff2, none⟩ (m2 + 1) c2 xs1 rfl HL1.out HNW.out HC1.out (by unfold maxLen; omega) (by omega) (by simp) ?_; intro v3 w4 hown3 hgrow3 hnil3; obtain ⟨g3, cap3, rfl, hTg, hrow⟩ := HFO.out _ _ hown3 hgrow3; have LG := Lib.hid hTg; obtain ⟨⟨u0, u1, u2, u3, u4⟩, u5, u6, u7, u8, u9, u10⟩ := cellsS hrow; have uf := frozenS hrow; clear hown3 hgrow3 hnil3 hTg hrow)
      clear k0 k1 k2 k3 k4 k5 k6 k7 k8 k9 k10 u0 u1 u2 u3 u4 u5 u6 u7 u8 u9 u10 uf HFO TZ HNW HL1 HC1 hi0 hz0 hz1 hz2
      have G1 := LG.out
      generalize w4.setCell _ _ = W4 at G1 ⊢
      clear LG
      have hgm : m2 < T.g.length := by rw [HM2.out]; omega
      obtain ⟨⟨k0, k1, k2, k3, k4⟩, k5, k6, k7, k8, k9, k10⟩ := cellsS G1.d
      obtain ⟨g0, g1, g2⟩ := G1.at_ (i := m2) hgm
      have gf := G1.froz (m2 * 3 + 1)
      dsimp only at g0 g1 g2
      have hTd : ({ T with d := D1 } : St).g.getD m2 Rt.zero = lastG T := HLT.out
      rw [HLT.out] at g0 g1 g2
      have hLn := HLG.2.1
      have hLz := HLG.2.2
      have hwn : IntKind.i64.wrap ((lastG T).n + 1) = (lastG T).n + 1 := IntWalk.i64_in _ ⟨by omega, by omega⟩
      have LN := Lib.hid (G1.setN (i := m2) hgm ((lastG T).n + 1))
      clear G1 hTd
      go_upto_region 18 with (fail)
      have G2 := LN.out
      generalize W4.setCell _ _ = W5 at G2 ⊢
      clear LN k0 k1 k2 k3 k4 k5 k6 k7 k8 k9 k10 g0 g1 g2 gf hwn
      dsimp only at G2
      have hgm2 : m2 < (T.g.set m2 ⟨(T.g.getD m2 Rt.zero).b, (lastG T).n + 1, (T.g.getD m2 Rt.zero).z⟩).length := by rw [List.length_set]; exact hgm
      have GD := Lib.hid G2.drew
      obtain ⟨⟨k0, k1, k2, k3, k4⟩, k5, k6, k7, k8, k9, k10⟩ := cellsS GD.out.d
      obtain ⟨g0, g1, g2⟩ := GD.out.at_ (i := m2) hgm2
      have gf := GD.out.froz (m2 * 3 + 2)
      dsimp only at g2
      have hset : (T.g.set m2 ⟨(T.g.getD m2 Rt.zero).b, (lastG T).n + 1, (T.g.getD m2 Rt.zero).z⟩).getD m2 Rt.zero = ⟨(lastG T).b, (lastG T).n + 1, (lastG T).z⟩ := by
        rw [HLT.out]
        simp [List.getD_eq_getElem?_getD, hgm]
      rw [hset] at g2
      dsimp only at g2
      have HZ2 := Lib.hid (GD.out.setZ (i := m2) hgm2 ((lastG T).z + (pl : Int)))
      have hgr : (T.g.set m2 ⟨(T.g.getD m2 Rt.zero).b, (lastG T).n + 1, (T.g.getD m2 Rt.zero).z⟩).set m2 ⟨((T.g.set m2 ⟨(T.g.getD m2 Rt.zero).b, (lastG T).n + 1, (T.g.getD m2 Rt.zero).z⟩).getD m2 Rt.zero).b, ((T.g.set m2 ⟨(T.g.getD m2 Rt.zero).b, (lastG T).n + 1, (T.g.getD m2 Rt.zero).z⟩).getD m2 Rt.zero).n, (lastG T).z + (pl : Int)⟩ = grown T.g pl := by
        rw [hset, List.set_set]
        unfold grown
        rw [show T.g.length - 1 = m2 from by rw [HM2.out]; rfl, HLT.out]
      have HPL2 := HPL.out
      have HSB2 := HSB.out
      have hwz : IntKind.i64.wrap ((lastG T).z + (pl : Int)) = (lastG T).z + (pl : Int) := IntWalk.i64_in _ ⟨by omega, by omega⟩
      dsimp only at HZ2
      rw [hgr] at HZ2
      have hpbz : (pb.size : Int) = (pl : Int) := by omega
      clear hgr hset G2 GD g0 g1
      go_cut [] (fun we => Tg w w.heap.size (.slice fa fn fc) (.slice (some ⟨gb, goff, none⟩) (m + 1) gc) (.slice a7 n7 c7) g3 (m2 + 1) cap3 { T with d := D1, g := grown T.g pl } we)
      case first =>
        go_region
        go_wp2_with fail
        go_meet
        case rel =>
          first
            | exact HZ2.out
            | (rw [HSB2] at *; exact HZ2.out)
      case rest =>
        have G3 := hcut
        clear k0 k1 k2 k3 k4 k5 k6 k7 k8 k9 k10 g2 gf HZ2
        obtain ⟨⟨k0, k1, k2, k3, k4⟩, k5, k6, k7, k8, k9, k10⟩ := cellsS G3.d
        have kf := frozenS G3.d
        dsimp only at k0 k1 k2 k3 k4 k5 k6 k7 k8 k9 k10
        have hxT : T.x = S.x := HTX2.out
        have hwx : IntKind.i64.wrap (T.x + 1) = T.x + 1 := IntWalk.i64_in _ ⟨by omega, by omega⟩
        have LX := Lib.hid (G3.next (T.x + 1))
        clear G3 hxT
        go_upto_region 20 with (fail)
        have G4 := LX.out
        generalize wc.setCell _ _ = W6 at G4 ⊢
        clear k0 k1 k2 k3 k4 k5 k6 k7 k8 k9 k10 kf LX hwx
        dsimp only at G4
        have hgo : ∀ g ∈ grown T.g pl, SL.ok g := fun g hg => by
          have hc : g ∈ T.g ∨ g = ⟨(lastG T).b, (lastG T).n + 1, (lastG T).z + (pl : Int)⟩ := by
            unfold grown at hg
            rw [show T.g.length - 1 = m2 from by rw [HM2.out]; rfl, HLT.out] at hg
            exact List.mem_or_eq_of_mem_set hg
          rcases hc with hc | hc
          · have := HTB2.out.g g hc
            exact ⟨⟨by omega, by omega⟩, ⟨by omega, by omega⟩, ⟨by omega, by omega⟩⟩
          · subst hc
            have := HLG.1
            exact ⟨⟨by show _ ≤ (lastG T).b; omega, by show (lastG T).b ≤ _; omega⟩, ⟨by show _ ≤ (lastG T).n + 1; omega, by show (lastG T).n + 1 ≤ _; omega⟩, ⟨by show _ ≤ (lastG T).z + (pl : Int); omega, by show (lastG T).z + (pl : Int) ≤ _; omega⟩⟩
        have hgm3 : (grown T.g pl).length ≤ maxLen := by
          unfold grown
          rw [List.length_set, HM2.out]
          unfold maxLen
          omega
        have TF := Lib.hid (G4.fin hgm3 hgo)
        obtain ⟨⟨k0, k1, k2, k3, k4⟩, k5, k6, k7, k8, k9, k10⟩ := cellsS G4.d
        obtain ⟨⟨r0, r1, r2, r3, r4⟩, r5, r6, r7, r8, r9, r10⟩ := cellsS G4.q
        have kr := frozenS G4.q
        dsimp only at k0 k1 k2 k3 k4 k5 k6 k7 k8 k9 k10
        clear G4 hgo hgm3
        go_wp2_with fail
        obtain ⟨Z3, hZ3, Z4, Z5⟩ := TF.out
        rw [hZ3]
        obtain ⟨⟨s0, s1, s2, s3, s4⟩, s5, s6, s7, s8, s9, s10⟩ := cellsS Z4
        refine bodyPost_ret (v := .tuple #[stVal (.slice a7 n7 c7) (.slice (some ⟨g3, 0, none⟩) (m2 + 1) cap3) { T with d := D1, g := grown T.g pl, x := T.x + 1 }, .int .i64 0]) (by unfold stVal; simp [results, Tryz.results42, go_sem, s0, s1, s2, s3, s4, s5, s6, s7, s8, s9, s10]) rfl ?_
        rw [HR.out]
        exact ⟨_, _, _, _, _, _, rfl, Z5⟩

end Go.Proofs.YthhhocgpoenigaaGreat.Sto

namespace Go.Proofs.YthhhocgpoenigaaGreat.Sto
open Go.RowKit Go.Proofs.YthhhocgpoenigaaGreat.So Go.Proofs.YthhhocgpoenigaaGreat.Dsk Go.Proofs.YthhhocgpoenigaaGreat.Rts

theorem grown_set12 (w : World) (r o : Nat) (u : Value) : w.grownBy (w.setCell ⟨r, o, none⟩ u) (some r) :=
  ⟨rfl, rfl, rfl, by simp, fun k _ hk => heap_setCell_other w ⟨r, o, none⟩ k u (fun e => hk (by simp [e]))⟩
theorem IsL.grown12 {α : Type} {Y : Lay α} {W W' : World} {v : Value} {l : List α} {r : Option Nat} (h : IsL Y W v l) (g : W.grownBy W' r) (hs : ∀ t, r = some t → Sep v t) : IsL Y W' v l := by
  obtain ⟨a, cap, rfl, h1, h2, h3⟩ := h
  refine ⟨a, cap, rfl, h1, h2, ?_⟩
  rcases h3 with h3 | ⟨b, off, rfl, h4⟩
  · exact .inl h3
  · by_cases h0 : l = []
    · exact .inl h0
    · refine .inr ⟨b, off, rfl, fun j u hj => ?_⟩
      exact g.cell (h4 j u hj) (fun e => hs b (by rw [← e]) _ _ _ rfl (List.length_pos_iff.2 h0) rfl)
/-- A row of the call's own stays where another box is written. -/
theorem own_grown {W W' : World} {B t : Nat} {v : Value} {α : Type} {Y : Lay α} {l : List α} (h : OwnL Y W B v l) (g : W.grownBy W' (some t)) (hn : ∀ q, v.ownBlock = some q → q ≠ t) : OwnL Y W' B v l := by
  refine ⟨h.1, ?_⟩
  rcases h.2 with h2 | ⟨b, cap, cur, rfl, h3, h4, h5⟩
  · exact .inl h2
  · exact .inr ⟨b, cap, cur, rfl, h3, (g.block b (Array.getElem?_eq_some_iff.1 h4).1 (fun e => hn b (by simp [Value.ownBlock]) (by injection e))).trans h4, h5⟩
theorem own_set {W : World} {B t : Nat} {v : Value} {α : Type} {Y : Lay α} {l : List α} (h : OwnL Y W B v l) (hn : ∀ q, v.ownBlock = some q → q ≠ t) (o : Nat) (u : Value) : OwnL Y (W.setCell ⟨t, o, none⟩ u) B v l := own_grown h (grown_set12 W t o u) hn
theorem own_other {W Z : World} {B t : Nat} {v : Value} {α : Type} {Y : Lay α} {l : List α} {v0 v1 v2 v3 v4 v5 v6 v7 v8 v9 v10 : Value} (h : OwnL Y W B v l) (e : Z = ((((((((((W.setCell ⟨t, 0, none⟩ v0).setCell ⟨t, 1, none⟩ v1).setCell ⟨t, 2, none⟩ v2).setCell ⟨t, 3, none⟩ v3).setCell ⟨t, 4, none⟩ v4).setCell ⟨t, 5, none⟩ v5).setCell ⟨t, 6, none⟩ v6).setCell ⟨t, 7, none⟩ v7).setCell ⟨t, 8, none⟩ v8).setCell ⟨t, 9, none⟩ v9).setCell ⟨t, 10, none⟩ v10) (hn : ∀ q, v.ownBlock = some q → q ≠ t) : OwnL Y Z B v l := by
  subst e
  exact own_set (own_set (own_set (own_set (own_set (own_set (own_set (own_set (own_set (own_set (own_set h hn _ _) hn _ _) hn _ _) hn _ _) hn _ _) hn _ _) hn _ _) hn _ _) hn _ _) hn _ _) hn _ _
section
variable {b t : Nat} {x x' : Value} {fv gv : Value} {S : St} {W W' : World}
end

end Go.Proofs.YthhhocgpoenigaaGreat.Sto

namespace Go.Proofs.YthhhocgpoenigaaGreat.Sto
open Go.RowKit Go.Proofs.YthhhocgpoenigaaGreat.So Go.Proofs.YthhhocgpoenigaaGreat.Dsk Go.Proofs.YthhhocgpoenigaaGreat.Rts

/-- Boxes cs from b on, lists of files fs and of segments gs, each apart of all boxes; they lie apart of what the first values lay apart of. -/
structure Ms (w : World) (b : Nat) (fv0 gv0 : Value) (cs : List (Nat × Obj)) (fs : List (Value × List Dp.Fl)) (gs : List (Value × List Rt.Sg)) (W : World) : Prop where
  c : ∀ p ∈ cs, b ≤ p.1 ∧ W.heap[p.1]? = some p.2
  f : ∀ p ∈ fs, IsL FL W p.1 p.2 ∧ (∀ q ∈ cs, Sep p.1 q.1) ∧ ∀ j, j < b → Sep fv0 j → Sep gv0 j → Sep p.1 j
  g : ∀ p ∈ gs, IsL SL W p.1 p.2 ∧ (∀ q ∈ cs, Sep p.1 q.1) ∧ ∀ j, j < b → Sep fv0 j → Sep gv0 j → Sep p.1 j
  le : b ≤ W.heap.size
  w : Below b w W
section
variable {w W W' : World} {b : Nat} {fv0 gv0 : Value} {cs cs' : List (Nat × Obj)} {fs fs' : List (Value × List Dp.Fl)} {gs gs' : List (Value × List Rt.Sg)}
theorem Ms.at_ (h : Ms w b fv0 gv0 cs fs gs W) {t : Nat} {o : Obj} (hm : (t, o) ∈ cs) : W.heap[t]? = some o := (h.c _ hm).2
theorem Ms.lt (h : Ms w b fv0 gv0 cs fs gs W) {t : Nat} {o : Obj} (hm : (t, o) ∈ cs) : t < W.heap.size := (Array.getElem?_eq_some_iff.1 (h.at_ hm)).1
theorem Ms.fl (h : Ms w b fv0 gv0 cs fs gs W) {v : Value} {l : List Dp.Fl} (hm : (v, l) ∈ fs) : IsL FL W v l := (h.f _ hm).1
theorem Ms.sl (h : Ms w b fv0 gv0 cs fs gs W) {v : Value} {l : List Rt.Sg} (hm : (v, l) ∈ gs) : IsL SL W v l := (h.g _ hm).1
theorem Ms.sub (h : Ms w b fv0 gv0 cs fs gs W) (h1 : ∀ p ∈ cs', p ∈ cs) (h2 : ∀ p ∈ fs', p ∈ fs) (h3 : ∀ p ∈ gs', p ∈ gs) : Ms w b fv0 gv0 cs' fs' gs' W :=
  ⟨fun p hp => h.c p (h1 p hp), fun p hp => ⟨(h.f p (h2 p hp)).1, fun q hq => (h.f p (h2 p hp)).2.1 q (h1 q hq), (h.f p (h2 p hp)).2.2⟩, fun p hp => ⟨(h.g p (h3 p hp)).1, fun q hq => (h.g p (h3 p hp)).2.1 q (h1 q hq), (h.g p (h3 p hp)).2.2⟩, h.le, h.w⟩
theorem Ms.keep (h : Ms w b fv0 gv0 cs fs gs W) (k : Below W.heap.size W W') : Ms w b fv0 gv0 cs fs gs W' :=
  ⟨fun p hp => ⟨(h.c p hp).1, hkeep (h.c p hp).2 k⟩, fun p hp => ⟨(h.f p hp).1.keep k, (h.f p hp).2⟩, fun p hp => ⟨(h.g p hp).1.keep k, (h.g p hp).2⟩, Nat.le_trans h.le k.size, h.w.trans (k.mono h.le)⟩
/-- A call on one of the disks has answered another one. -/
theorem Ms.call (h : Ms w b fv0 gv0 cs fs gs W) {v v' : Value} {l : List Dp.Fl} {D' : Dp.Dk} (hm : (v, l) ∈ fs) (k : DkS W v D' v' W') : Ms w b fv0 gv0 cs ((v', D'.f) :: fs) gs W' := by
  have h1 := h.keep k.w
  have h2 := h.f _ hm
  refine ⟨h1.c, fun p hp => ?_, h1.g, h1.le, h1.w⟩
  rcases List.mem_cons.1 hp with rfl | hp
  · exact ⟨k.f, fun q hq => k.s _ (Array.getElem?_eq_some_iff.1 (h.c q hq).2).1 (h2.2.1 q hq), fun j hj a c => k.s _ (Nat.lt_of_lt_of_le hj h.le) (h2.2.2 j hj a c)⟩
  · exact h1.f p hp
/-- A call on one of the stores has answered another one. -/
theorem Ms.call2 (h : Ms w b fv0 gv0 cs fs gs W) {v u v' u' : Value} {l : List Dp.Fl} {m : List Rt.Sg} {T : St} (hm : (v, l) ∈ fs) (hn : (u, m) ∈ gs) (k : StS W v u T v' u' W') : Ms w b fv0 gv0 cs ((v', T.d.f) :: fs) ((u', T.g) :: gs) W' := by
  have h1 := h.keep k.w
  have h2 := h.f _ hm
  have h3 := h.g _ hn
  refine ⟨h1.c, fun p hp => ?_, fun p hp => ?_, h1.le, h1.w⟩
  · rcases List.mem_cons.1 hp with rfl | hp
    · exact ⟨k.f, fun q hq => (k.s _ (Array.getElem?_eq_some_iff.1 (h.c q hq).2).1 (h2.2.1 q hq) (h3.2.1 q hq)).1, fun j hj a c => (k.s _ (Nat.lt_of_lt_of_le hj h.le) (h2.2.2 j hj a c) (h3.2.2 j hj a c)).1⟩
    · exact h1.f p hp
  · rcases List.mem_cons.1 hp with rfl | hp
    · exact ⟨k.g, fun q hq => (k.s _ (Array.getElem?_eq_some_iff.1 (h.c q hq).2).1 (h2.2.1 q hq) (h3.2.1 q hq)).2, fun j hj a c => (k.s _ (Nat.lt_of_lt_of_le hj h.le) (h2.2.2 j hj a c) (h3.2.2 j hj a c)).2⟩
    · exact h1.g p hp
/-- Another list of segments, in memory that was not there. -/
theorem Ms.fresh (h : Ms w b fv0 gv0 cs fs gs W) {v : Value} {l : List Rt.Sg} (k : Below W.heap.size W W') (hl : IsL SL W' v l) (hs : ∀ j, j < W.heap.size → Sep v j) : Ms w b fv0 gv0 cs fs ((v, l) :: gs) W' := by
  have h1 := h.keep k
  refine ⟨h1.c, h1.f, fun p hp => ?_, h1.le, h1.w⟩
  rcases List.mem_cons.1 hp with rfl | hp
  · exact ⟨hl, fun q hq => hs _ (Array.getElem?_eq_some_iff.1 (h.c q hq).2).1, fun j hj _ _ => hs j (Nat.lt_of_lt_of_le hj h.le)⟩
  · exact h1.g p hp
/-- Another box. -/
theorem Ms.alloc (h : Ms w b fv0 gv0 cs fs gs W) (A : Array Value) (T : TypeId) : Ms w b fv0 gv0 ((W.heap.size, .cells A T) :: cs) fs gs (W.alloc (.cells A T)) := by
  have h1 := h.keep ((Below.refl W.heap.size W).alloc (Nat.le_refl _) (.cells A T))
  refine ⟨fun p hp => ?_, fun p hp => ⟨(h1.f p hp).1, fun q hq => ?_, (h1.f p hp).2.2⟩, fun p hp => ⟨(h1.g p hp).1, fun q hq => ?_, (h1.g p hp).2.2⟩, h1.le, h1.w⟩
  · rcases List.mem_cons.1 hp with rfl | hp
    · exact ⟨h.le, heap_alloc_new W _⟩
    · exact h1.c p hp
  · rcases List.mem_cons.1 hq with rfl | hq
    · exact IsL.sep_new (h.f p hp).1 (Nat.le_refl _)
    · exact (h1.f p hp).2.1 q hq
  · rcases List.mem_cons.1 hq with rfl | hq
    · exact IsL.sep_new (h.g p hp).1 (Nat.le_refl _)
    · exact (h1.g p hp).2.1 q hq
/-- A box is written. -/
theorem Ms.write (h : Ms w b fv0 gv0 cs fs gs W) {t : Nat} {o o' : Obj} (hm : (t, o) ∈ cs) (hg : W.grownBy W' (some t)) (hn : W'.heap[t]? = some o') (hc : ∀ p ∈ cs', p = (t, o') ∨ (p ∈ cs ∧ p.1 ≠ t)) : Ms w b fv0 gv0 cs' fs gs W' := by
  have hb := (h.c _ hm).1
  have hsz := hg.size
  have sep : ∀ {v : Value}, (∀ q ∈ cs, Sep v q.1) → ∀ q ∈ cs', Sep v q.1 := fun {v} hv q hq => by
    rcases hc q hq with rfl | ⟨h1, _⟩
    · exact (show Sep v t from hv (t, o) hm)
    · exact hv q h1
  refine ⟨fun p hp => ?_, fun p hp => ⟨IsL.grown12 (h.f p hp).1 hg (fun j e => by injection e with e; rw [← e]; exact (h.f p hp).2.1 _ hm), sep (h.f p hp).2.1, (h.f p hp).2.2⟩, fun p hp => ⟨IsL.grown12 (h.g p hp).1 hg (fun j e => by injection e with e; rw [← e]; exact (h.g p hp).2.1 _ hm), sep (h.g p hp).2.1, (h.g p hp).2.2⟩, Nat.le_trans h.le hsz, h.w.grown hg h.le fun j e => by injection e with e; rw [← e]; exact hb⟩
  rcases hc p hp with rfl | ⟨h1, h2⟩
  · exact ⟨hb, hn⟩
  · exact ⟨(h.c p h1).1, (hg.block p.1 (Array.getElem?_eq_some_iff.1 (h.c p h1).2).1 (fun e => h2 (by injection e))).trans (h.c p h1).2⟩
/-- A store's call answers one of them. -/
theorem Ms.sts (h : Ms w w.heap.size fv0 gv0 cs fs gs W) {v u : Value} {T : St} (hm : (v, T.d.f) ∈ fs) (hn : (u, T.g) ∈ gs) : StS w fv0 gv0 T v u W :=
  ⟨h.fl hm, h.sl hn, fun j hj a c => ⟨(h.f _ hm).2.2 j hj a c, (h.g _ hn).2.2 j hj a c⟩, h.w⟩
end
theorem grown5 (W : World) (t : Nat) (y0 y1 y2 y3 y4 : Value) : W.grownBy (((((W.setCell ⟨t, 0, none⟩ y0).setCell ⟨t, 1, none⟩ y1).setCell ⟨t, 2, none⟩ y2).setCell ⟨t, 3, none⟩ y3).setCell ⟨t, 4, none⟩ y4) (some t) :=
  Lib.grownBy_trans (Lib.grownBy_trans (Lib.grownBy_trans (Lib.grownBy_trans (grown_set12 _ _ _ _) (grown_set12 _ _ _ _)) (grown_set12 _ _ _ _)) (grown_set12 _ _ _ _)) (grown_set12 _ _ _ _)
theorem grown11 (W : World) (t : Nat) (y0 y1 y2 y3 y4 y5 y6 y7 y8 y9 y10 : Value) : W.grownBy (((((((((((W.setCell ⟨t, 0, none⟩ y0).setCell ⟨t, 1, none⟩ y1).setCell ⟨t, 2, none⟩ y2).setCell ⟨t, 3, none⟩ y3).setCell ⟨t, 4, none⟩ y4).setCell ⟨t, 5, none⟩ y5).setCell ⟨t, 6, none⟩ y6).setCell ⟨t, 7, none⟩ y7).setCell ⟨t, 8, none⟩ y8).setCell ⟨t, 9, none⟩ y9).setCell ⟨t, 10, none⟩ y10) (some t) :=
  Lib.grownBy_trans (Lib.grownBy_trans (Lib.grownBy_trans (Lib.grownBy_trans (Lib.grownBy_trans (Lib.grownBy_trans (grown5 W t y0 y1 y2 y3 y4) (grown_set12 _ _ _ _)) (grown_set12 _ _ _ _)) (grown_set12 _ _ _ _)) (grown_set12 _ _ _ _)) (grown_set12 _ _ _ _)) (grown_set12 _ _ _ _)
/-- The first five cells of a store's box: another disk. -/
theorem heap_disk {W : World} {k : Nat} {T : TypeId} {a0 a1 a2 a3 a4 a5 a6 a7 a8 a9 a10 : Value} (hh : W.heap[k]? = some (.cells #[a0, a1, a2, a3, a4, a5, a6, a7, a8, a9, a10] T (0, 0))) (y0 y1 y2 y3 y4 : Value) :
    (((((W.setCell ⟨k, 0, none⟩ y0).setCell ⟨k, 1, none⟩ y1).setCell ⟨k, 2, none⟩ y2).setCell ⟨k, 3, none⟩ y3).setCell ⟨k, 4, none⟩ y4).heap[k]? = some (.cells #[y0, y1, y2, y3, y4, a5, a6, a7, a8, a9, a10] T (0, 0)) :=
  heap_setCell_same _ _ 4 _ _ _ (heap_setCell_same _ _ 3 _ _ _ (heap_setCell_same _ _ 2 _ _ _ (heap_setCell_same _ _ 1 _ _ _ (heap_setCell_same _ _ 0 _ _ _ hh))))
section
variable {w W : World} {b : Nat} {fv0 gv0 : Value} {cs cs' : List (Nat × Obj)} {fs : List (Value × List Dp.Fl)} {gs : List (Value × List Rt.Sg)}
/-- A disk is laid in a box of its own. -/
theorem Ms.lay5 (h : Ms w b fv0 gv0 cs fs gs W) {t : Nat} {T : TypeId} {a0 a1 a2 a3 a4 : Value} (hm : (t, Obj.cells #[a0, a1, a2, a3, a4] T) ∈ cs) (y0 y1 y2 y3 y4 : Value) (hc : ∀ p ∈ cs', p = (t, Obj.cells #[y0, y1, y2, y3, y4] T) ∨ (p ∈ cs ∧ p.1 ≠ t)) :
    ∃ Z, ((((W.setCell ⟨t, 0, none⟩ y0).setCell ⟨t, 1, none⟩ y1).setCell ⟨t, 2, none⟩ y2).setCell ⟨t, 3, none⟩ y3).setCell ⟨t, 4, none⟩ y4 = Z ∧ Ms w b fv0 gv0 cs' fs gs Z :=
  ⟨_, rfl, h.write hm (grown5 W t y0 y1 y2 y3 y4) (heap_set5 (h.at_ hm) y0 y1 y2 y3 y4) hc⟩
/-- A disk is laid in a store's box. -/
theorem Ms.layD (h : Ms w b fv0 gv0 cs fs gs W) {t : Nat} {T : TypeId} {a0 a1 a2 a3 a4 a5 a6 a7 a8 a9 a10 : Value} (hm : (t, Obj.cells #[a0, a1, a2, a3, a4, a5, a6, a7, a8, a9, a10] T) ∈ cs) (y0 y1 y2 y3 y4 : Value) (hc : ∀ p ∈ cs', p = (t, Obj.cells #[y0, y1, y2, y3, y4, a5, a6, a7, a8, a9, a10] T) ∨ (p ∈ cs ∧ p.1 ≠ t)) :
    ∃ Z, ((((W.setCell ⟨t, 0, none⟩ y0).setCell ⟨t, 1, none⟩ y1).setCell ⟨t, 2, none⟩ y2).setCell ⟨t, 3, none⟩ y3).setCell ⟨t, 4, none⟩ y4 = Z ∧ Ms w b fv0 gv0 cs' fs gs Z :=
  ⟨_, rfl, h.write hm (grown5 W t y0 y1 y2 y3 y4) (heap_disk (h.at_ hm) y0 y1 y2 y3 y4) hc⟩
/-- A store is laid in a box. -/
theorem Ms.lay11 (h : Ms w b fv0 gv0 cs fs gs W) {t : Nat} {T : TypeId} {a0 a1 a2 a3 a4 a5 a6 a7 a8 a9 a10 : Value} (hm : (t, Obj.cells #[a0, a1, a2, a3, a4, a5, a6, a7, a8, a9, a10] T) ∈ cs) (y0 y1 y2 y3 y4 y5 y6 y7 y8 y9 y10 : Value) (hc : ∀ p ∈ cs', p = (t, Obj.cells #[y0, y1, y2, y3, y4, y5, y6, y7, y8, y9, y10] T) ∨ (p ∈ cs ∧ p.1 ≠ t)) :
    ∃ Z, ((((((((((W.setCell ⟨t, 0, none⟩ y0).setCell ⟨t, 1, none⟩ y1).setCell ⟨t, 2, none⟩ y2).setCell ⟨t, 3, none⟩ y3).setCell ⟨t, 4, none⟩ y4).setCell ⟨t, 5, none⟩ y5).setCell ⟨t, 6, none⟩ y6).setCell ⟨t, 7, none⟩ y7).setCell ⟨t, 8, none⟩ y8).setCell ⟨t, 9, none⟩ y9).setCell ⟨t, 10, none⟩ y10 = Z ∧ Ms w b fv0 gv0 cs' fs gs Z := by
  obtain ⟨Z, e1, e2, _⟩ := set11 (h.at_ hm) y0 y1 y2 y3 y4 y5 y6 y7 y8 y9 y10
  exact ⟨Z, e1, h.write hm (by rw [← e1]; exact grown11 W t y0 y1 y2 y3 y4 y5 y6 y7 y8 y9 y10) e2 hc⟩
/-- One cell of a box is written. -/
theorem Ms.lay1 (h : Ms w b fv0 gv0 cs fs gs W) {t : Nat} {T : TypeId} {A : Array Value} (hm : (t, Obj.cells A T) ∈ cs) (i : Nat) (y : Value) (hc : ∀ p ∈ cs', p = (t, Obj.cells (A.setIfInBounds i y) T) ∨ (p ∈ cs ∧ p.1 ≠ t)) :
    ∃ Z, W.setCell ⟨t, i, none⟩ y = Z ∧ Ms w b fv0 gv0 cs' fs gs Z :=
  ⟨_, rfl, h.write hm (grown_set12 W t i y) (heap_setCell_same _ _ i _ _ _ (h.at_ hm)) hc⟩
end

end Go.Proofs.YthhhocgpoenigaaGreat.Sto
