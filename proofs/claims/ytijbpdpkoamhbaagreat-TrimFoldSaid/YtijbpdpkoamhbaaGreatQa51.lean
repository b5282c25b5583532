/-
  Parts of what the laws of this seat stand on: Law13F.
-/
import Derived.Test.YtijbpdpkoamhbaaGreatQa1
import Derived.Test.YtijbpdpkoamhbaaGreatQa50
set_option maxRecDepth 100000
set_option maxHeartbeats 6400000
namespace Go.Proofs.YtijbpdpkoamhbaaGreat
namespace Trm
open Go.RowKit So Dsk Rts Sto
theorem info_rl : (Tryz.prog.info? 47).map (fun i => (i.zero, i.size, i.bytes)) = some (some (.agg #[.int .i64 0, .int .i64 0, .string ByteArray.empty]), 3, 32) := by kernel_rfl
theorem str_at {w : World} {a : Option Addr} {n c : Nat} {l : List ByteArray} (h : IsStrs w (.slice a n c) l) {i : Nat} (hi : i < n) : ∃ b off, a = some ⟨b, off, none⟩ ∧ w.cell? ⟨b, off + i, none⟩ = some (.string (l.getD i ⟨#[]⟩)) := by
 obtain ⟨a', cap, e, _, _, h3⟩ := h
 injection e with e1 e2 e3
 rcases h3 with h3 | ⟨b, off, h4, h5⟩
 · rw [h3] at e2; simp at e2; omega
 · subst e1
   exact ⟨b, off, h4, h5 i (by omega)⟩
theorem rl_slice {w : World} {B n : Nat} {v : Value} {rs : List Rp.Rec} (h : OwnL RL w B v rs) (hn : rs.length = n) : ∃ a c, v = .slice a n c := by
 unfold OwnL at h
 rw [hn] at h
 exact own_slice1 h
theorem fold13 (g : Row13) (w : World) (hg : g.Ok w) : Calls Tryz.prog 6 #[g.val] w fun e w' => e = .returned (.bool true) ∧ Below w.heap.size w w' := by
 obtain ⟨q, pa, pn, pc, l, ev, x, y⟩ := g
 obtain ⟨hq, h, he, hx, hy⟩ := hg
 dsimp only at hq h he hx hy
 unfold Row13.val
 dsimp only
 have hln : pn = l.length := by obtain ⟨_, _, e, _⟩ := h; injection e
 have hsz : ∀ d ∈ l, d.size ≤ 9223372036854775807 := by obtain ⟨_, _, _, _, hs, _⟩ := h; intro d hd; have := hs d hd; unfold maxLen at this; omega
 have A0 := zid ((Below.refl w.heap.size w).alloc (Nat.le_refl _) (.cells #[.int .u8 q, .slice pa pn pc, .int .u8 ev, .int .i64 x, .int .i64 y] 54))
 have X0 := heap_alloc_new w (.cells #[.int .u8 q, .slice pa pn pc, .int .u8 ev, .int .i64 x, .int .i64 y] 54)
 have hlt0 : w.heap.size < (w.alloc (.cells #[.int .u8 q, .slice pa pn pc, .int .u8 ev, .int .i64 x, .int .i64 y] 54)).heap.size := by simp
 have HL := zid h
 have HLN := zid hln
 have HSZ := zid hsz
 have AW := zid fun W : World => awake13 W
 have hw20 : IntKind.i64.wrap (20 + q) = 20 + q := IntWalk.i64_in _ ⟨by omega, by omega⟩
 have hwq : IntKind.i64.wrap q = q := IntWalk.i64_in _ ⟨by omega, by omega⟩
 have hwe : IntKind.i64.wrap ev = ev := IntWalk.i64_in _ ⟨by omega, by omega⟩
 have hwe1 : IntKind.i64.wrap (1 + ev) = 1 + ev := IntWalk.i64_in _ ⟨by omega, by omega⟩
 have hnz : 1 + ev ≠ 0 := by omega
 have hpm : pn ≤ 9223372036854775807 := by obtain ⟨_, _, _, hm, _⟩ := h; rw [hln]; unfold maxLen at hm; omega
 clear h hsz hln
 go_enter Tryz.func6, Tryz.ntmps6
 go_upto_region 1 with (fail)
 generalize w.alloc _ = w00 at A0 X0 hlt0 ⊢
 obtain ⟨d0, d1, d2, d3, d4⟩ := cells5 X0
 go_cut [3, 4, 5, 6] (fun v1 v2 v3 p we => v1 = .int .u8 q ∧ v2 = .slice pa pn pc ∧ v3 = .int .u8 ev ∧ ∃ t : Nat, p = .pointer (some ⟨t, 0, none⟩) ∧ we.heap[t]? = some (.cells #[.int .i64 x, .int .i64 y] 23 (0, 0)) ∧ w00.heap.size ≤ t ∧ Below w00.heap.size w00 we)
 case first =>
  clear HL AW
  go_region_held3 (fun W => (∀ b o, b < w00.heap.size → W.cell? ⟨b, o, none⟩ = w00.cell? ⟨b, o, none⟩) ∧ Below w00.heap.size w00 W) (first | with_reducible assumption | with_reducible exact kw_al2 (by assumption) | with_reducible exact kw_st2 (by assumption) (Nat.le_refl _) | with_reducible exact KW.dr _ | with_reducible exact KW.al11 (by assumption) | with_reducible exact KW.al (by assumption) | with_reducible exact KW.ad (KW.start _) | with_reducible exact KW.ad (by assumption) | with_reducible exact KW.st11 (by assumption) (Nat.le_refl _) | with_reducible exact KW.st11 (by assumption) (by assumption) | with_reducible exact KW.keep (by assumption) (Below.refl _ _).drew | with_reducible exact KW.keep (by assumption) (by assumption)) (fail)
  all_goals
   rename_i hh
   have hz := hh.2
   clear hh
   go_wp2_with fail
   go_meet
   case rel => exact ⟨rfl, rfl, rfl, _, rfl, heap_alloc_new w00 _, Nat.le_refl _, hz⟩
 case rest =>
 clear d0 d1 d2 d3 d4
 obtain ⟨rfl, rfl, rfl, t6, rfl, X6, hs6, LT⟩ := hcut
 replace A0 := zid (A0.out.trans (LT.mono A0.out.size))
 have HX6 := zid X6
 have ht6 : w.heap.size ≤ t6 := Nat.le_trans (Nat.le_of_lt hlt0) hs6
 clear X6 X0 LT hs6 hlt0
 by_cases h40 : 40 < pn
 case pos =>
  have hi : (40 : Int) < (pn : Int) := by omega
  clear HL HLN HSZ HX6 h40
  go_wp2_with fail
  refine (AW.out _).mono ?_
  rintro e w2 ⟨rfl, b2⟩
  have L2 := zid (A0.out.trans (b2.mono A0.out.size))
  clear b2
  go_wp2_with fail
  go_ret
  exact ⟨rfl, L2.out⟩
 case neg =>
 have hp40 : pn ≤ 40 := by omega
 have hi : ¬ (40 : Int) < (pn : Int) := by omega
 have CQ := zid fun W : World => rcreate12_any none 0 0 Dp.empty W 0 (IsL.nil W none 0) bd_emp (by decide)
 have F0 := zid (Fo.new (q := 20 + q) (by omega) l)
 have hc0 := (Lg.Log.new (q := 20 + q) (by omega)).1
 obtain ⟨⟨S0, E0⟩, hc⟩ : ∃ R, createT Dp.empty = R := ⟨_, rfl⟩
 rw [hc] at CQ F0 hc0
 obtain rfl : E0 = 0 := hc0
 unfold dkVal at CQ
 clear hc h40
 go_wp2_with fail
 refine (CQ.out _).mono ?_
 rintro e w1 ⟨a1, n1, c1, a2, n2, c2, rfl, ks⟩
 have htt : t6 < w1.heap.size := Nat.lt_of_lt_of_le (Array.getElem?_eq_some_iff.1 HX6.out).1 ks.w.size
 have al1 := (Below.refl w1.heap.size w1).alloc (Nat.le_refl _) (.cells #[.slice a1 n1 c1, .int .i64 S0.d.c, .bool S0.d.a, .int .i64 S0.d.l, .bool S0.d.x, .int .i64 S0.v, .slice a2 n2 c2, .int .i64 S0.x, .int .i64 S0.s, .int .i64 S0.z, .int .u32 S0.c] 32)
 have V0 := zid (show Fv w t6 w1.heap.size x y (.slice none 0 0) [] S0 _ from ⟨⟨_, _, _, _, _, _, Bx.first (P := withRow w1.heap.size (.slice none 0 0)) ks (fun p hp => by unfold withRow at hp; simp [Value.ownBlock] at hp; omega)⟩, OwnL.nil _ _, hkeep (hkeep HX6.out ks.w) al1, ⟨ht6, htt⟩, (A0.out.trans (ks.w.mono A0.out.size)).trans (al1.mono (Nat.le_trans A0.out.size ks.w.size))⟩)
 clear ks al1 CQ A0 HX6 hi
 unfold stVal
 dsimp only
 go_wp2_with fail
 generalize w1.alloc _ = W1 at V0 ⊢
 generalize w1.heap.size = t at V0 htt ⊢
 go_loopw [9, 10] (fun v i wr => ∃ (k : Nat) (S : St), k ≤ pn ∧ i = .int .i64 k ∧ Hid (Fo (20 + q) l k (2 * k) S) ∧ Hid (Fv w t6 t x y v ((l.take k).map recD) S wr)) (fun _ i _ => pn - (intOf i).toNat)
 case atStart => exact ⟨0, S0, Nat.zero_le _, rfl, F0, by rw [List.take_zero]; exact V0⟩
 case round =>
  clear V0 F0
  obtain ⟨k, S, hk, rfl, HF, HV⟩ := hrel
  have hrl : ((l.take k).map recD).length = k := by rw [List.length_map, List.length_take, ← HLN.out]; omega
  obtain ⟨va, vc, rfl⟩ := rl_slice HV.out.o hrl
  obtain ⟨a5, n5, c5, a6, n6, c6, P1⟩ := HV.out.b
  by_cases hlt : k < pn
  · have hstb := HF.out.g.stb (by omega) (by omega) (by omega)
    have hd := HSZ.out (l.getD k ⟨#[]⟩) (by rw [getD_lt (by rw [← HLN.out]; exact hlt)]; exact List.getElem_mem _)
    have AP := fun (W : World) (h1 : IsL FL W (.slice a5 n5 c5) S.d.f) (h2 : IsL SL W (.slice a6 n6 c6) S.g) => rappend12_any a5 a6 n5 c5 n6 c6 S (20 + q) ⟨k, 0, l.getD k ⟨#[]⟩⟩ W _ h1 h2 HF.out.g.ne hstb HF.out.g.d (by omega) (by have := HF.out.g.v; omega) ⟨by show _ ≤ (k : Int); omega, by show (k : Int) ≤ _; omega, by show (-9223372036854775808 : Int) ≤ 0; decide, by show (0 : Int) ≤ 9223372036854775807; decide, hd⟩
    have FA := fun e => HF.out.app (by omega) (show k < l.length by rw [← HLN.out]; exact hlt) (by omega) (by omega) e
    obtain ⟨⟨T, E⟩, hT⟩ : ∃ R, So.append S (20 + q) ⟨k, 0, l.getD k ⟨#[]⟩⟩ = R := ⟨_, rfl⟩
    rw [hT] at AP FA
    replace FA := zid (show E = 0 → Fo (20 + q) l (k + 1) (2 * k + 1) T from FA)
    have HTK := zid (show (l.take (k + 1)).map recD = (l.take k).map recD ++ [recD (l.getD k ⟨#[]⟩)] from by rw [List.take_succ_eq_append_getElem (by rw [← HLN.out]; exact hlt), List.map_append, getD_lt (by rw [← HLN.out]; exact hlt)]; rfl)
    unfold stVal recVal at AP
    dsimp only at AP
    replace AP := zid AP
    obtain ⟨sb, so, rfl, c0⟩ := str_at (HL.out.below HV.out.w (Nat.le_refl _)) hlt
    have hsb := block_lt_of_cell c0
    generalize l.getD k ⟨#[]⟩ = dd at AP HTK c0 hd
    have HC0 := zid c0
    obtain ⟨⟨k0, k1, k2, k3, k4⟩, k5, k6, k7, k8, k9, k10⟩ := cellsS P1.d
    have hb0 : t < wr.heap.size := P1.lt
    have hP := zid HV.out.hP
    have BH := zid P1
    clear P1 hstb hT
    go_upto_region 9 with (fail)
    go_cut [11, 12] (fun p e we => ∃ t2 : Nat, p = .pointer (some ⟨t2, 0, none⟩) ∧ e = .int .i64 E ∧ BxR (withRow t (.slice va k vc)) t2 T we ∧ Below wr.heap.size wr we ∧ wr.heap.size ≤ t2)
    case first =>
     clear FA HTK HF AW HV HL HSZ HC0
     go_region_held3 (fun W => (∀ b o, b < wr.heap.size → W.cell? ⟨b, o, none⟩ = wr.cell? ⟨b, o, none⟩) ∧ Below wr.heap.size wr W) (first | with_reducible assumption | with_reducible exact KW.dr _ | with_reducible exact KW.al11 (by assumption) | with_reducible exact KW.al (by assumption) | with_reducible exact KW.ad (KW.start _) | with_reducible exact KW.ad (by assumption) | with_reducible exact KW.st11 (by assumption) (Nat.le_refl _) | with_reducible exact KW.st11 (by assumption) (by assumption) | with_reducible exact KW.keep (by assumption) (Below.refl _ _).drew | with_reducible exact KW.keep (by assumption) (by assumption)) (first | (go_at_call 21; refine (AP.out _ (by first | exact BH.out.f.keep (KW.bel (by assumption)) | exact BH.out.f.keep (Below.refl _ _).drew) (by first | exact BH.out.g.keep (KW.bel (by assumption)) | exact BH.out.g.keep (Below.refl _ _).drew)).mono ?_; rintro e w5 ⟨a7, n7, c7, a8, n8, c8, rfl, k5'⟩; have q5 := k5'.w; have s5 := KW.keep (by assumption) q5; have q4 := KW.at (by assumption) q5; (first | (with_reducible have z5 := hkeep (alloc_drew_new _ _ _) q5) | skip); (first | (have zc := cellsS z5; have zf := frozenS z5; obtain ⟨⟨y0, y1, y2, y3, y4⟩, y5, y6, y7, y8, y9, y10⟩ := zc) | skip); unfold stVal))
     all_goals
      rename_i hh
      clear hh s5
      go_wp2_with fail
      go_meet
      case rel =>
       first
        | (refine ⟨_, rfl, rfl, ?_, ?_, ?_⟩; (with_reducible exact BxR.A BH.out q4 k5' hP.out); (with_reducible exact BxR.bA q4 k5' _); exact Nat.le_trans q4.size k5'.w.size)
        | (refine ⟨_, rfl, rfl, ?_, ?_, ?_⟩; (with_reducible exact BxR.B BH.out q4 k5' hP.out z5 (Nat.le_refl _) (alloc_drew_lt _ _)); (with_reducible exact BxR.bB q4 k5' (Nat.le_refl _)); exact Nat.le_refl _)
    case rest =>
     clear k0 k1 k2 k3 k4 k5 k6 k7 k8 k9 k10 c0 AP
     obtain ⟨t2, rfl, rfl, BT, LT, ht2⟩ := hcut
     have V1 := zid (HV.out.keep LT)
     have c0 : wc.cell? ⟨sb, so + k, none⟩ = some (.string dd) := (LT.cell (p := ⟨sb, so + k, none⟩) hsb).trans HC0.out
     have hsb2 := block_lt_of_cell c0
     have HBT := zid BT
     have ht2n : ∀ r, (Value.slice va k vc).ownBlock = some r → r ≠ t2 := fun r hr => by have := hP.out r (withRow_row hr); omega
     have htn : t2 ≠ t := by omega
     clear LT HV BH BT hP HC0
     by_cases hE : E = 0
     case neg =>
      have e1 : (E != 0) = true := by simpa using hE
      clear hE FA HTK HF c0
      go_wp2_with fail
      refine (AW.out _).mono ?_
      rintro e w5 ⟨rfl, b5⟩
      have L5 := zid (V1.out.w.trans (b5.mono V1.out.w.size))
      clear b5
      go_wp2_with fail
      go_ret
      exact ⟨rfl, L5.out⟩
     case pos =>
     subst hE
     replace FA := zid (FA.out rfl)
     obtain ⟨i0, hi0, hz0, hz1, hz2⟩ := info_parts info_rl
     have HBW := (Below.refl wc.heap.size wc).alloc (Nat.le_refl _) (.cells #[.int .i64 0, .int .i64 0, .string dd] 47)
     have hbt : t + 1 ≤ wc.heap.size := V1.out.lt
     have HOX := zid (show (wc.alloc (.cells #[.int .i64 0, .int .i64 0, .string dd] 47)).ownsRow (t + 1) 47 3 (.slice va k vc) k (RL.vals ((l.take k).map recD)) from by
      have h := World.ownsRow.alloc V1.out.o (.cells #[.int .i64 0, .int .i64 0, .string dd] 47)
      rw [hrl] at h
      exact h)
     have HGR := zid (show ∀ v' w3, w3.ownsRow (t + 1) 47 3 v' (k + 1) (RL.vals ((l.take k).map recD) ++ [.int .i64 0, .int .i64 0, .string dd]) → (wc.alloc (.cells #[.int .i64 0, .int .i64 0, .string dd] 47)).grownBy w3 (Value.slice va k vc).ownBlock → Moved (wc.alloc (.cells #[.int .i64 0, .int .i64 0, .string dd] 47)) (.slice va k vc) v' → Hid (Fv w t6 t x y v' ((l.take (k + 1)).map recD) S w3) ∧ Hid (BxR (withRow t v') t2 T w3) from fun v' w3 h hg hm => by
      have g1 := (V1.out.keep HBW).grow (r := recD dd) (by rw [hrl]; exact h) hg hm
      rw [← HTK.out] at g1
      exact ⟨zid g1, zid ((HBT.out.keep HBW).grow hg ht2n hm)⟩)
     have HNEW := zid (news_new wc wc.heap.size [.int .i64 0, .int .i64 0, .string dd] 47 rfl)
     have HC1 := zid (show ∀ u ∈ [Value.int .i64 0, Value.int .i64 0, Value.string dd], u.oneCell' = true from RL.one (recD dd))
     have hrl2 : ((l.take (k + 1)).map recD).length = k + 1 := by rw [List.length_map, List.length_take, ← HLN.out]; omega
     generalize hxs : RL.vals ((l.take k).map recD) = xs at *
     clear hxs HBW HTK HF V1 HBT ht2n hrl
     go_upto_region 13 with (at_builtin; refine wpList_append_where _ rfl _ _ 56 rfl (t + 1) 47 i0 (.agg #[.int .i64 0, .int .i64 0, .string ByteArray.empty]) 3 32 Tryz.underlying56 hi0 hz0 hz1 hz2 rfl (by decide) _ _ _ rfl HOX.out ⟨wc.heap.size, 0, none⟩ 1 1 [.int .i64 0, .int .i64 0, .string dd] rfl rfl HNEW.out HC1.out (by decide) (by unfold maxLen; omega) (by omega) (by simp; omega) ?_; intro v' w3 hown' hgrow3 hmov3; obtain ⟨V3, B3⟩ := HGR.out v' w3 hown' hgrow3 hmov3; clear hown' hgrow3 hmov3)
     obtain ⟨vb, vd, rfl⟩ := rl_slice V3.out.o hrl2
     obtain ⟨a7, n7, c7, a8, n8, c8, B4⟩ := B3.out
     obtain ⟨a9, n9, c9, a0, n0, c00, P3⟩ := V3.out.b
     obtain ⟨⟨x0, x1, x2, x3, x4⟩, x5, x6, x7, x8, x9, x10⟩ := cellsS B4.d
     obtain ⟨⟨k0, k1, k2, k3, k4⟩, k5, k6, k7, k8, k9, k10⟩ := cellsS P3.d
     have kf := frozenS P3.d
     have LY := zid (V3.out.set (T := T) B4.f B4.g B4.s ⟨_, _, _, rfl⟩ ⟨_, _, _, rfl⟩)
     clear B3 B4 P3 V3 HGR HNEW HC1 HOX hi0 hz0 hz1 hz2
     go_upto_region 14 with (fail)
     obtain ⟨Z, hZ, V4⟩ := LY.out
     rw [hZ]
     have HV4 := zid V4
     clear hZ LY k0 k1 k2 k3 k4 k5 k6 k7 k8 k9 k10 kf x0 x1 x2 x3 x4 x5 x6 x7 x8 x9 x10
     obtain ⟨a9, n9, c9, a0, n0, c00, P4⟩ := V4.b
     obtain ⟨⟨k0, k1, k2, k3, k4⟩, k5, k6, k7, k8, k9, k10⟩ := cellsS P4.d
     clear V4
     have hk1 : IntKind.i64.wrap ((k : Int) + 1) = (k : Int) + 1 := IntWalk.i64_in _ ⟨by omega, by omega⟩
     by_cases hr : (k : Int) % (1 + ev) = 0
     · have er : ((k : Int) % (1 + ev) == 0) = true := by simpa using hr
       have TR := fun (W : World) (h1 : IsL FL W (.slice a9 n9 c9) T.d.f) (h2 : IsL SL W (.slice a0 n0 c00) T.g) => trim13g FA.out.g (by omega) (by omega) (by omega) h1 h2 hx hy
       have FX := FA.out.trim (by omega) (by omega) x y
       obtain ⟨⟨X, E2⟩, hT2⟩ : ∃ R, Lg.trimT T x y = R := ⟨_, rfl⟩
       rw [hT2] at TR FX
       replace FX := zid (show Fo (20 + q) l (k + 1) (2 * (k + 1)) X from FX.more (by omega))
       unfold stVal at TR
       replace TR := zid TR
       have HP4 := zid P4
       obtain ⟨m0, m1⟩ := cells2 HV4.out.h
       clear P4 hT2 FA
       go_wp2_with fail
       refine (TR.out _ HP4.out.f HP4.out.g).mono ?_
       rintro e w5 ⟨b1, i1, d1, b2, i2, d2, rfl, ks⟩
       have LY := zid (HV4.out.lay HP4.out ks ⟨_, _, _, rfl⟩ ⟨_, _, _, rfl⟩)
       have kf := frozenS (hkeep HP4.out.d ks.w)
       have kk := cellsS (hkeep HP4.out.d ks.w)
       clear ks TR k0 k1 k2 k3 k4 k5 k6 k7 k8 k9 k10 m0 m1
       obtain ⟨⟨k0, k1, k2, k3, k4⟩, k5, k6, k7, k8, k9, k10⟩ := kk
       unfold stVal
       dsimp only
       go_upto_region 16 with (fail)
       obtain ⟨Z5, hZ5, V5⟩ := LY.out
       rw [hZ5]
       have HV5 := zid V5
       clear hZ5 LY k0 k1 k2 k3 k4 k5 k6 k7 k8 k9 k10 kf HP4 HV4
       obtain ⟨a3, n3, c3, a4, n4, c4, P5⟩ := V5.b
       obtain ⟨⟨k0, k1, k2, k3, k4⟩, k5, k6, k7, k8, k9, k10⟩ := cellsS P5.d
       have hn4 : ((n4 : Int) == 0) = false := by
        have h1 : n4 = X.g.length := P5.g.len.1
        have h2 := List.length_pos_iff.2 FX.out.g.ne
        simp; omega
       clear V5 P5
       go_wp2_with fail
       go_roundw
       case rel => exact ⟨k + 1, X, by omega, by go_num, FX, HV5⟩
       case measure => simp [intOf]; omega
     · have er : ((k : Int) % (1 + ev) == 0) = false := by simpa using hr
       have FX := zid (show Fo (20 + q) l (k + 1) (2 * (k + 1)) T from FA.out.more (by omega))
       have hn4 : ((n0 : Int) == 0) = false := by
        have h1 := P4.g.len.1
        have h2 := List.length_pos_iff.2 FX.out.g.ne
        simp; omega
       clear P4 FA
       go_wp2_with fail
       go_roundw
       case rel => exact ⟨k + 1, T, by omega, by go_num, FX, HV4⟩
       case measure => simp [intOf]; omega
  · obtain rfl : k = pn := by omega
    have hll : (l.take k).map recD = l.map recD := by rw [List.take_of_length_le (by rw [← HLN.out]; exact Nat.le_refl _)]
    have hok : ∀ r ∈ l.map recD, r.d.size ≤ 64 := fun r hr => by
     obtain ⟨d, hd, rfl⟩ := List.mem_map.1 hr
     exact HF.out.sz d (by rw [List.take_of_length_le (by rw [← HLN.out]; exact Nat.le_refl _)]; exact hd)
    have hmap : (l.map recD).map (fun r => r.d) = l := by rw [List.map_map]; exact List.map_id' _
    have hst := HF.out.st
    have hlo := HF.out.g.lo
    rw [List.take_of_length_le (by rw [← HLN.out]; exact Nat.le_refl _)] at hst
    have hrk : (l.map recD).length = k := by rw [List.length_map, ← HLN.out]
    have RK := zid (show ∀ W, Below wr.heap.size wr W → IsRecs W (.slice va k vc) (l.map recD) from fun W b => by
     have o := HV.out.o.keep b
     rw [hll] at o
     unfold OwnL at o
     rw [hrk] at o
     exact IsRecs.own o (by unfold maxLen; omega) (fun r hr => by
      have hz := hok r hr
      obtain ⟨d, hd, rfl⟩ := List.mem_map.1 hr
      exact ⟨by show (0 : Int) ≤ 0; decide, by show (0 : Int) ≤ 1099511627776; decide, by show (0 : Int) ≤ 0; decide, by show (0 : Int) ≤ 1099511627776; decide, hz⟩))
    have FW := zid fun (W : World) (h : IsRecs W (.slice va k vc) (l.map recD)) => few_any (.slice va k vc) (l.map recD) 40 W (by decide) h
    rw [fewB_yes (show ((l.map recD).length : Int) ≤ 40 by omega) (fun r hr => by have := hok r hr; omega)] at FW
    have RF := fun (W : World) (h : IsRecs W (.slice va k vc) (l.map recD)) => rfold13_any va k vc (l.map recD) W h hok
    rw [hmap, ← hst] at RF
    replace RF := zid RF
    have SS := fun (W : World) (h1 : IsL FL W (.slice a5 n5 c5) S.d.f) (h2 : IsL SL W (.slice a6 n6 c6) S.g) => state13g HF.out.g (by omega) (by omega) (by omega) h1 h2 (o := S.x) hlo.2.1 (Int.le_refl _)
    unfold stVal at SS
    replace SS := zid SS
    have SM := zid fun (v1 v2 : Value) (W : World) (h1 : IsPrs W v1 (Lg.stateT S S.x)) (h2 : IsPrs W v2 (Lg.stateT S S.x)) => fsame_yes v1 v2 _ W h1 h2
    have HP1 := zid P1
    clear P1 hll hok hmap hst hlo hrk hrl HF
    go_wp2_with fail
    refine (AW.out _).mono ?_
    rintro e w5 ⟨rfl, b5⟩
    have B5 := zid b5
    clear b5
    go_wp2_with fail
    refine (FW.out _ (RK.out _ B5.out)).mono ?_
    rintro e w6 ⟨rfl, rfl⟩
    obtain ⟨⟨k0, k1, k2, k3, k4⟩, k5, k6, k7, k8, k9, k10⟩ := cellsS (hkeep HP1.out.d B5.out)
    go_wp2_with fail
    refine (SS.out _ (HP1.out.f.keep B5.out) (HP1.out.g.keep B5.out)).mono ?_
    rintro e w7 ⟨qa, qn, qc, rfl, hp1, b7⟩
    have B7 := zid (B5.out.trans (b7.mono B5.out.size))
    have HP7 := zid hp1
    clear b7 hp1 k0 k1 k2 k3 k4 k5 k6 k7 k8 k9 k10
    go_wp2_with fail
    refine (RF.out _ (RK.out _ B7.out)).mono ?_
    rintro e w8 ⟨ra, rn, rc, rfl, hp2, b8⟩
    have HP8 := zid hp2
    have B8 := zid b8
    clear b8 hp2
    go_wp2_with fail
    refine (SM.out _ _ _ (HP7.out.below B8.out (Nat.le_refl _)) HP8.out).mono ?_
    rintro e w9 ⟨rfl, b9⟩
    have L9 := zid (show Below w.heap.size w w9 from by
     have h1 := HV.out.w.trans (B7.out.mono HV.out.w.size)
     have h2 := h1.trans (B8.out.mono h1.size)
     exact h2.trans (b9.mono h2.size))
    clear b9
    go_wp2_with fail
    go_ret
    exact ⟨rfl, L9.out⟩
end Trm
end Go.Proofs.YtijbpdpkoamhbaaGreat
