/-
  Parts of what the laws of this seat stand on: RoSeg, StoSml, RoUse.
-/
import Derived.Test.YtooipogbmfkeeaaGreatQt1
import Derived.Deep.RegionHeld3
import Derived.Test.YtooipogbmfkeeaaGreatQt12
import Derived.Test.YtooipogbmfkeeaaGreatQt13
import Derived.Test.YtooipogbmfkeeaaGreatQt21
import Derived.Test.YtooipogbmfkeeaaGreatQt30
import Derived.Test.YtooipogbmfkeeaaGreatQt31
set_option maxRecDepth 100000
set_option maxHeartbeats 6400000
namespace Go.Proofs.YtooipogbmfkeeaaGreat
namespace Ro
open Go.RowKit So Dsk Rts Sto
theorem full_few (L : List UInt8) (b : Int) : (Gp.full L b).1.length ≤ L.length ∧ (Gp.full L b).2.1 ≤ L.length := by
 obtain ⟨ps, k, e, h1, h2, _⟩ := Gp.full_good L b
 rw [h1]
 have h3 := h2.few
 have h4 := h2.le
 dsimp only
 omega
theorem recs_slice {w : World} {v : Value} {rs : List Rp.Rec} (h : IsRecs w v rs) : ∃ a c, v = .slice a rs.length c := by
 obtain ⟨a, c, e, _⟩ := h
 exact ⟨a, c, e⟩
def SegsOut (w : World) (R : Option (List Rt.Sg)) (e : Ending) (w' : World) : Prop := ∃ a n c, e = .returned (.tuple #[.slice a n c, .bool R.isSome]) ∧ IsL Rts.SL w' (.slice a n c) (R.getD []) ∧ (∀ j, j < w.heap.size → Sep (.slice a n c) j) ∧ Below w.heap.size w w'
theorem SegsOut.no {w w' : World} (b : Below w.heap.size w w') : SegsOut w none (.returned (.tuple #[.slice none 0 0, .bool false])) w' := ⟨_, _, _, rfl, IsL.nil _ _ _, fun _ _ => Sep.nil _ _ _, b⟩
theorem read_cases (D : Dp.Dk) (n : ByteArray) : (dat D n = none ∧ readVal D.f n = .tuple #[.string ⟨#[]⟩, .int .i64 7]) ∨ ∃ s : ByteArray, dat D n = some s.data.toList ∧ readVal D.f n = .tuple #[.string s, .int .i64 0] ∧ s.size ≤ Dp.used D.f := by
 unfold dat
 rcases h : Dp.get D.f n with _ | f
 · exact .inl ⟨rfl, readVal_no h⟩
 · exact .inr ⟨f.d, rfl, readVal_yes h, used_mem (Dp.get_mem h).1⟩
theorem segments14_any (fa : Option Addr) (fn fc : Nat) (D : Dp.Dk) (ia : Option Addr) (ln ic : Nat) (l : List Int) (w : World) (k : Nat) (hv : IsL FL w (.slice fa fn fc) D.f) (hS : Bd D k) (hk : k ≤ 100000) (hi : IsL Mfs.IL w (.slice ia ln ic) l) (hl : l.length ≤ 1000) (hb : ∀ b ∈ l, 0 ≤ b ∧ b ≤ 1099511627776) :
 Calls Tryz.prog 52 #[dkVal (.slice fa fn fc) D, .slice ia ln ic] w (SegsOut w (Lg.segA D l)) := by
 obtain ⟨i0, hi0, hz0, hz1, hz2⟩ := info_parts info_sg
 have hln := hi.len.1
 rw [← hln] at hl
 have HU := zid hS.u
 have RD := zid fun (W : World) (n : ByteArray) (h : IsL FL W (.slice fa fn fc) D.f) => Dsk.read_any (.slice fa fn fc) D n W h hS.r.2.1 (by have := hS.n; omega)
 have HV := zid hv
 have HI := zid hi
 have HB := zid fun j (h : j < ln) => hb (l.getD j 0) (by rw [getD_lt (by omega)]; exact List.getElem_mem _)
 have HSB := zid (show ∀ x ∈ l.map (Lg.segG D), Rts.SgB x from fun x hx => by
  obtain ⟨b, hbm, rfl⟩ := List.mem_map.1 hx
  have h1 := hb b hbm
  have h2 := full_few ((dat D (segN b)).getD []) b
  have h3 : ((dat D (segN b)).getD []).length ≤ Dp.used D.f := by
   rcases read_cases D (segN b) with ⟨h, _⟩ | ⟨s, h, _, h4⟩
   · rw [h]; exact Nat.zero_le _
   · rw [h]; exact h4
  have h4 := hS.u
  refine ⟨?_, ?_, ?_⟩ <;> unfold Lg.segG <;> dsimp only <;> omega)
 have HLN := zid hln
 have HT := zid fun j (h : j < ln) => (show (l.map (Lg.segG D)).take (j + 1) = (l.map (Lg.segG D)).take j ++ [Lg.segG D (l.getD j 0)] by
  have hj : j < l.length := by omega
  rw [List.take_succ_eq_append_getElem (by rw [List.length_map]; exact hj), List.getElem_map, getD_lt hj])
 have HTL := zid fun j (h : j ≤ ln) => (show ((l.map (Lg.segG D)).take j).length = j by rw [List.length_take, List.length_map]; omega)
 have G0 := zid (heap_alloc_new w (.cells #[.slice fa fn fc, .int .i64 D.c, .bool D.a, .int .i64 D.l, .bool D.x] 24))
 have B0 := zid ((Below.refl w.heap.size w).alloc (Nat.le_refl _) (.cells #[.slice fa fn fc, .int .i64 D.c, .bool D.a, .int .i64 D.l, .bool D.x] 24))
 clear hv hS hi hb hln
 unfold dkVal at RD ⊢
 go_enter Tryz.func52, Tryz.ntmps52
 go_wp2_with fail
 generalize World.alloc w _ = w0 at G0 B0 ⊢
 have hs0 := (Array.getElem?_eq_some_iff.1 G0.out).1
 go_loopw [6, 15] (fun v i wr => ∃ j : Nat, j ≤ ln ∧ i = .int .i64 j ∧ Hid (OwnL Rts.SL wr w0.heap.size v ((l.map (Lg.segG D)).take j) ∧ Below w0.heap.size w0 wr ∧ ∀ i, i < j → Lg.SegGood D l i)) (fun _ i _ => ln - (intOf i).toNat)
 case atStart => exact ⟨0, Nat.zero_le _, rfl, zid ⟨by rw [List.take_zero]; exact OwnL.nil _ _, Below.refl _ _, fun i h => absurd h (Nat.not_lt_zero i)⟩⟩
 case round =>
  obtain ⟨j, hj, rfl, HR⟩ := hrel
  have HBW := zid (B0.out.trans (HR.out.2.1.mono B0.out.size))
  by_cases hlt : j < ln
  case neg =>
   obtain rfl : j = ln := by omega
   have HO := zid HR.out.1
   have hO := HR.out.1
   rw [List.take_of_length_le (by rw [List.length_map, HLN.out]; exact Nat.le_refl _)] at hO
   have HY := zid (Lg.segA_yes (D := D) (l := l) (by rw [← HLN.out]; exact HR.out.2.2))
   have HOO := zid (own_base hO B0.out.size)
   have HSP := zid (own_sep (t := 0) HOO.out)
   obtain ⟨va, vc, rfl⟩ := own_slice hO
   have HIS := zid (hO.is (by rw [List.length_map, ← HLN.out]; unfold maxLen; omega) HSB.out)
   have HSEP := zid (show ∀ t, t < w.heap.size → Sep _ t from fun t ht => own_sep HOO.out ht)
   clear hO HO HSP HR
   go_wp2_with fail
   go_ret2
   rw [HY.out]
   exact ⟨va, _, vc, rfl, HIS.out, HSEP.out, HBW.out⟩
  case pos =>
  obtain ⟨ab, ao, rfl, c0⟩ := Mfs.il_at (HI.out.keep HBW.out) hlt
  have hbb := HB.out j hlt
  obtain ⟨j1, hj1⟩ : ∃ j1, j + 1 = j1 := ⟨_, rfl⟩
  have hTj := HT.out j hlt
  rw [hj1] at hTj
  obtain ⟨L1, hL1⟩ : ∃ L1, (l.map (Lg.segG D)).take j1 = L1 := ⟨_, rfl⟩
  rw [hL1] at hTj
  have HTj := zid hTj
  have HL1 := zid hL1
  have hTJ := HTL.out j hj
  have HC1 := zid fun h : j1 < ln => (show wr.cell? ⟨ab, ao + j1, none⟩ = some (.int .i64 (l.getD j1 0)) by
   obtain ⟨b', o', e, c1⟩ := Mfs.il_at (HI.out.keep HBW.out) h
   injection e with e
   injection e with e1 e2
   subst e1 e2
   exact c1)
  have HGD := zid (show Lg.SegGood D l j ↔ (dat D (segN (l.getD j 0)) ≠ none ∧ (j1 < ln → (Gp.full ((dat D (segN (l.getD j 0))).getD []) (l.getD j 0)).2.2 = 0 ∧ l.getD j 0 + ((Gp.full ((dat D (segN (l.getD j 0))).getD []) (l.getD j 0)).1.length : Int) = l.getD j1 0)) by
   unfold Lg.SegGood
   rw [hj1, ← HLN.out])
  have HNO := zid fun h : ¬ Lg.SegGood D l j => Lg.segA_no (by rw [← HLN.out]; exact hlt) h
  have HGS := zid fun h : Lg.SegGood D l j => (show ∀ i, i < j1 → Lg.SegGood D l i from fun i hi => by
   rcases Nat.lt_or_ge i j with h1 | h1
   · exact HR.out.2.2 i h1
   · rw [show i = j by omega]; exact h)
  have HSG := zid (show Rts.SL.enc (Lg.segG D (l.getD j 0)) = [.int .i64 (l.getD j 0), .int .i64 ((Gp.full ((dat D (segN (l.getD j 0))).getD []) (l.getD j 0)).1.length : Nat), .int .i64 ((Gp.full ((dat D (segN (l.getD j 0))).getD []) (l.getD j 0)).2.1 : Nat)] from rfl)
  have HOW := zid HR.out.1
  have hbl := HR.out.2.1
  have hbs := hbl.size
  obtain ⟨d0, d1, d2, d3, d4⟩ := cells5 (hkeep G0.out hbl)
  have hwl : w.heap.size < wr.heap.size := Nat.lt_of_lt_of_le hs0 hbs
  have hal := block_lt_of_cell c0
  have HBL := zid hbl
  have hw1 : IntKind.i64.wrap ((ln : Int) - 1) = (ln : Int) - 1 := IntWalk.i64_in _ ⟨by omega, by omega⟩
  have hw2 : IntKind.i64.wrap ((j : Int) + 1) = (j1 : Int) := by rw [← hj1]; exact IntWalk.i64_in _ ⟨by omega, by omega⟩
  generalize (l.map (Lg.segG D)).take j = L0 at *
  generalize Lg.segG D (l.getD j 0) = sg at *
  generalize l.getD j 0 = b at *
  generalize l.getD j1 0 = bn at *
  have SN := zid fun W : World => seg_any b W (by omega)
  have RB := fun (W : World) (h : IsL FL W (.slice fa fn fc) D.f) => RD.out W (segN b) h
  clear HR hTj hL1 hbl hj
  rcases read_cases D (segN b) with ⟨h1, h2⟩ | ⟨s, h1, h2, h3⟩
  case inl =>
   rw [h2] at RB
   unfold segN at RB
   replace RB := zid RB
   have HF := zid (HNO.out fun h => (HGD.out.1 h).1 h1)
   clear h1 h2 HNO HGD HGS HSG hw1 hw2 hTJ
   go_upto_region 5 with (fail)
   go_region_held3 (fun W => (∀ b o, b < wr.heap.size → W.cell? ⟨b, o, none⟩ = wr.cell? ⟨b, o, none⟩) ∧ Below wr.heap.size wr W) (first | with_reducible assumption | with_reducible exact KW.dr _ | with_reducible exact KW.keep (by assumption) (Below.refl _ _).drew | with_reducible exact KW.keep (by assumption) (by assumption)) (first | (go_at_call 54; refine (SN.out _).mono ?_; rintro e w5 ⟨rfl, q5⟩; have s5 := KW.keep (by assumption) q5) | (go_at_call 22; refine (RB.out _ (HV.out.keep (HBW.out.trans ((KW.bel (by assumption)).mono HBW.out.size)))).mono ?_; rintro e w5 ⟨rfl, q5⟩; have s5 := KW.keep (by assumption) q5))
   all_goals
    rename_i hh
    have LB := zid (HBW.out.trans ((KW.bel hh).mono HBW.out.size))
    clear hh
    go_wp2_with fail
    go_ret2
    rw [HF.out]
    exact SegsOut.no LB.out
  case inr =>
  rw [h2] at RB
  unfold segN at RB
  replace RB := zid RB
  rw [h1, Option.getD_some] at HGD HSG
  have hs9 : s.size ≤ 1000000000 := by have := HU.out; omega
  have SC := zid fun W : World => Go.Proofs.YtooipogbmfkeeaaGreat.scan9_any s b W hs9 (by omega) (by omega)
  have hfw := full_few s.data.toList b
  have hsl : s.data.toList.length = s.size := rfl
  rw [hsl] at hfw
  generalize Gp.full s.data.toList b = F at *
  obtain ⟨ps, kk, er⟩ := F
  dsimp only at HGD HSG hfw
  obtain ⟨pn, hpn⟩ : ∃ pn, ps.length = pn := ⟨_, rfl⟩
  have HPN := zid (show (ps.map Prod.fst).length = pn by rw [List.length_map]; exact hpn)
  rw [hpn] at HGD HSG hfw
  have hw3 : IntKind.i64.wrap (b + (pn : Int)) = b + (pn : Int) := IntWalk.i64_in _ ⟨by omega, by omega⟩
  have HF := zid fun (h : j1 < ln) (h' : er ≠ 0 ∨ b + (pn : Int) ≠ bn) => HNO.out fun hg => by
   obtain ⟨g1, g2⟩ := (HGD.out.1 hg).2 h
   rcases h' with h' | h'
   · exact h' g1
   · exact h' g2
  have HG := zid fun (h : j1 < ln → er = 0 ∧ b + (pn : Int) = bn) => HGS.out (HGD.out.2 ⟨by simp, h⟩)
  clear h1 h2 h3 hpn HNO HGD HGS hfw hsl
  go_upto_region 5 with (fail)
  go_cut [9, 10] (fun v e wc => v = .string s ∧ e = .int .i64 0 ∧ Below wr.heap.size wr wc)
  case first =>
   clear hw1 hw2 hw3
   go_region_held3 (fun W => (∀ b o, b < wr.heap.size → W.cell? ⟨b, o, none⟩ = wr.cell? ⟨b, o, none⟩) ∧ Below wr.heap.size wr W) (first | with_reducible assumption | with_reducible exact KW.dr _ | with_reducible exact KW.keep (by assumption) (Below.refl _ _).drew | with_reducible exact KW.keep (by assumption) (by assumption)) (first | (go_at_call 54; refine (SN.out _).mono ?_; rintro e w5 ⟨rfl, q5⟩; have s5 := KW.keep (by assumption) q5) | (go_at_call 22; refine (RB.out _ (HV.out.keep (HBW.out.trans ((KW.bel (by assumption)).mono HBW.out.size)))).mono ?_; rintro e w5 ⟨rfl, q5⟩; have s5 := KW.keep (by assumption) q5))
   all_goals
    rename_i hh
    have LB := zid (KW.bel hh)
    clear hh
    go_wp2_with fail
    go_meet
    case rel => exact ⟨rfl, rfl, LB.out⟩
  case rest =>
  obtain ⟨rfl, rfl, bc⟩ := hcut
  have hb5 := bc.size
  go_wp2_with fail
  refine (SC.out _).mono ?_
  rintro e w5 ⟨rv, rfl, hrv, b5⟩
  obtain ⟨ra, rc, rfl⟩ := recs_slice hrv
  have bw5 := bc.trans (b5.mono hb5)
  rw [HPN.out]
  have HB5 := zid (HBW.out.trans (bw5.mono HBW.out.size))
  have HBL5 := zid (HBL.out.trans (bw5.mono hbs))
  have HO5 := zid (HOW.out.keep bw5)
  have hC1 := fun h : j1 < ln => (bw5.cell (p := ⟨ab, ao + j1, none⟩) hal).trans (HC1.out h)
  clear hrv b5 bc bw5 d0 d1 d2 d3 d4 c0 SC SN RB HC1
  dsimp only
  by_cases hgood : j1 < ln → er = 0 ∧ b + (pn : Int) = bn
  case neg =>
   have hlast : j1 < ln := Classical.byContradiction fun h => hgood fun h' => absurd h' h
   have hcell := hC1 hlast
   have hj2 : (j : Int) < (ln : Int) - 1 := by omega
   have hj3 : (j1 : Int) < (ln : Int) := by omega
   by_cases he : er = 0
   · subst he
     have hne : b + (pn : Int) ≠ bn := fun h => hgood fun _ => ⟨rfl, h⟩
     replace HF := zid (HF.out hlast (.inr hne))
     have hne' : (b + (pn : Int) == bn) = false := by simpa using hne
     clear hgood HG hC1 hne HOW HO5 HTj HSG
     go_wp2_with fail
     go_ret2
     rw [HF.out]
     exact SegsOut.no HB5.out
   · replace HF := zid (HF.out hlast (.inl he))
     have he' : (er != 0) = true := by simpa using he
     clear hgood HG hC1 hcell HOW HO5 HTj HSG
     go_wp2_with fail
     go_ret2
     rw [HF.out]
     exact SegsOut.no HB5.out
  case pos =>
  replace HG := zid (HG.out hgood)
  have HO6 := HO5.out
  unfold OwnL at HO6
  rw [hTJ] at HO6
  have HOX := zid (show (w5.alloc (.cells [Value.int .i64 b, .int .i64 (pn : Int), .int .i64 (kk : Int)].toArray 75)).ownsRow w0.heap.size 75 3 u6 j (Rts.SL.vals L0) from HO6.alloc _)
  have HNEW := zid (news_new w5 w5.heap.size [Value.int .i64 b, .int .i64 (pn : Int), .int .i64 (kk : Int)] 75 rfl)
  have HLT := zid fun k' (h : _) => HO5.out.lt k' h
  have HBX := zid (HBL5.out.alloc HBL5.out.size (.cells [Value.int .i64 b, .int .i64 (pn : Int), .int .i64 (kk : Int)].toArray 75))
  have HSN := zid fun (v' : Value) (w3 : World) (h : w3.ownsRow w0.heap.size 75 3 v' (j + 1) (Rts.SL.vals L0 ++ [Value.int .i64 b, .int .i64 (pn : Int), .int .i64 (kk : Int)])) => (show OwnL Rts.SL w3 w0.heap.size v' L1 by
   rw [HTj.out]
   exact OwnL.snoc (n := L0.length) (by rw [hTJ]; exact h) HSG.out.symm rfl)
  have hs5 := HBL5.out.size
  have hd : (decide ((j : Int) < (ln : Int) - 1) = false) ∨ (j1 < ln ∧ er = 0 ∧ b + (pn : Int) = bn) := by
   by_cases h : j1 < ln
   · exact .inr ⟨h, hgood h⟩
   · exact .inl (by simp; omega)
  clear HF HO6 HSG HTj HOW HBL5 HO5
  rcases hd with hd | ⟨hlast, rfl, rfl⟩
  case inl =>
   clear hgood hC1
   go_wp2_with (at_builtin; refine wpList_append_own _ rfl _ _ 27 rfl w0.heap.size 75 i0 (.agg #[.int .i64 0, .int .i64 0, .int .i64 0]) 3 24 Tryz.underlying27 hi0 hz0 hz1 hz2 rfl (by decide) _ _ _ rfl HOX.out ⟨w5.heap.size, 0, none⟩ 1 1 [.int .i64 b, .int .i64 (pn : Int), .int .i64 (kk : Int)] (by simp [go_sem]) rfl HNEW.out (by simp [Value.oneCell']) (by unfold maxLen; omega) (by omega) (by simp; omega) ?_; intro v' w3 hown' hgrow3 hnil3)
   go_roundw
   case rel => exact ⟨j1, by omega, rfl, zid ⟨by rw [HL1.out]; exact HSN.out v' w3 hown', HBX.out.grown hgrow3 (by simp; omega) (fun q hq => (HLT.out q hq).1), HG.out⟩⟩
   case measure => simp [intOf]; omega
  case inr =>
   have hcell := hC1 hlast
   have hj2 : (j : Int) < (ln : Int) - 1 := by omega
   have hj3 : (j1 : Int) < (ln : Int) := by omega
   clear hgood hC1
   go_wp2_with (at_builtin; refine wpList_append_own _ rfl _ _ 27 rfl w0.heap.size 75 i0 (.agg #[.int .i64 0, .int .i64 0, .int .i64 0]) 3 24 Tryz.underlying27 hi0 hz0 hz1 hz2 rfl (by decide) _ _ _ rfl HOX.out ⟨w5.heap.size, 0, none⟩ 1 1 [.int .i64 b, .int .i64 (pn : Int), .int .i64 (kk : Int)] (by simp [go_sem]) rfl HNEW.out (by simp [Value.oneCell']) (by unfold maxLen; omega) (by omega) (by simp; omega) ?_; intro v' w3 hown' hgrow3 hnil3)
   go_roundw
   case rel => exact ⟨j1, by omega, rfl, zid ⟨by rw [HL1.out]; exact HSN.out v' w3 hown', HBX.out.grown hgrow3 (by simp; omega) (fun q hq => (HLT.out q hq).1), HG.out⟩⟩
   case measure => simp [intOf]; omega
end Ro
namespace Sto
open Go.RowKit So Dsk Rts
theorem floor12_any (fv gv : Value) (S : St) (w : World) (hg : IsL Rts.SL w gv S.g) (_ : S.g ≠ []) :
 Calls Tryz.prog 95 #[stVal fv gv S] w fun e w' => e = .returned (.int .i64 (floor S)) ∧ Below w.heap.size w w' := by
 obtain ⟨ga, gn, gc, rfl⟩ : ∃ a n c, gv = .slice a n c := by obtain ⟨a, c, h, _⟩ := hg; exact ⟨a, _, c, h⟩
 have hgl := hg.len.1
 have hpos : 0 < S.g.length := List.length_pos_iff.2 (by assumption)
 obtain ⟨m, rfl⟩ : ∃ m, gn = m + 1 := ⟨gn - 1, by omega⟩
 have HG := zid fun (W : World) (b : Below w.heap.size w W) => sg_at (hg.keep b) (Nat.zero_lt_succ m)
 have HL := zid (show S.g.getD 0 Rt.zero = S.g.headD Rt.zero by cases S.g <;> rfl)
 have HF := zid (show floor S = (S.g.headD Rt.zero).b from rfl)
 rw [HL.out] at HG
 generalize S.g.headD Rt.zero = g at *
 unfold stVal
 have hb0 := zid ((Below.refl w.heap.size w).alloc (Nat.le_refl _) (.cells (stCells fv (.slice ga (m + 1) gc) S) 30))
 have g0 := heap_alloc_new w (.cells (stCells fv (.slice ga (m + 1) gc) S) 30)
 unfold stCells at hb0 g0
 obtain ⟨b, off, rfl, c0, _, _⟩ := HG.out _ hb0.out
 obtain ⟨⟨d0, d1, d2, d3, d4⟩, d5, d6, d7, d8, d9, d10⟩ := cellsS g0
 simp only [Nat.zero_mul, Nat.add_zero] at c0
 have hz : (((m + 1 : Nat) : Int) == 0) = false := by simp; omega
 clear hg hgl hpos g0
 go_enter Tryz.func95, Tryz.ntmps95
 go_wp2_with fail
 go_ret
 exact ⟨by rw [HF.out]; rfl, hb0.out⟩
theorem has12_any (fv : Value) (D : Dp.Dk) (n : ByteArray) (w : World) (hv : IsL FL w fv D.f) (hS : Sm D) :
 Calls Tryz.prog 143 #[dkVal fv D, .string n] w fun e w' => e = .returned (.bool (Dp.get D.f n).isSome) ∧ Below w.heap.size w w' := by
 have b0 := (Below.refl w.heap.size w).alloc (Nat.le_refl _) (.cells #[fv, .int .i64 D.c, .bool D.a, .int .i64 D.l, .bool D.x] 24)
 have C := zid (Dsk.read_any fv D n _ (hv.keep b0) hS.r.2.1 (by have := hS.n; omega))
 obtain ⟨d0, d1, d2, d3, d4⟩ := cells5 (heap_alloc_new w (.cells #[fv, .int .i64 D.c, .bool D.a, .int .i64 D.l, .bool D.x] 24))
 have B0 := zid b0
 clear hv hS b0
 unfold dkVal at C ⊢
 cases hg : Dp.get D.f n with
 | none =>
  rw [readVal_no hg] at C
  clear hg
  go_enter Tryz.func143, Tryz.ntmps143
  go_wp2_with fail
  refine C.out.mono ?_
  rintro e w1 ⟨rfl, b1⟩
  have B1 := zid (B0.out.trans (b1.mono B0.out.size))
  clear b1
  go_wp2_with fail
  go_ret
  exact ⟨rfl, B1.out⟩
 | some f =>
  rw [readVal_yes hg] at C
  clear hg
  go_enter Tryz.func143, Tryz.ntmps143
  go_wp2_with fail
  refine C.out.mono ?_
  rintro e w1 ⟨rfl, b1⟩
  have B1 := zid (B0.out.trans (b1.mono B0.out.size))
  clear b1
  go_wp2_with fail
  go_ret
  exact ⟨rfl, B1.out⟩
end Sto
namespace Ro
open Go.RowKit So Dsk Rts Sto
theorem cut_s {D : Dp.Dk} {k : Nat} {fv : Value} {w : World} (h : Bd D k) (hk : k ≤ 200000) (n : ByteArray) (m : Nat) (hm : m ≤ 9223372036854775807) (hv : IsL FL w fv D.f) : Calls Tryz.prog 97 #[dkVal fv D, .string n, .int .i64 (m : Int)] w (DkAns w fv (Dp.cut D n m)) :=
 (cut_any fv D n m w hv (bd_sm3 h (by omega)) (by omega)).mono fun _ _ r => dk_s r hv (bd_sm3 (Lg.bd_cut h n m hm) (by omega))
theorem cut14_any (fa : Option Addr) (fn fc : Nat) (D : Dp.Dk) (n : ByteArray) (m : Nat) (w : World) (k : Nat) (hv : IsL FL w (.slice fa fn fc) D.f) (hS : Bd D k) (hk : k ≤ 100000) (hm : m ≤ 1000000000000) :
 Calls Tryz.prog 55 #[dkVal (.slice fa fn fc) D, .string n, .int .i64 (m : Int)] w (DkAns w (.slice fa fn fc) (Lg.cutT D n m)) := by
 have C0 := zid (Cw.start (w := w) hv #[.slice none 0 0, .int .i64 0, .bool false, .int .i64 0, .bool false] 24)
 have RB := fun (W : World) (h : IsL FL W (.slice fa fn fc) D.f) => Dsk.read_any (.slice fa fn fc) D n W h hS.r.2.1 (by have := hS.n; omega)
 have CT := fun (W : World) (h : IsL FL W (.slice fa fn fc) D.f) => cut_s hS (by omega) n m (by omega) h
 have HCT := zid (show Lg.cutT D n m = if m < ((dat D n).getD []).length then Dp.cut D n m else (D, 0) from rfl)
 obtain ⟨s, er, h2, h3⟩ : ∃ (s : ByteArray) (er : Int), readVal D.f n = .tuple #[.string s, .int .i64 er] ∧ s.size = ((dat D n).getD []).length := by
  rcases read_cases D n with ⟨h1, h2⟩ | ⟨s, h1, h2, _⟩
  · exact ⟨_, _, h2, by rw [h1]; rfl⟩
  · exact ⟨_, _, h2, by rw [h1]; rfl⟩
 rw [h2] at RB
 rw [← h3] at HCT
 obtain ⟨⟨T, E⟩, hT⟩ : ∃ R, Dp.cut D n m = R := ⟨_, rfl⟩
 rw [hT] at CT HCT
 unfold dkVal at RB CT ⊢
 replace RB := zid RB
 replace CT := zid CT
 clear hv hS h2 h3 hT
 go_enter Tryz.func55, Tryz.ntmps55
 go_upto_region 1 with (fail)
 obtain ⟨w0, hw0⟩ : ∃ w0, (w.alloc (.cells #[.slice fa fn fc, .int .i64 D.c, .bool D.a, .int .i64 D.l, .bool D.x] 24)).alloc (.cells #[.slice none 0 0, .int .i64 0, .bool false, .int .i64 0, .bool false] 24) = w0 := ⟨_, rfl⟩
 unfold dC at C0
 rw [hw0] at C0 ⊢
 have C0 := zid (show Cw w (.slice fa fn fc) w.heap.size (.slice fa fn fc) D (w.heap.size + 1) dZ [] w0 from C0.out)
 clear hw0
 obtain ⟨p0, p1, p2, p3, p4⟩ := cells5 C0.out.d
 go_wp2_with fail
 refine (RB.out _ C0.out.f).mono ?_
 rintro e w1 ⟨rfl, b1⟩
 have C1 := zid (C0.out.keep b1)
 clear p0 p1 p2 p3 p4 b1 C0 RB
 obtain ⟨p0, p1, p2, p3, p4⟩ := cells5 C1.out.d
 by_cases hlt : m < s.size
 · have HF := zid (HCT.out.trans (if_pos hlt))
   have hi : ¬ (s.size : Int) ≤ (m : Int) := by omega
   clear HCT hlt
   go_wp2_with fail
   refine (CT.out _ C1.out.f).mono ?_
   rintro e w5 ⟨b5, n5, c5, rfl, ks⟩
   obtain ⟨z0, z1, z2, z3, z4⟩ := cells5 (hkeep C1.out.r ks.w)
   obtain ⟨zf0, zf1, zf2, zf3, zf4⟩ := frozen5 (hkeep C1.out.r ks.w)
   have LY := zid (C1.out.fin ks)
   clear ks p0 p1 p2 p3 p4 CT
   unfold dkVal
   go_wp2_with fail
   obtain ⟨Y, hY, hr, hA⟩ := LY.out
   rw [hY]
   obtain ⟨x0, x1, x2, x3, x4⟩ := cells5 hr
   refine bodyPost_ret (v := .tuple #[dkVal (.slice b5 n5 c5) T, .int .i64 E]) (by unfold dkVal; simp [results, Tryz.results55, go_sem, x0, x1, x2, x3, x4]) rfl ?_
   rw [HF.out]
   exact hA E
 · have HF := zid (HCT.out.trans (if_neg hlt))
   have hi : (s.size : Int) ≤ (m : Int) := by omega
   obtain ⟨z0, z1, z2, z3, z4⟩ := cells5 C1.out.r
   obtain ⟨zf0, zf1, zf2, zf3, zf4⟩ := frozen5 C1.out.r
   clear HCT hlt CT
   go_wp2_with fail
   obtain ⟨Y, hY, hr, hA⟩ := C1.out.ret
   rw [hY]
   obtain ⟨x0, x1, x2, x3, x4⟩ := cells5 hr
   refine bodyPost_ret (v := .tuple #[dkVal (.slice fa fn fc) D, .int .i64 0]) (by unfold dkVal; simp [results, Tryz.results55, go_sem, x0, x1, x2, x3, x4]) rfl ?_
   rw [HF.out]
   exact hA 0
structure Iw (w : World) (fv gv : Value) (S : St) (m n : Nat) (U : List ByteArray) (W : World) : Prop where
 c : W.heap[w.heap.size]? = some (.cells #[fv, .int .i64 S.d.c, .bool S.d.a, .int .i64 S.d.l, .bool S.d.x, .int .i64 S.v, gv, .int .i64 S.x, .int .i64 S.s, .int .i64 S.z, .int .u32 S.c] 30 (0, 0))
 g : IsL Rts.SL W gv S.g
 p : Sep gv m
 s : SetAt W m n U
 lt : w.heap.size < m
 w : Below w.heap.size w W
theorem Iw.keep {w W W' : World} {fv gv : Value} {S : St} {m n : Nat} {U : List ByteArray} (h : Iw w fv gv S m n U W) (k : Below W.heap.size W W') : Iw w fv gv S m n U W' :=
 ⟨hkeep h.c k, h.g.keep k, h.p, h.s.keep k, h.lt, h.w.trans (k.mono (Nat.le_of_lt (Array.getElem?_eq_some_iff.1 h.c).1))⟩
theorem Iw.put {w W W' : World} {fv gv : Value} {S : St} {m n n' : Nat} {U U' : List ByteArray} (h : Iw w fv gv S m n U W) (hs : SetAt W' m n' U') (g : W.grownBy W' (some m)) : Iw w fv gv S m n' U' W' := by
 have hl := h.lt
 have hw := (Array.getElem?_eq_some_iff.1 h.c).1
 exact ⟨(g.block _ hw (fun e => by injection e with e; omega)).trans h.c, IsL.grown12 h.g g (fun t e => by injection e with e; rw [← e]; exact h.p), h.p, hs, hl, h.w.grown g (Nat.le_of_lt hw) (fun t e => by injection e with e; omega)⟩
theorem SetAt.more {w : World} {b n n' : Nat} {U : List ByteArray} (h : SetAt w b n U) (hn : n ≤ n') : SetAt w b n' U := by
 obtain ⟨D, h1, h2⟩ := h
 exact ⟨D, h1.mono hn, h2⟩
theorem name_size {t : UInt8} {b : Int} (h : 0 ≤ b ∧ b ≤ 1099511627776) : (⟨(Np.nameL t b).toArray⟩ : ByteArray).size ≤ maxLen := by
 obtain ⟨n, rfl⟩ : ∃ n : Nat, b = (n : Int) := ⟨b.toNat, by omega⟩
 rw [size_mk_list, Np.name_len t (by omega)]
 unfold maxLen
 omega
theorem inUse14_any (fv : Value) (ga : Option Addr) (gn gc : Nat) (S : St) (w : World) (hg : IsL Rts.SL w (.slice ga gn gc) S.g) (hn : S.g ≠ []) (hB : ∀ g ∈ S.g, 0 ≤ g.b ∧ g.b ≤ 1099511627776) (hl : gn ≤ 1000) :
 Calls Tryz.prog 53 #[stVal fv (.slice ga gn gc) S] w fun e w' => ∃ m n, e = .returned (.map (some m)) ∧ w.heap.size ≤ m ∧ SetAt w' m n (Lg.useS S) ∧ Below w.heap.size w w' := by
 have hmm := @run_makeMap Tryz.prog
 have hgl := hg.len.1
 have hfb : 0 ≤ floor S ∧ floor S ≤ 1099511627776 := by
  unfold floor
  cases h : S.g with
  | nil => exact absurd h hn
  | cons g t => exact hB g (by rw [h]; exact mcs)
 have HB := zid fun j (h : j < gn) => hB (S.g.getD j Rt.zero) (by rw [getD_lt (by omega)]; exact List.getElem_mem _)
 have FLO := zid fun (W : World) (h : IsL Rts.SL W (.slice ga gn gc) S.g) => floor12_any fv (.slice ga gn gc) S W h hn
 have SNP := zid fun (W : World) => snap_any (floor S) W (by omega)
 have HSN := zid (name_size (t := 116) hfb)
 obtain ⟨L, hL⟩ : ∃ L, (S.g.map fun g => segN g.b) = L := ⟨_, rfl⟩
 have HU := zid (show Lg.useS S = (⟨#[109]⟩ : ByteArray) :: ((if 0 < floor S then [⟨(Np.nameL 116 (floor S)).toArray⟩] else []) ++ L) by rw [← hL]; rfl)
 have HT := zid fun j (h : j < gn) => (show L.take (j + 1) = L.take j ++ [⟨(Np.nameL 115 (S.g.getD j Rt.zero).b).toArray⟩] by
  have hj : j < S.g.length := by omega
  rw [← hL, List.take_succ_eq_append_getElem (by rw [List.length_map]; exact hj), List.getElem_map, getD_lt hj]; rfl)
 have HLL := zid (show L.length = gn by rw [← hL, List.length_map, hgl])
 have hm2 : (2 : Nat) < maxLen := by unfold maxLen; omega
 have h109 : (⟨#[109]⟩ : ByteArray).size ≤ maxLen := by unfold maxLen; decide
 have I0 := zid fun (W : World) (h : Below w.heap.size w W) => hg.keep h
 have G0 := zid (heap_alloc_new w (.cells #[fv, .int .i64 S.d.c, .bool S.d.a, .int .i64 S.d.l, .bool S.d.x, .int .i64 S.v, .slice ga gn gc, .int .i64 S.x, .int .i64 S.s, .int .i64 S.z, .int .u32 S.c] 30))
 have B0 := zid ((Below.refl w.heap.size w).alloc (Nat.le_refl _) (.cells #[fv, .int .i64 S.d.c, .bool S.d.a, .int .i64 S.d.l, .bool S.d.x, .int .i64 S.v, .slice ga gn gc, .int .i64 S.x, .int .i64 S.s, .int .i64 S.z, .int .u32 S.c] 30))
 have SEP := zid fun m (h : w.heap.size ≤ m) => IsL.sep_new hg h
 have hfi : (0 < floor S) ∨ ¬ 0 < floor S := Classical.em _
 clear hg hn hB hL hgl hfb
 unfold stVal at FLO ⊢
 generalize floor S = fl at *
 go_enter Tryz.func53, Tryz.ntmps53
 go_upto_region 1 with (fail)
 generalize World.alloc w _ = w0 at G0 B0 ⊢
 have hs0 := (Array.getElem?_eq_some_iff.1 G0.out).1
 have M0 := SetAt.made w0
 have hal := (Below.refl w0.heap.size w0).alloc (Nat.le_refl _) (.map #[] 0)
 have HI0 := zid (show Iw w fv (.slice ga gn gc) S w0.heap.size 0 [] (w0.alloc (.map #[] 0)) from ⟨hkeep G0.out hal, I0.out _ (B0.out.trans (hal.mono B0.out.size)), SEP.out _ B0.out.size, M0, hs0, B0.out.trans (hal.mono B0.out.size)⟩)
 clear M0 hal
 go_upto_region 2 with (first | (refine wpList_set_put _ rfl _ _ _ (.inr rfl) w0.heap.size 0 [] rfl HI0.out.s (by omega) ⟨#[109]⟩ rfl h109 rfl ?_; intro w1 hs1 hg1))
 have HI1 := zid (HI0.out.put hs1 hg1)
 generalize w0.heap.size = m at HI1 ⊢
 clear hs1 hg1 HI0 hs0 G0 B0 I0 SEP hmm h109
 obtain ⟨⟨k0, k1, k2, k3, k4⟩, k5, k6, k7, k8, k9, k10⟩ := cellsS HI1.out.c
 go_wp2_with fail
 refine (FLO.out _ HI1.out.g).mono ?_
 rintro e w2 ⟨rfl, b2⟩
 have HI2 := zid (HI1.out.keep b2)
 clear b2 HI1 FLO k0 k1 k2 k3 k4 k5 k6 k7 k8 k9 k10
 obtain ⟨X, hX⟩ : ∃ X : List ByteArray, (if 0 < fl then [(⟨(Np.nameL 116 fl).toArray⟩ : ByteArray)] else []) = X := ⟨_, rfl⟩
 rw [hX] at HU
 rcases hfi with hfi | hfi
 case' inl =>
  rw [if_pos (by omega)] at hX
  go_wp2_with fail
  refine (SNP.out _).mono ?_
  rintro e w3 ⟨rfl, b3⟩
  have HI3 := zid (HI2.out.keep b3)
  clear b3
  go_upto_region 5 with (first | (at_mapUpdate; refine wpList_set_put _ rfl _ _ _ (.inl rfl) m 1 [⟨#[109]⟩] rfl HI3.out.s (by omega) ⟨(Np.nameL 116 fl).toArray⟩ rfl HSN.out rfl ?_; intro w4 hs4 hg4))
  have HI4 := zid (show Iw w fv (.slice ga gn gc) S m 2 ((⟨#[109]⟩ : ByteArray) :: X) w4 from by rw [← hX]; exact HI3.out.put hs4 hg4)
  clear hs4 hg4 HI3
 case' inr =>
  rw [if_neg (by omega)] at hX
  go_upto_region 5 with (fail)
  obtain ⟨w4, hw4⟩ : ∃ w4, w2 = w4 := ⟨_, rfl⟩
  rw [hw4] at HI2 ⊢
  have HI4 := zid (show Iw w fv (.slice ga gn gc) S m 2 ((⟨#[109]⟩ : ByteArray) :: X) w4 from by rw [← hX]; exact HI2.out.put (HI2.out.s.more (by omega)) ⟨rfl, rfl, rfl, Nat.le_refl _, fun _ _ _ => rfl⟩)
  clear hw4
 all_goals
  clear hX hfi HI2 SNP HSN
  obtain ⟨⟨k0, k1, k2, k3, k4⟩, k5, k6, k7, k8, k9, k10⟩ := cellsS HI4.out.c
  go_wp2_with fail
  go_loopw [19] (fun i wr => ∃ j : Nat, j ≤ gn ∧ i = .int .i64 j ∧ Hid (Iw w fv (.slice ga gn gc) S m (2 + j) ((⟨#[109]⟩ : ByteArray) :: (X ++ L.take j)) wr)) (fun i _ => gn - (intOf i).toNat)
  case atStart => exact ⟨0, Nat.zero_le _, rfl, zid (by rw [List.take_zero, List.append_nil]; exact HI4.out)⟩
  case round =>
   clear k0 k1 k2 k3 k4 k5 k6 k7 k8 k9 k10 HI4
   obtain ⟨j, hj, rfl, HI⟩ := hrel
   by_cases hlt : j < gn
   · obtain ⟨ab, ao, rfl, c0, c1, c2⟩ := sg_at HI.out.g hlt
     have hb := HB.out j hlt
     have HNS := zid (name_size (t := 115) hb)
     have HTj := zid (HT.out j hlt)
     have hm3 : 2 + j < maxLen := by unfold maxLen; omega
     generalize S.g.getD j Rt.zero = g at c0 c1 c2 hb HNS HTj
     have SGN := zid fun W : World => seg_any g.b W (by omega)
     go_wp2_with fail
     refine (SGN.out _).mono ?_
     rintro e w5 ⟨rfl, b5⟩
     have HI5 := zid ((HI.out.keep (al_bel wr (.cells #[.int .i64 g.b, .int .i64 g.n, .int .i64 g.z] 75))).keep b5)
     clear b5 c0 c1 c2 hb SGN
     go_wp2_with (first | (at_mapUpdate; refine wpList_set_put _ rfl _ _ _ (.inl rfl) m (2 + j) ((⟨#[109]⟩ : ByteArray) :: (X ++ L.take j)) rfl HI5.out.s hm3 ⟨(Np.nameL 115 g.b).toArray⟩ rfl HNS.out rfl ?_; intro w6 hs6 hg6))
     go_roundw
     case rel => exact ⟨j + 1, by omega, by go_num, zid (by rw [HTj.out, ← List.append_assoc, ← List.cons_append]; exact HI5.out.put hs6 hg6)⟩
     case measure => simp [intOf]; omega
   · have HF := zid (show (⟨#[109]⟩ : ByteArray) :: (X ++ L.take j) = Lg.useS S by rw [HU.out, List.take_of_length_le (by rw [HLL.out]; omega)])
     go_wp2_with fail
     go_ret
     exact ⟨m, _, rfl, Nat.le_of_lt HI.out.lt, by rw [← HF.out]; exact HI.out.s, HI.out.w⟩
end Ro
end Go.Proofs.YtooipogbmfkeeaaGreat
