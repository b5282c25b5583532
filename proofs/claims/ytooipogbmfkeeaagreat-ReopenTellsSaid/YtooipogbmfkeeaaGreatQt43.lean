/-
  Parts of what the laws of this seat stand on: RoRsg, DiskRef6, RoRef.
-/
import Derived.Test.YtooipogbmfkeeaaGreatQt1
import Derived.BigQuiet
import Derived.Laws.OwnMore
import Derived.Test.YtooipogbmfkeeaaGreatQt13
import Derived.Test.YtooipogbmfkeeaaGreatQt14
import Derived.Test.YtooipogbmfkeeaaGreatQt17
import Derived.Test.YtooipogbmfkeeaaGreatQt21
import Derived.Test.YtooipogbmfkeeaaGreatQt24
import Derived.Test.YtooipogbmfkeeaaGreatQt32
import Derived.Test.YtooipogbmfkeeaaGreatQt37
import Derived.Test.YtooipogbmfkeeaaGreatQt40
import Derived.Test.YtooipogbmfkeeaaGreatQt42
set_option maxRecDepth 100000
set_option maxHeartbeats 6400000
namespace Go.Proofs.YtooipogbmfkeeaaGreat
namespace Ro
open Go.RowKit So Dsk Rts Sto
def RsgOut (w : World) (D : Dp.Dk) (l : List Int) (e : Ending) (w' : World) : Prop := ∃ a n c, ∃ wh : Nat, e = .returned (.tuple #[.slice a n c, .int .i64 (wh : Int), .bool (Lg.segA D l).isSome]) ∧ IsL Rts.SL w' (.slice a n c) ((Lg.segA D l).getD []) ∧ (∀ j, j < w.heap.size → Sep (.slice a n c) j) ∧ Below w.heap.size w w' ∧ ((Lg.segA D l).isSome = true → wh = Lg.lastW D l)
theorem RsgOut.no {w w' : World} {D : Dp.Dk} {l : List Int} (h : Lg.segA D l = none) (b : Below w.heap.size w w') : RsgOut w D l (.returned (.tuple #[.slice none 0 0, .int .i64 0, .bool false])) w' :=
 ⟨none, 0, 0, 0, by rw [h]; rfl, by rw [h]; exact IsL.nil _ _ _, fun _ _ => Sep.nil _ _ _, b, fun e => by rw [h] at e; cases e⟩
theorem rsegments14_any (fa : Option Addr) (fn fc : Nat) (D : Dp.Dk) (ia : Option Addr) (ln ic : Nat) (m : Qm.Mn) (w : World) (k : Nat) (hv : IsL FL w (.slice fa fn fc) D.f) (hS : Bd D k) (hk : k ≤ 100000) (hi : IsL Mfs.IL w (.slice ia ln ic) m.l) (hM : Qm.Ok m) :
 Calls Tryz.prog 31 #[dkVal (.slice fa fn fc) D, Mfs.mnVal ia ln ic m] w (RsgOut w D m.l) := by
 obtain ⟨i0, hi0, hz0, hz1, hz2⟩ := info_parts info_sg
 obtain ⟨l, hlm⟩ : ∃ l, m.l = l := ⟨_, rfl⟩
 have hl0 := hM.n0
 have hl1 := hM.n1
 have hb : ∀ b ∈ l, 0 ≤ b ∧ b ≤ 1099511627776 := fun b hb => by
  rw [← hlm] at hb
  obtain ⟨i, hi, rfl⟩ := List.getElem_of_mem hb
  have := hM.at_ i hi
  unfold Qm.AtOk at this
  rw [getD_lt hi] at this
  exact ⟨this.1, this.2.1⟩
 rw [hlm] at hi hl0 hl1 ⊢
 have hln := hi.len.1
 have hl : ln ≤ 1000 := by omega
 have hlp : 0 < ln := by omega
 have HU := zid hS.u
 have RD := zid fun (W : World) (n : ByteArray) (h : IsL FL W (.slice fa fn fc) D.f) => Dsk.rread_any (.slice fa fn fc) D n W h
 have HV := zid hv
 have HI := zid hi
 have HB := zid fun j (h : j < ln) => hb (l.getD j 0) (by rw [getD_lt (by omega)]; exact List.getElem_mem _)
 have HSB := zid (show ∀ x ∈ l.map (Lg.segG D), Rts.SgB x from fun x hx => by
  obtain ⟨b, hbm, rfl⟩ := List.mem_map.1 hx
  have h1 := hb b hbm
  have h2 := full_few ((dat D (segN b)).getD []) b
  have h3 : ((dat D (segN b)).getD []).length ≤ Dp.used D.f := by
   rcases read_cases D (segN b) with ⟨h, _⟩ | ⟨s, h, _, h4⟩
   · rw [h]; exact Nat.zero_le _
   · rw [h]; exact h4
  have h4 := hS.u
  refine ⟨?_, ?_, ?_⟩ <;> unfold Lg.segG <;> dsimp only <;> omega)
 have HLN := zid hln
 have HT := zid fun j (h : j < ln) => (show (l.map (Lg.segG D)).take (j + 1) = (l.map (Lg.segG D)).take j ++ [Lg.segG D (l.getD j 0)] by
  have hj : j < l.length := by omega
  rw [List.take_succ_eq_append_getElem (by rw [List.length_map]; exact hj), List.getElem_map, getD_lt hj])
 have HTL := zid fun j (h : j ≤ ln) => (show ((l.map (Lg.segG D)).take j).length = j by rw [List.length_take, List.length_map]; omega)
 obtain ⟨g0, g1, gb, gs⟩ := boxes2 w #[.slice fa fn fc, .int .i64 D.c, .bool D.a, .int .i64 D.l, .bool D.x] #[.int .i64 m.v, .slice ia ln ic, .int .i64 m.z, .int .u32 m.c] 24 65
 have G0 := zid g0
 have G1 := zid g1
 have B0 := zid gb
 clear hv hS hi hb hln g0 g1 gb gs hM hl0 hl1 hlm
 unfold dkVal at RD ⊢
 unfold Mfs.mnVal
 go_enter Tryz.func31, Tryz.ntmps31
 go_wp2_with fail
 generalize World.alloc (World.alloc w _) _ = w0 at G0 G1 B0 ⊢
 have hs0 := (Array.getElem?_eq_some_iff.1 G0.out).1
 have hs1 := (Array.getElem?_eq_some_iff.1 G1.out).1
 go_loopw [7, 8, 9] (fun v wv i wr => ∃ j wh : Nat, j ≤ ln ∧ i = .int .i64 j ∧ wv = .int .i64 wh ∧ Hid (OwnL Rts.SL wr w0.heap.size v ((l.map (Lg.segG D)).take j) ∧ Below w0.heap.size w0 wr ∧ (∀ i, i < j → Lg.SegGood D l i) ∧ (0 < j → wh = (Gp.full ((dat D (segN (l.getD (j - 1) 0))).getD []) (l.getD (j - 1) 0)).2.1))) (fun _ _ i _ => ln - (intOf i).toNat)
 case atStart => exact ⟨0, 0, Nat.zero_le _, rfl, rfl, zid ⟨by rw [List.take_zero]; exact OwnL.nil _ _, Below.refl _ _, fun i h => absurd h (Nat.not_lt_zero i), fun h => absurd h (Nat.lt_irrefl 0)⟩⟩
 case round =>
  obtain ⟨j, wh, hj, rfl, rfl, HR⟩ := hrel
  have HBW := zid (B0.out.trans (HR.out.2.1.mono B0.out.size))
  obtain ⟨d0, d1, d2, d3, d4⟩ := cells5 (hkeep G0.out HR.out.2.1)
  obtain ⟨q0, q1, q2, q3⟩ := Mfs.cells4 (hkeep G1.out HR.out.2.1)
  have hwl : w.heap.size < wr.heap.size := Nat.lt_of_lt_of_le hs0 HR.out.2.1.size
  have hwl1 : w.heap.size + 1 < wr.heap.size := Nat.lt_of_lt_of_le hs1 HR.out.2.1.size
  by_cases hlt : j < ln
  case neg =>
   obtain rfl : j = ln := by omega
   have hO := HR.out.1
   rw [List.take_of_length_le (by rw [List.length_map, HLN.out]; exact Nat.le_refl _)] at hO
   have HY := zid (Lg.segA_yes (D := D) (l := l) (by rw [← HLN.out]; exact HR.out.2.2.1))
   have HWH := zid (show wh = Lg.lastW D l by rw [HR.out.2.2.2 hlp]; unfold Lg.lastW; rw [← HLN.out])
   have HOO := zid (own_base hO B0.out.size)
   obtain ⟨va, vc, rfl⟩ := own_slice hO
   have HIS := zid (hO.is (by rw [List.length_map, ← HLN.out]; unfold maxLen; omega) HSB.out)
   have HSEP := zid (show ∀ t, t < w.heap.size → Sep _ t from fun t ht => own_sep HOO.out ht)
   clear hO HR
   go_wp2_with fail
   go_ret3
   exact ⟨va, _, vc, wh, by rw [HY.out]; rfl, by rw [HY.out]; exact HIS.out, HSEP.out, HBW.out, fun _ => HWH.out⟩
  case pos =>
  obtain ⟨ab, ao, rfl, c0⟩ := Mfs.il_at (HI.out.keep HBW.out) hlt
  have hbb := HB.out j hlt
  obtain ⟨j1, hj1⟩ : ∃ j1, j + 1 = j1 := ⟨_, rfl⟩
  have hTj := HT.out j hlt
  rw [hj1] at hTj
  obtain ⟨L1, hL1⟩ : ∃ L1, (l.map (Lg.segG D)).take j1 = L1 := ⟨_, rfl⟩
  rw [hL1] at hTj
  have HL1 := zid hL1
  have hTJ := HTL.out j hj
  have HJ := zid (show l.getD (j1 - 1) 0 = l.getD j 0 by rw [← hj1, Nat.add_sub_cancel])
  have HC1 := zid fun h : j1 < ln => (show wr.cell? ⟨ab, ao + j1, none⟩ = some (.int .i64 (l.getD j1 0)) by
   obtain ⟨b', o', e, c1⟩ := Mfs.il_at (HI.out.keep HBW.out) h
   injection e with e
   injection e with e1 e2
   subst e1 e2
   exact c1)
  have HGD := zid (show Lg.SegGood D l j ↔ (dat D (segN (l.getD j 0)) ≠ none ∧ (j1 < ln → (Gp.full ((dat D (segN (l.getD j 0))).getD []) (l.getD j 0)).2.2 = 0 ∧ l.getD j 0 + ((Gp.full ((dat D (segN (l.getD j 0))).getD []) (l.getD j 0)).1.length : Int) = l.getD j1 0)) by
   unfold Lg.SegGood
   rw [hj1, ← HLN.out])
  have HNO := zid fun h : ¬ Lg.SegGood D l j => Lg.segA_no (by rw [← HLN.out]; exact hlt) h
  have HGS := zid fun h : Lg.SegGood D l j => (show ∀ i, i < j1 → Lg.SegGood D l i from fun i hi => by
   rcases Nat.lt_or_ge i j with h1 | h1
   · exact HR.out.2.2.1 i h1
   · rw [show i = j by omega]; exact h)
  have HSG := zid (show Rts.SL.enc (Lg.segG D (l.getD j 0)) = [.int .i64 (l.getD j 0), .int .i64 ((Gp.full ((dat D (segN (l.getD j 0))).getD []) (l.getD j 0)).1.length : Nat), .int .i64 ((Gp.full ((dat D (segN (l.getD j 0))).getD []) (l.getD j 0)).2.1 : Nat)] from rfl)
  have HOW := zid HR.out.1
  have hbl := HR.out.2.1
  have hbs := hbl.size
  have hal := block_lt_of_cell c0
  have HBL := zid hbl
  have hw2 : IntKind.i64.wrap ((j : Int) + 1) = (j1 : Int) := by rw [← hj1]; exact IntWalk.i64_in _ ⟨by omega, by omega⟩
  rw [← HJ.out] at c0 hbb HGD HSG hTj
  obtain ⟨b, hbe⟩ : ∃ b, l.getD (j1 - 1) 0 = b := ⟨_, rfl⟩
  have HBE := zid hbe
  rw [hbe] at c0 hbb HGD HSG hTj
  have HTj := zid hTj
  generalize (l.map (Lg.segG D)).take j = L0 at *
  generalize l.getD j1 0 = bn at *
  have SN := zid fun W : World => rseg_any b W (by omega)
  have RB := fun (W : World) (h : IsL FL W (.slice fa fn fc) D.f) => RD.out W (segN b) h
  clear HR hTj hL1 hbl hj hbe HJ
  rcases read_cases D (segN b) with ⟨h1, h2⟩ | ⟨s, h1, h2, h3⟩
  case inl =>
   rw [h2] at RB
   unfold segN at RB
   replace RB := zid RB
   have HF := zid (HNO.out fun h => (HGD.out.1 h).1 h1)
   clear h1 h2 HNO HGD HGS HSG hw2 hTJ
   go_upto_region 6 with (fail)
   go_region_held3 (fun W => (∀ b o, b < wr.heap.size → W.cell? ⟨b, o, none⟩ = wr.cell? ⟨b, o, none⟩) ∧ Below wr.heap.size wr W) (first | with_reducible assumption | with_reducible exact KW.dr _ | with_reducible exact KW.keep (by assumption) (Below.refl _ _).drew | with_reducible exact KW.keep (by assumption) (by assumption)) (first | (go_at_call 32; refine (SN.out _).mono ?_; rintro e w5 ⟨rfl, q5⟩; have s5 := KW.keep (by assumption) q5) | (go_at_call 26; refine (RB.out _ (HV.out.keep (HBW.out.trans ((KW.bel (by assumption)).mono HBW.out.size)))).mono ?_; rintro e w5 ⟨rfl, q5⟩; have s5 := KW.keep (by assumption) q5))
   all_goals
    rename_i hh
    have LB := zid (HBW.out.trans ((KW.bel hh).mono HBW.out.size))
    clear hh
    go_wp2_with fail
    go_ret3
    exact RsgOut.no HF.out LB.out
  case inr =>
  rw [h2] at RB
  unfold segN at RB
  replace RB := zid RB
  have HDT := zid h1
  rw [h1, Option.getD_some] at HGD HSG
  have hs9 : s.size ≤ 4398046511104 := by have := HU.out; omega
  have SC := zid fun W : World => rscan9_any s b W hs9 (by omega) (by omega)
  have hfw := full_few s.data.toList b
  have hsl : s.data.toList.length = s.size := rfl
  rw [hsl] at hfw
  obtain ⟨F, hF⟩ : ∃ F, Gp.full s.data.toList b = F := ⟨_, rfl⟩
  have HFF := zid hF
  rw [hF] at SC HGD HSG hfw
  obtain ⟨ps, kk, er⟩ := F
  dsimp only at HGD HSG hfw
  obtain ⟨pn, hpn⟩ : ∃ pn, ps.length = pn := ⟨_, rfl⟩
  have HPN := zid (show (ps.map Prod.fst).length = pn by rw [List.length_map]; exact hpn)
  rw [hpn] at HGD HSG hfw
  have hw3 : IntKind.i64.wrap (b + (pn : Int)) = b + (pn : Int) := IntWalk.i64_in _ ⟨by omega, by omega⟩
  have HF := zid fun (h : j1 < ln) (h' : er ≠ 0 ∨ b + (pn : Int) ≠ bn) => HNO.out fun hg => by
   obtain ⟨g1, g2⟩ := (HGD.out.1 hg).2 h
   rcases h' with h' | h'
   · exact h' g1
   · exact h' g2
  have HG := zid fun (h : j1 < ln → er = 0 ∧ b + (pn : Int) = bn) => HGS.out (HGD.out.2 ⟨by simp, h⟩)
  clear h1 h2 h3 hpn HNO HGD HGS hfw hsl hF
  go_upto_region 6 with (fail)
  go_cut [10, 11] (fun v e wc => v = .string s ∧ e = .int .i64 0 ∧ Below wr.heap.size wr wc)
  case first =>
   clear hw2 hw3
   go_region_held3 (fun W => (∀ b o, b < wr.heap.size → W.cell? ⟨b, o, none⟩ = wr.cell? ⟨b, o, none⟩) ∧ Below wr.heap.size wr W) (first | with_reducible assumption | with_reducible exact KW.dr _ | with_reducible exact KW.keep (by assumption) (Below.refl _ _).drew | with_reducible exact KW.keep (by assumption) (by assumption)) (first | (go_at_call 32; refine (SN.out _).mono ?_; rintro e w5 ⟨rfl, q5⟩; have s5 := KW.keep (by assumption) q5) | (go_at_call 26; refine (RB.out _ (HV.out.keep (HBW.out.trans ((KW.bel (by assumption)).mono HBW.out.size)))).mono ?_; rintro e w5 ⟨rfl, q5⟩; have s5 := KW.keep (by assumption) q5))
   all_goals
    rename_i hh
    have LB := zid (KW.bel hh)
    clear hh
    go_wp2_with fail
    go_meet
    case rel => exact ⟨rfl, rfl, LB.out⟩
  case rest =>
  obtain ⟨rfl, rfl, bc⟩ := hcut
  have hb5 := bc.size
  have c0' := (bc.cell (p := ⟨ab, ao + j, none⟩) hal).trans c0
  obtain ⟨q0', q1', q2', q3'⟩ := Mfs.cells4 (hkeep G1.out (HBL.out.trans (bc.mono HBL.out.size)))
  clear c0 q0 q1 q2 q3 d0 d1 d2 d3 d4
  go_wp2_with fail
  refine (SC.out _).mono ?_
  rintro e w5 ⟨rv, rfl, hrv, b5⟩
  obtain ⟨ra, rc, rfl⟩ := recs_slice hrv
  have bw5 := bc.trans (b5.mono hb5)
  rw [HPN.out]
  have HB5 := zid (HBW.out.trans (bw5.mono HBW.out.size))
  have HBL5 := zid (HBL.out.trans (bw5.mono hbs))
  have HO5 := zid (HOW.out.keep bw5)
  have hC1 := fun h : j1 < ln => (bw5.cell (p := ⟨ab, ao + j1, none⟩) hal).trans (HC1.out h)
  have c0 := (b5.cell (p := ⟨ab, ao + j, none⟩) (Nat.lt_of_lt_of_le hal hb5)).trans c0'
  obtain ⟨q0, q1, q2, q3⟩ := Mfs.cells4 (hkeep G1.out HBL5.out)
  clear hrv b5 bc bw5 c0' q0' q1' q2' q3' SC SN RB HC1
  dsimp only
  obtain ⟨bd, hbd⟩ : ∃ bd : Bool, bd = true ↔ ¬ (j1 < ln → er = 0 ∧ b + (pn : Int) = bn) := by
   rcases Classical.em (j1 < ln → er = 0 ∧ b + (pn : Int) = bn) with h | h
   · exact ⟨false, fun e => (by cases e), fun h' => absurd h h'⟩
   · exact ⟨true, fun _ => h, fun _ => rfl⟩
  have HBD := zid hbd
  go_upto_region 10 with (fail)
  go_cut [72] (fun v wc => v = .bool bd ∧ ∃ nd, wc = w5.drewN nd)
  case first =>
   by_cases hlast : j1 < ln
   case neg =>
    obtain rfl : bd = false := by cases bd; rfl; exact absurd (fun h => absurd h hlast) (hbd.1 rfl)
    have hd : decide ((j1 : Int) < (ln : Int)) = false := by simp; omega
    clear hbd hC1
    go_quiet (fail)
    go_wp2_with fail
    go_meet
    case rel => exact ⟨rfl, _, rfl⟩
   case pos =>
   have hd : decide ((j1 : Int) < (ln : Int)) = true := by simp; omega
   have hcell := hC1 hlast
   by_cases he : er = 0
   case neg =>
    obtain rfl : bd = true := hbd.2 fun h => he (h hlast).1
    have he' : (er != 0) = true := by simpa using he
    clear hbd hC1 hcell
    go_quiet (fail)
    go_wp2_with fail
    go_meet
    case rel => exact ⟨by first | rfl | simp, _, rfl⟩
   case pos =>
   subst he
   by_cases hq : b + (pn : Int) = bn
   case pos =>
    obtain rfl : bd = false := by cases bd; rfl; exact absurd (fun _ => ⟨rfl, hq⟩) (hbd.1 rfl)
    have hq' : (b + (pn : Int) != bn) = false := by simpa using hq
    clear hbd hC1 hq
    go_quiet (fail)
    go_wp2_with fail
    go_meet
    case rel => exact ⟨by first | rfl | simp, _, rfl⟩
   case neg =>
    obtain rfl : bd = true := hbd.2 fun h => hq (h hlast).2
    have hq' : (b + (pn : Int) != bn) = true := by simpa using hq
    clear hbd hC1 hq
    go_quiet (fail)
    go_wp2_with fail
    go_meet
    case rel => exact ⟨by first | rfl | simp, _, rfl⟩
  case rest =>
  obtain ⟨rfl, nd, rfl⟩ := hcut
  have B6 : Below w5.heap.size w5 (w5.drewN nd) := bel_drewN nd
  have c6 : (w5.drewN nd).cell? ⟨ab, ao + j, none⟩ = some (.int .i64 b) := (B6.cell (p := ⟨ab, ao + j, none⟩) (block_lt_of_cell c0)).trans c0
  have G6 := Mfs.cells4 (hkeep (hkeep G1.out HBL5.out) B6)
  have HB6 := zid (HB5.out.trans (B6.mono HB5.out.size))
  have HBL6 := zid (HBL5.out.trans (B6.mono HBL5.out.size))
  have HO6 := zid (HO5.out.keep B6)
  clear c0 q0 q1 q2 q3 B6 hC1 HB5 HBL5 HO5
  obtain ⟨q0, q1, q2, q3⟩ := G6
  generalize w5.drewN nd = w6 at *
  cases bd with
  | true =>
   have HFF2 := zid (show Lg.segA D l = none from by
    have h := HBD.out.1 (by first | rfl | trivial)
    have hlast : j1 < ln := Classical.byContradiction fun h' => h fun h'' => absurd h'' h'
    refine HF.out hlast ?_
    rcases Classical.em (er = 0) with h1 | h1
    · exact .inr fun h2 => h fun _ => ⟨h1, h2⟩
    · exact .inl h1)
   clear HF HG HBD HSG HTj HOW HO6 hbd
   go_wp2_with fail
   go_ret3
   exact RsgOut.no HFF2.out HB6.out
  | false =>
  have hgood : j1 < ln → er = 0 ∧ b + (pn : Int) = bn := Classical.byContradiction fun h => by
   have := HBD.out.2 h
   first | cases this | exact this
  replace HG := zid (HG.out hgood)
  have hO6 := HO6.out
  unfold OwnL at hO6
  rw [hTJ] at hO6
  have HOX := zid (show (w6.alloc (.cells [Value.int .i64 b, .int .i64 (pn : Int), .int .i64 (kk : Int)].toArray 75)).ownsRow w0.heap.size 75 3 u7 j (Rts.SL.vals L0) from hO6.alloc _)
  have HNEW := zid (news_new w6 w6.heap.size [Value.int .i64 b, .int .i64 (pn : Int), .int .i64 (kk : Int)] 75 rfl)
  have HLT := zid fun k' (h : _) => HO6.out.lt k' h
  have HBX := zid (HBL6.out.alloc HBL6.out.size (.cells [Value.int .i64 b, .int .i64 (pn : Int), .int .i64 (kk : Int)].toArray 75))
  have HSN := zid fun (v' : Value) (w3 : World) (h : w3.ownsRow w0.heap.size 75 3 v' (j + 1) (Rts.SL.vals L0 ++ [Value.int .i64 b, .int .i64 (pn : Int), .int .i64 (kk : Int)])) => (show OwnL Rts.SL w3 w0.heap.size v' L1 by
   rw [HTj.out]
   exact OwnL.snoc (n := L0.length) (by rw [hTJ]; exact h) HSG.out.symm rfl)
  have hs6 := HBL6.out.size
  clear HF hO6 HSG HTj HOW HO6 hgood HBD hbd
  go_wp2_with (at_builtin; refine wpList_append_own _ rfl _ _ 27 rfl w0.heap.size 75 i0 (.agg #[.int .i64 0, .int .i64 0, .int .i64 0]) 3 24 Tryz.underlying27 hi0 hz0 hz1 hz2 rfl (by decide) _ _ _ rfl HOX.out ⟨w6.heap.size, 0, none⟩ 1 1 [.int .i64 b, .int .i64 (pn : Int), .int .i64 (kk : Int)] (by simp [go_sem]) rfl HNEW.out (by simp [Value.oneCell']) (by unfold maxLen; omega) (by omega) (by simp; omega) ?_; intro v' w3 hown' hgrow3 hnil3)
  go_roundw
  case rel => exact ⟨j1, kk, by omega, rfl, rfl, zid ⟨by rw [HL1.out]; exact HSN.out v' w3 hown', HBX.out.grown hgrow3 (by simp; omega) (fun q hq => (HLT.out q hq).1), HG.out, fun _ => by rw [HBE.out, HDT.out, Option.getD_some, HFF.out]⟩⟩
  case measure => simp [intOf]; omega
end Ro
namespace Dsk
open Go.RowKit Dp
theorem rcut_any (fv : Value) (D : Dk) (n : ByteArray) (k : Int) (w : World) (hv : IsL FL w fv D.f) (hS : Sm D) (hk1 : -9223372036854775808 ≤ k) (hk2 : k ≤ 9223372036854775807) :
 Calls Tryz.prog 34 #[dkVal fv D, .string n, .int .i64 k] w (RkOut w fv D.f (cut D n k)) := by
 obtain ⟨fa, fn, fc, rfl⟩ : ∃ a n c, fv = .slice a n c := by obtain ⟨a, c, h, _⟩ := hv; exact ⟨a, _, c, h⟩
 have F := fun (W : World) (h : IsL FL W (.slice fa fn fc) D.f) => rfind_any (.slice fa fn fc) D n W h
 have CH := zid fun (ga : Option Addr) (gn gc : Nat) (l : List Fl) (own : Int) (W : World) => rchange_two fa ga fn fc gn gc D l own W hS.b hS.l0
 have WO := zid fun (g : Fl) (W : World) (h : IsL FL W (.slice fa fn fc) D.f) => rwith_any (.slice fa fn fc) D.f g W h hS.r.2.1 hS.n
 have HFB := zid hS.flb
 have HFN := zid hv.len.1
 have HV := zid hv
 obtain ⟨g0, g1, gb, gs⟩ := boxes2 w #[.slice fa fn fc, .int .i64 D.c, .bool D.a, .int .i64 D.l, .bool D.x] #[.slice none 0 0, .int .i64 0, .bool false, .int .i64 0, .bool false] 24 24
 have G0 := zid g0
 have G1 := zid g1
 have GB := zid gb
 have GS := zid gs
 clear g0 g1 gb gs hv
 unfold cut
 rcases @find_get D.f n with ⟨hf, hg⟩ | ⟨i, hi, hf, hg⟩
 · rw [hg]
   dsimp only
   simp only [hf] at F
   unfold dkVal at F ⊢
   replace F := zid F
   clear hf hg
   go_enter Tryz.func34, Tryz.ntmps34
   go_wp2_with fail
   generalize World.alloc (World.alloc w _) _ = w0 at G0 G1 GB GS ⊢
   refine (F.out w0 (HV.out.keep GB.out)).mono ?_
   rintro e w1 ⟨rfl, b1⟩
   obtain ⟨p0, p1, p2, p3, p4⟩ := cells5 (hkeep G0.out b1)
   have G1' := zid (hkeep G1.out b1)
   have B1 := zid (GB.out.trans (b1.mono (by have := GS.out; omega)))
   have hs1 : w.heap.size + 1 < w1.heap.size := by have := b1.size; have := GS.out; omega
   clear b1
   go_wp2_with fail
   refine (CH.out none 0 0 [] 7 w1).mono ?_
   rintro e w2 ⟨v, rfl, hc2, b2⟩
   obtain ⟨xa, xn, xc, rfl⟩ : ∃ a n c, v = .slice a n c := by
    rcases hc2 with ⟨h, _⟩ | ⟨h, _⟩
    · exact ⟨_, _, _, h⟩
    · exact ⟨_, _, _, h⟩
   obtain ⟨q0, q1, q2, q3, q4⟩ := cells5 (hkeep G1'.out b2)
   obtain ⟨qf0, qf1, qf2, qf3, qf4⟩ := frozen5 (hkeep G1'.out b2)
   have HC2 := zid hc2
   have B2 := zid (B1.out.trans (b2.mono B1.out.size))
   clear hc2 b2
   unfold dkVal
   go_wp2_with fail
   refine bodyPost_ret (v := .tuple #[.agg #[.slice xa xn xc, .int .i64 (change D [] 7).1.c, .bool (change D [] 7).1.a, .int .i64 (change D [] 7).1.l, .bool (change D [] 7).1.x], .int .i64 (change D [] 7).2]) (by simp [results, Tryz.results34, go_sem, q0, q1, q2, q3, q4]) rfl ?_
   refine ⟨xa, xn, xc, rfl, ?_, bel_set5 B2.out (Nat.le_succ _) _ _ _ _ _⟩
   rcases HC2.out with ⟨h1, h2⟩ | ⟨h1, h2, _⟩
   · exact .inl ⟨h1, h2⟩
   · rw [h1, h2]
     exact .inr (OwnL.nil _ _)
 · obtain ⟨f, hfe⟩ : ∃ f, D.f.getD i zero = f := ⟨_, rfl⟩
   rw [hg]
   dsimp only
   simp only [hf] at F
   have hin : i < fn := by rw [HFN.out]; exact hi
   have hfb : FlB f := by rw [← hfe, getD_fl hi]; exact HFB.out _ (List.getElem_mem hi)
   have hd := hfb.2.1
   have hil : fn ≤ 1000000 := by have := hS.n; have := HFN.out; omega
   unfold dkVal at F ⊢
   replace F := zid F
   rw [hfe]
   by_cases hx : k < 0 ∨ (f.d.size : Int) < k
   · rw [if_pos hx]
     rcases hx with hx | hx
     · skip
       clear hf hg hi hfb
       go_enter Tryz.func34, Tryz.ntmps34
       go_wp2_with fail
       generalize World.alloc (World.alloc w _) _ = w0 at G0 G1 GB GS ⊢
       refine (F.out w0 (HV.out.keep GB.out)).mono ?_
       rintro e w1 ⟨rfl, b1⟩
       obtain ⟨p0, p1, p2, p3, p4⟩ := cells5 (hkeep G0.out b1)
       have B1a := GB.out.trans (b1.mono (by have := GS.out; omega))
       obtain ⟨g, off, rfl, c0, c1, c2⟩ := isL_at (HV.out.keep B1a) hin
       rw [hfe] at c0 c1 c2
       have hs1 : w.heap.size + 1 < w1.heap.size := by have := b1.size; have := GS.out; omega
       have hs0 : w.heap.size < w1.heap.size := by omega
       have hgl := block_lt_of_cell c0
       have G0w := halloc (o := .cells #[.string f.n, .string f.d, .int .i64 f.s] 45) (hkeep G0.out b1)
       have G1w := halloc (o := .cells #[.string f.n, .string f.d, .int .i64 f.s] 45) (hkeep G1.out b1)
       have GFw := zid (heap_alloc_new w1 (.cells #[.string f.n, .string f.d, .int .i64 f.s] 45))
       have B1w := B1a.alloc B1a.size (.cells #[.string f.n, .string f.d, .int .i64 f.s] 45)
       have hsw : (w1.alloc (.cells #[.string f.n, .string f.d, .int .i64 f.s] 45)).heap.size = w1.heap.size + 1 := by simp
       have G0' := zid G0w
       have G1' := zid G1w
       have B1 := zid B1w
       clear b1 WO B1a G0w G1w B1w hfe
       go_wp2_with fail
       generalize w1.alloc _ = w3 at G0' G1' GFw B1 hsw ⊢
       refine (CH.out none 0 0 [] 6 w3).mono ?_
       rintro e w2 ⟨v, rfl, hc2, b2⟩
       obtain ⟨xa, xn, xc, rfl⟩ : ∃ a n c, v = .slice a n c := by
        rcases hc2 with ⟨h, _⟩ | ⟨h, _⟩
        · exact ⟨_, _, _, h⟩
        · exact ⟨_, _, _, h⟩
       obtain ⟨q0, q1, q2, q3, q4⟩ := cells5 (hkeep G1'.out b2)
       obtain ⟨qf0, qf1, qf2, qf3, qf4⟩ := frozen5 (hkeep G1'.out b2)
       have HC2 := zid hc2
       have B2 := zid (B1.out.trans (b2.mono B1.out.size))
       clear hc2 b2
       unfold dkVal
       go_wp2_with fail
       refine bodyPost_ret (v := .tuple #[.agg #[.slice xa xn xc, .int .i64 (change D [] 6).1.c, .bool (change D [] 6).1.a, .int .i64 (change D [] 6).1.l, .bool (change D [] 6).1.x], .int .i64 (change D [] 6).2]) (by simp [results, Tryz.results34, go_sem, q0, q1, q2, q3, q4]) rfl ?_
       refine ⟨xa, xn, xc, rfl, ?_, bel_set5 B2.out (Nat.le_succ _) _ _ _ _ _⟩
       rcases HC2.out with ⟨h1, h2⟩ | ⟨h1, h2, _⟩
       · exact .inl ⟨h1, h2⟩
       · rw [h1, h2]
         exact .inr (OwnL.nil _ _)
     · have hx0 : ¬ (k < 0) := by omega
       clear hf hg hi hfb
       go_enter Tryz.func34, Tryz.ntmps34
       go_wp2_with fail
       generalize World.alloc (World.alloc w _) _ = w0 at G0 G1 GB GS ⊢
       refine (F.out w0 (HV.out.keep GB.out)).mono ?_
       rintro e w1 ⟨rfl, b1⟩
       obtain ⟨p0, p1, p2, p3, p4⟩ := cells5 (hkeep G0.out b1)
       have B1a := GB.out.trans (b1.mono (by have := GS.out; omega))
       obtain ⟨g, off, rfl, c0, c1, c2⟩ := isL_at (HV.out.keep B1a) hin
       rw [hfe] at c0 c1 c2
       have hs1 : w.heap.size + 1 < w1.heap.size := by have := b1.size; have := GS.out; omega
       have hs0 : w.heap.size < w1.heap.size := by omega
       have hgl := block_lt_of_cell c0
       have G0w := halloc (o := .cells #[.string f.n, .string f.d, .int .i64 f.s] 45) (hkeep G0.out b1)
       have G1w := halloc (o := .cells #[.string f.n, .string f.d, .int .i64 f.s] 45) (hkeep G1.out b1)
       have GFw := zid (heap_alloc_new w1 (.cells #[.string f.n, .string f.d, .int .i64 f.s] 45))
       have B1w := B1a.alloc B1a.size (.cells #[.string f.n, .string f.d, .int .i64 f.s] 45)
       have hsw : (w1.alloc (.cells #[.string f.n, .string f.d, .int .i64 f.s] 45)).heap.size = w1.heap.size + 1 := by simp
       have G0' := zid G0w
       have G1' := zid G1w
       have B1 := zid B1w
       clear b1 WO B1a G0w G1w B1w hfe
       go_wp2_with fail
       generalize w1.alloc _ = w3 at G0' G1' GFw B1 hsw ⊢
       refine (CH.out none 0 0 [] 6 w3).mono ?_
       rintro e w2 ⟨v, rfl, hc2, b2⟩
       obtain ⟨xa, xn, xc, rfl⟩ : ∃ a n c, v = .slice a n c := by
        rcases hc2 with ⟨h, _⟩ | ⟨h, _⟩
        · exact ⟨_, _, _, h⟩
        · exact ⟨_, _, _, h⟩
       obtain ⟨q0, q1, q2, q3, q4⟩ := cells5 (hkeep G1'.out b2)
       obtain ⟨qf0, qf1, qf2, qf3, qf4⟩ := frozen5 (hkeep G1'.out b2)
       have HC2 := zid hc2
       have B2 := zid (B1.out.trans (b2.mono B1.out.size))
       clear hc2 b2
       unfold dkVal
       go_wp2_with fail
       refine bodyPost_ret (v := .tuple #[.agg #[.slice xa xn xc, .int .i64 (change D [] 6).1.c, .bool (change D [] 6).1.a, .int .i64 (change D [] 6).1.l, .bool (change D [] 6).1.x], .int .i64 (change D [] 6).2]) (by simp [results, Tryz.results34, go_sem, q0, q1, q2, q3, q4]) rfl ?_
       refine ⟨xa, xn, xc, rfl, ?_, bel_set5 B2.out (Nat.le_succ _) _ _ _ _ _⟩
       rcases HC2.out with ⟨h1, h2⟩ | ⟨h1, h2, _⟩
       · exact .inl ⟨h1, h2⟩
       · rw [h1, h2]
         exact .inr (OwnL.nil _ _)
   · rw [if_neg hx]
     obtain ⟨j, rfl⟩ : ∃ j : Nat, k = (j : Int) := ⟨k.toNat, by omega⟩
     have hx0 : ¬ ((j : Int) < 0) := by omega
     have hx1 : ¬ ((f.d.size : Int) < (j : Int)) := by omega
     rw [Int.toNat_natCast]
     clear hx
     clear hf hg hi hfb
     go_enter Tryz.func34, Tryz.ntmps34
     go_wp2_with fail
     generalize World.alloc (World.alloc w _) _ = w0 at G0 G1 GB GS ⊢
     refine (F.out w0 (HV.out.keep GB.out)).mono ?_
     rintro e w1 ⟨rfl, b1⟩
     obtain ⟨p0, p1, p2, p3, p4⟩ := cells5 (hkeep G0.out b1)
     have B1a := GB.out.trans (b1.mono (by have := GS.out; omega))
     obtain ⟨g, off, rfl, c0, c1, c2⟩ := isL_at (HV.out.keep B1a) hin
     rw [hfe] at c0 c1 c2
     have hs1 : w.heap.size + 1 < w1.heap.size := by have := b1.size; have := GS.out; omega
     have hs0 : w.heap.size < w1.heap.size := by omega
     have hgl := block_lt_of_cell c0
     have G0w := halloc (o := .cells #[.string f.n, .string (f.d.extract 0 j), .int .i64 (min f.s (j : Int))] 45) (hkeep G0.out b1)
     have G1w := halloc (o := .cells #[.string f.n, .string (f.d.extract 0 j), .int .i64 (min f.s (j : Int))] 45) (hkeep G1.out b1)
     have GFw := zid (heap_alloc_new w1 (.cells #[.string f.n, .string (f.d.extract 0 j), .int .i64 (min f.s (j : Int))] 45))
     have B1w := B1a.alloc B1a.size (.cells #[.string f.n, .string (f.d.extract 0 j), .int .i64 (min f.s (j : Int))] 45)
     have hsw : (w1.alloc (.cells #[.string f.n, .string (f.d.extract 0 j), .int .i64 (min f.s (j : Int))] 45)).heap.size = w1.heap.size + 1 := by simp
     have G0' := zid (hkeep G0w (Below.refl _ _).drew)
     have G1' := zid (hkeep G1w (Below.refl _ _).drew)
     have B1 := zid B1w.drew
     have WO0 := zid (WO.out ⟨f.n, f.d.extract 0 j, min f.s (j : Int)⟩ (w1.alloc (.cells #[.string f.n, .string (f.d.extract 0 j), .int .i64 (min f.s (j : Int))] 45)).drew (HV.out.keep B1.out))
     clear b1 WO B1a G0w G1w B1w hfe
     go_wp2_with fail
     generalize w1.alloc _ = w3 at G0' G1' GFw B1 WO0 hsw ⊢
     obtain ⟨r0, r1, r2⟩ := cells3 GFw.out
     obtain ⟨y0, y1, y2, y3, y4⟩ := cells5 (show w3.heap[w.heap.size]? = _ from G0'.out)
     replace hs1 : w.heap.size + 1 < w3.heap.size := by omega
     clear p0 p1 p2 p3 p4 c0 c1 c2
     go_region_with (first | ((with_reducible refine WO0.out.mono ?_); rintro e w4 ⟨lv, rfl, ho4, b4⟩; obtain ⟨ga, gn, gc, rfl⟩ := own_slice ho4; have HO4 := zid ho4; obtain ⟨z0, z1, z2, z3, z4⟩ := cells5 (hkeep G0'.out b4); have G14 := zid (hkeep G1'.out b4); have B4 := zid (B1.out.trans (b4.mono B1.out.size)); have hs4 := b4.size; clear ho4 b4) | (go_at_call 67; refine (CH.out ga gn gc (withF D.f ⟨f.n, f.d.extract 0 j, min f.s (j : Int)⟩) 0 w4).mono ?_; rintro e w2 ⟨v, rfl, hc2, b2⟩; obtain ⟨xa, xn, xc, rfl⟩ : ∃ a n c, v = .slice a n c := (by rcases hc2 with ⟨h, _⟩ | ⟨h, _⟩ <;> exact ⟨_, _, _, h⟩); obtain ⟨q0, q1, q2, q3, q4⟩ := cells5 (hkeep G14.out b2); obtain ⟨qf0, qf1, qf2, qf3, qf4⟩ := frozen5 (hkeep G14.out b2); have HC2 := zid hc2; have HO2 := zid (HO4.out.keep b2); have B2 := zid (B4.out.trans (b2.mono B4.out.size)); clear hc2 b2; unfold dkVal))
     all_goals
      go_wp2_with fail
      refine bodyPost_ret (v := .tuple #[.agg #[.slice xa xn xc, .int .i64 (change D (withF D.f ⟨f.n, f.d.extract 0 j, min f.s (j : Int)⟩) 0).1.c, .bool (change D (withF D.f ⟨f.n, f.d.extract 0 j, min f.s (j : Int)⟩) 0).1.a, .int .i64 (change D (withF D.f ⟨f.n, f.d.extract 0 j, min f.s (j : Int)⟩) 0).1.l, .bool (change D (withF D.f ⟨f.n, f.d.extract 0 j, min f.s (j : Int)⟩) 0).1.x], .int .i64 (change D (withF D.f ⟨f.n, f.d.extract 0 j, min f.s (j : Int)⟩) 0).2]) (by simp [results, Tryz.results34, go_sem, q0, q1, q2, q3, q4]) rfl ?_
      refine ⟨xa, xn, xc, rfl, ?_, bel_set5 B2.out (Nat.le_succ _) _ _ _ _ _⟩
      rcases HC2.out with ⟨h1, h2⟩ | ⟨h1, h2, _⟩
      · exact .inl ⟨h1, h2⟩
      · refine .inr ?_
        rw [h1, h2]
        exact own_base (own_set5 HO2.out (k := w.heap.size + 1) hs1 _ _ _ _ _) B1.out.size
end Dsk
namespace Ro
open Go.RowKit So Dsk Rts Sto
theorem rfresh14_any (fa : Option Addr) (fn fc : Nat) (D : Dp.Dk) (w : World) (k : Nat) (hv : IsL FL w (.slice fa fn fc) D.f) (hS : Bd D k) (hk : k ≤ 10000) :
 Calls Tryz.prog 27 #[dkVal (.slice fa fn fc) D] w (StOut w (.slice fa fn fc) (.slice none 0 0) (Lg.freshT D)) := by
 have C0 := zid (Cw.start (w := w) hv #[.slice none 0 0, .int .i64 0, .bool false, .int .i64 0, .bool false, .int .i64 0, .slice none 0 0, .int .i64 0, .int .i64 0, .int .i64 0, .int .u32 0] 30)
 have CL := fun (W : World) (h : IsL FL W (.slice fa fn fc) D.f) => rsweep14_any fa fn fc D none 0 0 [] W k h hS hk (IsL.nil W none 0) (Nat.zero_le _)
 have HB := Lg.bd_sweep hS []
 have HR := show Lg.freshT D = if (Lg.sweep D []).2 ≠ 0 then (Lg.bare (Lg.sweep D []).1, (Lg.sweep D []).2) else createT (Lg.sweep D []).1 from rfl
 obtain ⟨⟨D1, E1⟩, h1⟩ : ∃ R, Lg.sweep D [] = R := ⟨_, rfl⟩
 rw [h1] at CL HB HR
 dsimp only at HB HR
 have CR := fun (a : Option Addr) (n c : Nat) (W : World) (h : IsL FL W (.slice a n c) D1.f) => rcreate12_any a n c D1 W (k + k) h HB (by omega)
 obtain ⟨⟨T, E⟩, h2⟩ : ∃ R, createT D1 = R := ⟨_, rfl⟩
 rw [h2] at CR HR
 unfold dkVal at CL CR ⊢
 replace CL := zid CL
 replace CR := zid CR
 replace HR := zid HR
 clear hv hS HB h1 h2
 go_enter Tryz.func27, Tryz.ntmps27
 go_upto_region 1 with (fail)
 obtain ⟨w0, hw0⟩ : ∃ w0, (w.alloc (.cells #[.slice fa fn fc, .int .i64 D.c, .bool D.a, .int .i64 D.l, .bool D.x] 24)).alloc (.cells #[.slice none 0 0, .int .i64 0, .bool false, .int .i64 0, .bool false, .int .i64 0, .slice none 0 0, .int .i64 0, .int .i64 0, .int .i64 0, .int .u32 0] 30) = w0 := ⟨_, rfl⟩
 unfold dC at C0
 rw [hw0] at C0 ⊢
 have C0 := zid (show Cw w (.slice fa fn fc) w.heap.size (.slice fa fn fc) D (w.heap.size + 1) zS [] w0 from C0.out)
 clear hw0
 obtain ⟨d0, d1, d2, d3, d4⟩ := cells5 C0.out.d
 go_wp2_with fail
 refine (CL.out _ C0.out.f).mono ?_
 rintro e w1 ⟨a, n, c, rfl, ks⟩
 obtain ⟨y0, y1, y2, y3, y4⟩ := cells5 (hkeep C0.out.d ks.w)
 obtain ⟨yf0, yf1, yf2, yf3, yf4⟩ := frozen5 (hkeep C0.out.d ks.w)
 have LY := zid (C0.out.lay ks)
 clear ks d0 d1 d2 d3 d4 CL
 unfold dkVal
 go_upto_region 2 with (fail)
 obtain ⟨Z, hZ, CZ, _⟩ := LY.out
 rw [hZ]
 have C1 := zid CZ
 clear hZ CZ LY y0 y1 y2 y3 y4 yf0 yf1 yf2 yf3 yf4 C0
 obtain ⟨d0, d1, d2, d3, d4⟩ := cells5 C1.out.d
 by_cases hE : E1 = 0
 case neg =>
  have HF := zid (HR.out.trans (if_pos hE))
  have he : (E1 != 0) = true := by simpa using hE
  obtain ⟨⟨z0, z1, z2, z3, z4⟩, z5, z6, z7, z8, z9, z10⟩ := cellsS C1.out.r
  have zf := frozenS C1.out.r
  clear HR CR
  go_wp2_with fail
  obtain ⟨Y, hY, hr, hA⟩ := C1.out.bare
  rw [hY]
  obtain ⟨⟨x0, x1, x2, x3, x4⟩, x5, x6, x7, x8, x9, x10⟩ := cellsS hr
  refine bodyPost_ret (v := .tuple #[stVal (.slice a n c) (.slice none 0 0) (Lg.bare D1), .int .i64 E1]) (by unfold stVal Lg.bare; simp [results, Tryz.results27, go_sem, x0, x1, x2, x3, x4, x5, x6, x7, x8, x9, x10]; simp [Lg.bare]) rfl ?_
  rw [HF.out]
  exact hA E1
 case pos =>
 subst hE
 have HF := zid (HR.out.trans (if_neg (fun h => h rfl)))
 clear HR
 go_wp2_with fail
 refine (CR.out _ _ _ _ C1.out.f).mono ?_
 rintro e w5 ⟨a5, n5, c5, a6, n6, c6, rfl, ks⟩
 obtain ⟨⟨z0, z1, z2, z3, z4⟩, z5, z6, z7, z8, z9, z10⟩ := cellsS (hkeep C1.out.r ks.w)
 have zf := frozenS (hkeep C1.out.r ks.w)
 have LY := zid (C1.out.put ks)
 clear ks d0 d1 d2 d3 d4 CR
 unfold stVal
 go_wp2_with fail
 obtain ⟨Y, hY, hr, hA⟩ := LY.out
 rw [hY]
 obtain ⟨⟨x0, x1, x2, x3, x4⟩, x5, x6, x7, x8, x9, x10⟩ := cellsS hr
 refine bodyPost_ret (v := .tuple #[stVal (.slice a5 n5 c5) (.slice a6 n6 c6) T, .int .i64 E]) (by unfold stVal; simp [results, Tryz.results27, go_sem, x0, x1, x2, x3, x4, x5, x6, x7, x8, x9, x10]) rfl ?_
 rw [HF.out]
 exact hA E
theorem rof14_any (s : ByteArray) (w : World) (hs : s.size ≤ 3000000000) : Calls Tryz.prog 30 #[.string s] w fun e w' => e = .returned (.int .u32 (Cp.sum 0 s.data.toList : Nat)) ∧ w = w' := by
 have C := zid (ron_any 0 s w (by decide) (by unfold maxLen; omega))
 go_enter Tryz.func30, Tryz.ntmps30
 go_wp2_with fail
 refine C.out.mono ?_
 rintro e w1 ⟨rfl, rfl⟩
 go_wp2_with fail
 go_ret
 exact ⟨rfl, rfl⟩
theorem rcut_s {D : Dp.Dk} {k : Nat} {fv : Value} {w : World} (h : Bd D k) (hk : k ≤ 200000) (n : ByteArray) (m : Nat) (hm : m ≤ 9223372036854775807) (hv : IsL FL w fv D.f) : Calls Tryz.prog 34 #[dkVal fv D, .string n, .int .i64 (m : Int)] w (DkAns w fv (Dp.cut D n m)) :=
 (rcut_any fv D n m w hv (bd_sm3 h (by omega)) (by omega) (by omega)).mono fun _ _ r => rk_s r hv (bd_sm3 (Lg.bd_cut h n m hm) (by omega))
theorem Ms.grown {w W W' : World} {b : Nat} {fv0 gv0 : Value} {cs : List (Nat × Obj)} {fs : List (Value × List Dp.Fl)} {gs : List (Value × List Rt.Sg)} {r : Option Nat} (h : Ms w b fv0 gv0 cs fs gs W) (g : W.grownBy W' r)
 (hr : ∀ q, r = some q → b ≤ q ∧ (∀ p ∈ cs, p.1 ≠ q) ∧ (∀ p ∈ fs, Sep p.1 q) ∧ ∀ p ∈ gs, Sep p.1 q) : Ms w b fv0 gv0 cs fs gs W' :=
 ⟨fun p hp => ⟨(h.c p hp).1, (g.block p.1 (h.lt (t := p.1) (o := p.2) hp) (fun e => (hr p.1 e.symm).2.1 p hp rfl)).trans (h.c p hp).2⟩,
  fun p hp => ⟨IsL.grown12 (h.f p hp).1 g (fun t e => (hr t e).2.2.1 p hp), (h.f p hp).2⟩, fun p hp => ⟨IsL.grown12 (h.g p hp).1 g (fun t e => (hr t e).2.2.2 p hp), (h.g p hp).2⟩, Nat.le_trans h.le g.size, h.w.grown g h.le (fun q e => (hr q e).1)⟩
structure Uw (w : World) (fv : Value) (D : Dp.Dk) (cs : List (Nat × Obj)) (gs : List (Value × List Rt.Sg)) (iv : Value) (il : List Int) (uv : Value) (U : List ByteArray) (W : World) : Prop where
 m : Ms w w.heap.size fv (.slice none 0 0) cs [(fv, D.f)] gs W
 i : IsL Mfs.IL W iv il
 u : OwnL Dsk.SL W w.heap.size uv U
 a : ∀ q, uv.ownBlock = some q → (∀ p ∈ cs, p.1 ≠ q) ∧ Sep fv q ∧ (∀ p ∈ gs, Sep p.1 q) ∧ Sep iv q
section
variable {w W W' : World} {fv iv uv uv' : Value} {D : Dp.Dk} {cs : List (Nat × Obj)} {gs : List (Value × List Rt.Sg)} {il : List Int} {U : List ByteArray}
theorem Uw.keep (h : Uw w fv D cs gs iv il uv U W) (k : Below W.heap.size W W') : Uw w fv D cs gs iv il uv U W' := ⟨h.m.keep k, h.i.keep k, h.u.keep k, h.a⟩
theorem Uw.new (M : Ms w w.heap.size fv (.slice none 0 0) cs [(fv, D.f)] gs W) (hi : IsL Mfs.IL W iv il) (s : ByteArray) : Uw w fv D cs gs iv il (.slice (some ⟨W.heap.size, 0, none⟩) 1 1) [s] (W.alloc (.cells #[.string s] 9)) := by
 have k := al_bel W (.cells #[.string s] 9)
 refine ⟨M.keep k, hi.keep k, World.ownsRow_lit W #[.string s] 1 M.le (by unfold maxLen; omega) rfl, fun q e => ?_⟩
 injection e with e
 rw [← e]
 exact ⟨fun p hp e => by have := M.lt (t := p.1) (o := p.2) hp; have e' : p.1 = W.heap.size := e; omega, IsL.sep_new (M.fl mcs) (Nat.le_refl _), fun p hp => IsL.sep_new (M.g p hp).1 (Nat.le_refl _), IsL.sep_new hi (Nat.le_refl _)⟩
theorem Uw.app (h : Uw w fv D cs gs iv il uv U W) (s : ByteArray) (ho : W'.ownsRow w.heap.size 9 1 uv' (U.length + 1) (Dsk.SL.vals U ++ [.string s])) (g : (W.alloc (.cells #[.string s] 9)).grownBy W' uv.ownBlock) (hm : Moved (W.alloc (.cells #[.string s] 9)) uv uv') : Uw w fv D cs gs iv il uv' (U ++ [s]) W' := by
 have k := al_bel W (.cells #[.string s] 9)
 refine ⟨Ms.grown (h.m.keep k) g fun q e => ⟨(h.u.lt q e).1, (h.a q e).1, fun p hp => by rw [List.mem_singleton] at hp; rw [hp]; exact (h.a q e).2.1, (h.a q e).2.2.1⟩, IsL.grown12 (h.i.keep k) g (fun q e => (h.a q e).2.2.2), OwnL.snoc (n := U.length) ho rfl rfl, fun q e => ?_⟩
 rcases hm with hm | hm
 · rw [hm] at e
   exact h.a q e
 · have hq := hm q e
   have hq2 : W.heap.size ≤ q := Nat.le_trans k.size hq
   exact ⟨fun p hp e => by have := h.m.lt (t := p.1) (o := p.2) hp; omega, IsL.sep_new (h.m.fl mcs) hq2, fun p hp => IsL.sep_new (h.m.g p hp).1 hq2, IsL.sep_new h.i hq2⟩
theorem Uw.fresh (h : Uw w fv D cs gs iv il uv U W) {v : Value} {l : List Rt.Sg} (k : Below W.heap.size W W') (hl : IsL Rts.SL W' v l) (hs : ∀ j, j < W.heap.size → Sep v j) : Uw w fv D cs ((v, l) :: gs) iv il uv U W' :=
 ⟨h.m.fresh k hl hs, h.i.keep k, h.u.keep k, fun q e => ⟨(h.a q e).1, (h.a q e).2.1, fun p hp => by
  rcases List.mem_cons.1 hp with rfl | hp
  · exact hs q (h.u.lt q e).2
  · exact (h.a q e).2.2.1 p hp, (h.a q e).2.2.2⟩⟩
end
end Ro
end Go.Proofs.YtooipogbmfkeeaaGreat
