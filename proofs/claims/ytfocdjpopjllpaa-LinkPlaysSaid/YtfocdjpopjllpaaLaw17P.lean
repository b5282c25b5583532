/-
  LinkPlays, walked.
-/
import Derived.Test.YtfocdjpopjllpaaLnkPlay
import Derived.Deep.RegionHeld3
namespace Go.Proofs.Ytfocdjpopjllpaa.Lk
open Go.RowKit

set_option maxRecDepth 100000 in
set_option maxHeartbeats 3200000 in
theorem plays17 (fa : Option Addr) (fn fc : Nat) (zs : List Ac) (most : Nat) (w : World) (hv : IsL AL w (.slice fa fn fc) zs) :
    Calls Try.prog 4 #[.slice fa fn fc, .int .u8 (most : Int)] w fun e w' => e = .returned (.bool true) ∧ Below w.heap.size w w' := by
  have mixed : Try.prog.follows Departure.mixedOrders = true := by kernel_rfl
  have AW := Lib.hid fun W : World => awake17 W
  have HV := Lib.hid hv
  clear hv
  by_cases hl : fn ≤ 60
  · have e1 : decide (60 < (fn : Int)) = false := by simp; omega
    obtain ⟨N, hN⟩ : ∃ N, most % 9 = N := ⟨_, rfl⟩
    have hN8 : N ≤ 8 := by omega
    have hN2 : (most : Int).tmod 9 = (N : Int) := by rw [← hN]; rfl
    clear hN
    have LB0 := Lib.hid ((Lb.start w).new #[.int .i64 0, .int .i64 0, .slice none 0 0])
    go_enter Try.func4, Try.ntmps4
    go_wp2_with fail
    generalize World.alloc w _ = w0 at LB0 ⊢
    obtain ⟨B, hB⟩ : ∃ B, w.heap.size = B := ⟨_, rfl⟩
    rw [hB] at LB0 ⊢
    have HB := Lib.hid hB
    clear hB
    go_loopw [7, 8, 9, 10, 11] (fun c s f la i W => ∃ (k came sent : Nat) (fst : Bool) (last : Int) (L : List ByteArray) (a : Option Addr) (m d : Nat), k ≤ fn ∧ c = .int .i64 came ∧ s = .int .i64 sent ∧ f = .bool fst ∧ la = .int .i64 last ∧ i = .int .i64 k ∧ Pl N k L came sent fst last ∧ Lb w [(B, #[.int .i64 0, .int .i64 0, .slice a m d])] [(.slice a m d, L)] W ∧ NilOk (.slice a m d) ∧ (∀ p n c, Value.slice a m d = .slice (some p) n c → p.block ≠ B)) (fun _ _ _ _ i _ => fn - (intOf i).toNat)
    case atStart => exact ⟨0, 0, 0, true, -1, [], none, 0, 0, Nat.zero_le _, rfl, rfl, rfl, rfl, rfl, Pl.start N, LB0.out.add (IsL.nil _ _ _), (fun n c e => by injection e with _ _ e; exact e.symm), fun p n c e => by injection e with e; cases e⟩
    case round =>
      obtain ⟨k, came, sent, fst, last, L, a, m, d, hk, rfl, rfl, rfl, rfl, rfl, hP, hL, hq, hap⟩ := hrel
      have HP := Lib.hid hP
      have HL := Lib.hid hL
      have HQ := Lib.hid hq
      have HA := Lib.hid hap
      clear hP hL hq hap
      obtain ⟨x0, x1, x2⟩ := HL.out.at_ (b := B) (.head _)
      by_cases hlt : k < fn
      · obtain ⟨g, off, rfl, c0, c1, hq1, hq2⟩ := al_at (HV.out.keep HL.out.w) hlt
        generalize zs.getD k azero = q at *
        obtain ⟨x, hx⟩ : ∃ x, q.k % 3 = x := ⟨_, rfl⟩
        have hx2 : (q.k : Int).tmod 3 = (x : Int) := by rw [← hx]; rfl
        have hs6 : sent ≤ 60 := by have := HP.out.si; omega
        have hc6 : came ≤ 60 := by have := HP.out.ci; omega
        have hx3 : x = 0 ∨ x = 1 ∨ x = 2 := by omega
        have HBW := Lib.hid (HL.out.lt (.head _))
        clear hx
        rcases hx3 with rfl | rfl | rfl
        · have hcv := conv_one wr (n := sent) (by omega)
          have K0 := Lib.hid ((Below.refl wr.heap.size wr).alloc (Nat.le_refl _) (.cells #[.int .u8 (sent : Int)] 5))
          have SD := send17_any 0 0 (N : Int) (.slice a m d) (Lk.one sent) L _ ((HL.out.is_ (.head _)).keep K0.out) HQ.out (by have := HP.out.len; omega)
          have hml : m = L.length := (HL.out.is_ (.head _)).len.1
          by_cases hfull : m < N
          · have hS : sendB L (N : Int) = true := by unfold sendB; simp; omega
            have hL2 : sendL L (Lk.one sent) (N : Int) = L ++ [Lk.one sent] := by unfold sendL; rw [if_pos (by omega)]
            rw [hS, hL2] at SD
            replace SD := Lib.hid SD
            have HP2 := Lib.hid (HP.out.send (by omega))
            clear hS hL2
            replace hml := Lib.hid hml
            go_wp2_with fail
            refine SD.out.mono ?_
            rintro e w1 ⟨a1, n1, c1, rfl, hi, hn, hr, b1⟩
            have AP := Lib.hid (show ∀ p n c, Value.slice a1 n1 c1 = .slice (some p) n c → p.block ≠ B from fun p n c e => by rcases hr p n c e with h | ⟨p', n', c', e', h⟩; have := K0.out.size; have := HBW.out; omega; rw [h]; exact HA.out p' n' c' e')
            have HN1 := Lib.hid hn
            have hn1 := hi.len.1
            have LY := Lib.hid ((((HL.out.keep K0.out).keep b1).drop.add hi).keep ((Below.refl _ _).alloc (Nat.le_refl _) (.cells #[.int .i64 0, .int .i64 0, .slice a1 n1 c1] 24)))
            have LZ := Lib.hid (LY.out.set (by rw [HB.out]; exact Nat.le_refl _) (fun p hp => absurd hp List.not_mem_nil) (fun q hq _ => by rcases List.mem_singleton.1 hq with rfl; exact AP.out) (.int .i64 0) (.int .i64 0) (.slice a1 n1 c1))
            obtain ⟨y0, y1, y2⟩ := LY.out.at_ (b := B) (.head _)
            obtain ⟨f0, f1, f2⟩ := LY.out.fz (b := B) (.head _)
            clear hi hn hr b1
            have e4 : n1 ≤ N := by have := hml.out; rw [List.length_append, List.length_singleton] at hn1; omega
            clear hn1
            go_wp2_with fail
            go_roundw
            case rel => exact ⟨k + 1, came, sent + 1, fst, last, L ++ [Lk.one sent], a1, n1, c1, by omega, rfl, by go_num, rfl, rfl, by go_num, HP2.out, LZ.out, HN1.out, AP.out⟩
            case measure => simp [intOf]; omega
          · have hS : sendB L (N : Int) = false := by unfold sendB; simp; omega
            have hL2 : sendL L (Lk.one sent) (N : Int) = L := by unfold sendL; rw [if_neg (by omega)]
            rw [hS, hL2] at SD
            replace SD := Lib.hid SD
            have HP2 := Lib.hid HP.out.up
            clear hS hL2
            have HLN := Lib.hid HP.out.len
            replace hml := Lib.hid hml
            go_wp2_with fail
            refine SD.out.mono ?_
            rintro e w1 ⟨a1, n1, c1, rfl, hi, hn, hr, b1⟩
            have AP := Lib.hid (show ∀ p n c, Value.slice a1 n1 c1 = .slice (some p) n c → p.block ≠ B from fun p n c e => by rcases hr p n c e with h | ⟨p', n', c', e', h⟩; have := K0.out.size; have := HBW.out; omega; rw [h]; exact HA.out p' n' c' e')
            have HN1 := Lib.hid hn
            have hn1 := hi.len.1
            have LY := Lib.hid ((((HL.out.keep K0.out).keep b1).drop.add hi).keep ((Below.refl _ _).alloc (Nat.le_refl _) (.cells #[.int .i64 0, .int .i64 0, .slice a1 n1 c1] 24)))
            have LZ := Lib.hid (LY.out.set (by rw [HB.out]; exact Nat.le_refl _) (fun p hp => absurd hp List.not_mem_nil) (fun q hq _ => by rcases List.mem_singleton.1 hq with rfl; exact AP.out) (.int .i64 0) (.int .i64 0) (.slice a1 n1 c1))
            obtain ⟨y0, y1, y2⟩ := LY.out.at_ (b := B) (.head _)
            obtain ⟨f0, f1, f2⟩ := LY.out.fz (b := B) (.head _)
            clear hi hn hr b1
            have e4 : n1 ≤ N := by have := HLN.out; omega
            clear hn1
            go_wp2_with fail
            go_roundw
            case rel => exact ⟨k + 1, came, sent, fst, last, L, a1, n1, c1, by omega, rfl, rfl, rfl, rfl, by go_num, HP2.out, LZ.out, HN1.out, AP.out⟩
            case measure => simp [intOf]; omega
        · obtain ⟨y, hy⟩ : ∃ y, q.p % 4 = y := ⟨_, rfl⟩
          have hy2 : (q.p : Int) % 4 = (y : Int) := by omega
          have K0 := Lib.hid (Below.refl wr.heap.size wr)
          have TK := take17_any 0 0 (y : Int) (.slice a m d) L wr (HL.out.is_ (.head _)) HQ.out (by have := HP.out.len; omega)
          have hml : m = L.length := (HL.out.is_ (.head _)).len.1
          clear hy
          by_cases hin : y < m
          · have hS : hasB L (y : Int) = true := decide_eq_true ⟨by omega, by omega⟩
            obtain ⟨z, hz, ez⟩ := HP.out.at_ (k := y) (by omega)
            have hL2 : takeL L (y : Int) = L.take y ++ L.drop (y + 1) := by unfold takeL; rw [if_pos ⟨by omega, by omega⟩]; rfl
            have hS2 : takeS L (y : Int) = Lk.one z := by unfold takeS; rw [if_pos ⟨by omega, by omega⟩]; exact ez
            rw [hS, hL2, hS2] at TK
            obtain ⟨s2, hs2⟩ : ∃ s2, Lk.one z = s2 := ⟨_, rfl⟩
            have hzs : s2.size = 1 := by rw [← hs2]; rfl
            have hzb : ∀ h : 0 < s2.size, (s2[0]'h).toNat = z := by
              subst hs2
              intro h
              show (UInt8.ofNat z).toNat = z
              simp; omega
            rw [hs2] at TK
            replace TK := Lib.hid TK
            clear hs2
            have HLN := Lib.hid HP.out.len
            clear hS hL2 hS2
            have hml2 := Lib.hid hml
            rcases Nat.eq_zero_or_pos y with h0 | h0
            · subst h0
              obtain ⟨hp2, hlt2⟩ := HP.out.first (by omega) hz (by omega) ez
              have HP2 := Lib.hid hp2
              have HT2 := Lib.hid hlt2
              clear hp2 hlt2 hml
              replace ez := Lib.hid ez
              go_wp2_with fail
              refine TK.out.mono ?_
              rintro e w1 ⟨a1, n1, c1, rfl, hi, hn, hr, b1⟩
              have AP := Lib.hid (show ∀ p n c, Value.slice a1 n1 c1 = .slice (some p) n c → p.block ≠ B from fun p n c e => by rcases hr p n c e with h | ⟨p', n', c', e', h⟩; have := K0.out.size; have := HBW.out; omega; rw [h]; exact HA.out p' n' c' e')
              have HN1 := Lib.hid hn
              have hn1 := hi.len.1
              have LY := Lib.hid ((((HL.out.keep K0.out).keep b1).drop.add hi).keep ((Below.refl _ _).alloc (Nat.le_refl _) (.cells #[.int .i64 0, .int .i64 0, .slice a1 n1 c1] 24)))
              have LZ := Lib.hid (LY.out.set (by rw [HB.out]; exact Nat.le_refl _) (fun p hp => absurd hp List.not_mem_nil) (fun q hq _ => by rcases List.mem_singleton.1 hq with rfl; exact AP.out) (.int .i64 0) (.int .i64 0) (.slice a1 n1 c1))
              obtain ⟨y0, y1, y2⟩ := LY.out.at_ (b := B) (.head _)
              obtain ⟨f0, f1, f2⟩ := LY.out.fz (b := B) (.head _)
              clear hi hn hr b1
              have e4 : n1 ≤ N := by have h1 := HLN.out; have h2 := hml2.out; simp at hn1; omega
              clear hn1
              cases fst with
              | false =>
                go_wp2_with fail
                go_roundw
                case rel => exact ⟨k + 1, came + 1, sent, false, (z : Int), L.take 0 ++ L.drop (0 + 1), a1, n1, c1, by omega, by go_num, rfl, rfl, rfl, by go_num, HP2.out, LZ.out, HN1.out, AP.out⟩
                case measure => simp [intOf]; omega
              | true =>
                have hlz := HT2.out rfl
                go_wp2_with fail
                go_roundw
                case rel => exact ⟨k + 1, came + 1, sent, true, (z : Int), L.take 0 ++ L.drop (0 + 1), a1, n1, c1, by omega, by go_num, rfl, rfl, rfl, by go_num, HP2.out, LZ.out, HN1.out, AP.out⟩
                case measure => simp [intOf]; omega
            · have HP2 := Lib.hid (HP.out.take (k := y) (by omega) hz (by omega))
              clear hml ez
              go_wp2_with fail
              refine TK.out.mono ?_
              rintro e w1 ⟨a1, n1, c1, rfl, hi, hn, hr, b1⟩
              have AP := Lib.hid (show ∀ p n c, Value.slice a1 n1 c1 = .slice (some p) n c → p.block ≠ B from fun p n c e => by rcases hr p n c e with h | ⟨p', n', c', e', h⟩; have := K0.out.size; have := HBW.out; omega; rw [h]; exact HA.out p' n' c' e')
              have HN1 := Lib.hid hn
              have hn1 := hi.len.1
              have LY := Lib.hid ((((HL.out.keep K0.out).keep b1).drop.add hi).keep ((Below.refl _ _).alloc (Nat.le_refl _) (.cells #[.int .i64 0, .int .i64 0, .slice a1 n1 c1] 24)))
              have LZ := Lib.hid (LY.out.set (by rw [HB.out]; exact Nat.le_refl _) (fun p hp => absurd hp List.not_mem_nil) (fun q hq _ => by rcases List.mem_singleton.1 hq with rfl; exact AP.out) (.int .i64 0) (.int .i64 0) (.slice a1 n1 c1))
              obtain ⟨y0, y1, y2⟩ := LY.out.at_ (b := B) (.head _)
              obtain ⟨f0, f1, f2⟩ := LY.out.fz (b := B) (.head _)
              clear hi hn hr b1
              have e4 : n1 ≤ N := by have h1 := HLN.out; have h2 := hml2.out; simp at hn1; omega
              clear hn1
              cases fst with
              | false =>
                go_wp2_with fail
                go_roundw
                case rel => exact ⟨k + 1, came + 1, sent, false, (z : Int), L.take y ++ L.drop (y + 1), a1, n1, c1, by omega, by go_num, rfl, rfl, rfl, by go_num, HP2.out, LZ.out, HN1.out, AP.out⟩
                case measure => simp [intOf]; omega
              | true =>
                go_wp2_with fail
                go_roundw
                case rel => exact ⟨k + 1, came + 1, sent, false, (z : Int), L.take y ++ L.drop (y + 1), a1, n1, c1, by omega, by go_num, rfl, rfl, rfl, by go_num, HP2.out, LZ.out, HN1.out, AP.out⟩
                case measure => simp [intOf]; omega
          · have hS : hasB L (y : Int) = false := decide_eq_false fun h => by omega
            have hL2 : takeL L (y : Int) = L := by unfold takeL; rw [if_neg (fun h => by omega)]
            rw [hS, hL2] at TK
            replace TK := Lib.hid TK
            have HP2 := Lib.hid HP.out.up
            have HLN := Lib.hid HP.out.len
            clear hS hL2
            replace hml := Lib.hid hml
            go_wp2_with fail
            refine TK.out.mono ?_
            rintro e w1 ⟨a1, n1, c1, rfl, hi, hn, hr, b1⟩
            have AP := Lib.hid (show ∀ p n c, Value.slice a1 n1 c1 = .slice (some p) n c → p.block ≠ B from fun p n c e => by rcases hr p n c e with h | ⟨p', n', c', e', h⟩; have := K0.out.size; have := HBW.out; omega; rw [h]; exact HA.out p' n' c' e')
            have HN1 := Lib.hid hn
            have hn1 := hi.len.1
            have LY := Lib.hid ((((HL.out.keep K0.out).keep b1).drop.add hi).keep ((Below.refl _ _).alloc (Nat.le_refl _) (.cells #[.int .i64 0, .int .i64 0, .slice a1 n1 c1] 24)))
            have LZ := Lib.hid (LY.out.set (by rw [HB.out]; exact Nat.le_refl _) (fun p hp => absurd hp List.not_mem_nil) (fun q hq _ => by rcases List.mem_singleton.1 hq with rfl; exact AP.out) (.int .i64 0) (.int .i64 0) (.slice a1 n1 c1))
            obtain ⟨y0, y1, y2⟩ := LY.out.at_ (b := B) (.head _)
            obtain ⟨f0, f1, f2⟩ := LY.out.fz (b := B) (.head _)
            clear hi hn hr b1
            have e4 : n1 ≤ N := by have h1 := HLN.out; omega
            clear hn1
            go_wp2_with fail
            go_roundw
            case rel => exact ⟨k + 1, came, sent, fst, last, L, a1, n1, c1, by omega, rfl, rfl, rfl, rfl, by go_num, HP2.out, LZ.out, HN1.out, AP.out⟩
            case measure => simp [intOf]; omega
        · obtain ⟨y, hy⟩ : ∃ y, q.p % 4 = y := ⟨_, rfl⟩
          have hy2 : (q.p : Int) % 4 = (y : Int) := by omega
          have TW := fun (W : World) (h : Below wr.heap.size wr W) => twice17_any 0 0 (y : Int) (N : Int) (.slice a m d) L W ((HL.out.is_ (.head _)).keep h) HQ.out (by have := HP.out.len; omega)
          have hml : m = L.length := (HL.out.is_ (.head _)).len.1
          obtain ⟨L1, hL1⟩ : ∃ L1, twiceL L (y : Int) (N : Int) = L1 := ⟨_, rfl⟩
          obtain ⟨b2, hb2⟩ : ∃ b2, twiceB L (y : Int) (N : Int) = b2 := ⟨_, rfl⟩
          have HP2 : Pl N (k + 1) L1 came sent (if b2 then false else fst) last ∧ (L1 ≠ [] → L ≠ []) := by
            rw [← hL1, ← hb2]
            unfold twiceL twiceB hasB sendB
            by_cases h1 : y < L.length
            · have h0 : L ≠ [] := fun e => by subst e; simp at h1
              rw [if_pos ⟨by omega, by omega⟩, decide_eq_true ⟨by omega, by omega⟩]
              unfold sendL
              by_cases h2 : (L.length : Int) < (N : Int)
              · rw [if_pos h2, decide_eq_true h2]
                exact ⟨HP.out.twice h1 (by omega), fun _ => h0⟩
              · rw [if_neg h2, decide_eq_false h2]
                exact ⟨HP.out.up, fun h => h⟩
            · rw [if_neg (fun h => by omega), decide_eq_false (fun h => by omega)]
              exact ⟨HP.out.up, fun h => h⟩
          replace HP2 := Lib.hid HP2
          rw [hL1, hb2] at TW
          replace TW := Lib.hid TW
          clear hL1 hb2 hml hy
          go_wp2_with fail
          go_cut [18, 19] (fun p o W => ∃ (xb : Nat) (a1 : Option Addr) (n1 c1 : Nat), p = .pointer (some ⟨xb, 0, none⟩) ∧ o = .bool b2 ∧ Lb w [(xb, #[.int .i64 0, .int .i64 0, .slice a1 n1 c1]), (B, #[.int .i64 0, .int .i64 0, .slice a m d])] [(.slice a1 n1 c1, L1)] W ∧ NilOk (.slice a1 n1 c1) ∧ xb ≠ B ∧ ∀ p n c, Value.slice a1 n1 c1 = .slice (some p) n c → p.block ≠ B)
          case first =>
            have LD := Lib.hid (HL.out.keep (Below.refl _ _).drew)
            have BD := Lib.hid ((Below.refl wr.heap.size wr).drew)
            have cg := block_lt_of_cell c1
            have h0 : (fun W : World => Below wr.drew.heap.size wr.drew W) wr.drew := Below.refl _ _
            have TW2 := Lib.hid fun (W : World) (h : Below wr.drew.heap.size wr.drew W) => TW.out W (BD.out.trans h)
            have c1d : wr.drew.cell? ⟨g, off + k * 2 + 1, none⟩ = some (.int .u8 (q.p : Int)) := c1
            have cgd : g < wr.drew.heap.size := cg
            have HBd : B < wr.drew.heap.size := HBW.out
            have hqw : IntKind.i64.wrap (q.p : Int) = (q.p : Int) := by rw [IntKind.wrap_i64]; omega
            have hyt : (q.p : Int).tmod 4 = (y : Int) := by rw [Int.tmod_eq_emod_of_nonneg (by omega)]; exact hy2
            refine region_plain17 (by kernel_rfl) (fun W : World => Below wr.drew.heap.size wr.drew W) 16 rfl #[false, false, false, false, false, false, false, false, false, false, false, false, false, false, false, false] rfl ?_
            clear x0 x1 x2 c0 c1 cg BD TW
            generalize wr.drew = wd at LD h0 TW2 c1d cgd HBd ⊢
            obtain ⟨x0, x1, x2⟩ := LD.out.at_ (b := B) (.head _)
            have SB := Lib.hid ((Below.refl wd.heap.size wd).alloc (Nat.le_refl _) (.cells #[.int .i64 0, .int .i64 0, .slice none 0 0] 24))
            refine wpAnyH_take (i := 0) (v := .agg #[.int .i64 0, .int .i64 0, .slice a m d]) rfl (by kernel_rfl) (by kernel_rfl) (by kernel_rfl) (fun _ _ _ h => h) (Or.inl ⟨by kernel_rfl, fun W' hS => ?_⟩) h0 ?_
            · have c0 := (hS.cell (p := ⟨B, 0, none⟩) HBd).trans x0; have c1 := (hS.cell (p := ⟨B, 1, none⟩) HBd).trans x1; have c2 := (hS.cell (p := ⟨B, 2, none⟩) HBd).trans x2; go_simp
            simp only [Act.put, List.setIfInBounds_toArray, List.set_cons_zero, List.set_cons_succ, List.getElem_toArray, List.getElem_cons_zero]
            refine wpAnyH_take (i := 1) (v := .slice (some ⟨g, off, none⟩) fn fc) rfl (by kernel_rfl) (by kernel_rfl) (by kernel_rfl) (fun _ _ _ h => h) (Or.inl ⟨by kernel_rfl, fun W' hS => ?_⟩) h0 ?_
            · go_simp
            simp only [Act.put, List.setIfInBounds_toArray, List.set_cons_zero, List.set_cons_succ, List.getElem_toArray, List.getElem_cons_succ, List.getElem_cons_zero]
            refine wpAnyH_take (i := 2) (v := .int .i64 k) rfl (by kernel_rfl) (by kernel_rfl) (by kernel_rfl) (fun _ _ _ h => h) (Or.inl ⟨by kernel_rfl, fun W' hS => ?_⟩) h0 ?_
            · go_simp
            simp only [Act.put, List.setIfInBounds_toArray, List.set_cons_zero, List.set_cons_succ, List.getElem_toArray, List.getElem_cons_succ, List.getElem_cons_zero]
            refine wpAnyH_take (i := 3) (v := .pointer (some ⟨g, off + k * 2, none⟩)) rfl (by kernel_rfl) (by kernel_rfl) (by kernel_rfl) (fun _ _ _ h => h) (Or.inl ⟨by kernel_rfl, fun W' hS => ?_⟩) h0 ?_
            · go_simp
            simp only [Act.put, List.setIfInBounds_toArray, List.set_cons_zero, List.set_cons_succ, List.getElem_toArray, List.getElem_cons_succ, List.getElem_cons_zero]
            refine wpAnyH_take (i := 4) (v := .pointer (some ⟨g, off + k * 2 + 1, none⟩)) rfl (by kernel_rfl) (by kernel_rfl) (by kernel_rfl) (fun _ _ _ h => h) (Or.inl ⟨by kernel_rfl, fun W' hS => ?_⟩) h0 ?_
            · go_simp
            simp only [Act.put, List.setIfInBounds_toArray, List.set_cons_zero, List.set_cons_succ, List.getElem_toArray, List.getElem_cons_succ, List.getElem_cons_zero]
            refine wpAnyH_take (i := 5) (v := .int .u8 (q.p : Int)) rfl (by kernel_rfl) (by kernel_rfl) (by kernel_rfl) (fun _ _ _ h => h) (Or.inl ⟨by kernel_rfl, fun W' hS => ?_⟩) h0 ?_
            · have c := (hS.cell (p := ⟨g, off + k * 2 + 1, none⟩) cgd).trans c1d; go_simp
            simp only [Act.put, List.setIfInBounds_toArray, List.set_cons_zero, List.set_cons_succ, List.getElem_toArray, List.getElem_cons_succ, List.getElem_cons_zero]
            refine wpAnyH_take (i := 6) (v := .int .i64 (q.p : Int)) rfl (by kernel_rfl) (by kernel_rfl) (by kernel_rfl) (fun _ _ _ h => h) (Or.inl ⟨by kernel_rfl, fun W' hS => ?_⟩) h0 ?_
            · go_simp
            simp only [Act.put, List.setIfInBounds_toArray, List.set_cons_zero, List.set_cons_succ, List.getElem_toArray, List.getElem_cons_succ, List.getElem_cons_zero]
            refine wpAnyH_take (i := 7) (v := .int .i64 (y : Int)) rfl (by kernel_rfl) (by kernel_rfl) (by kernel_rfl) (fun _ _ _ h => h) (Or.inl ⟨by kernel_rfl, fun W' hS => ?_⟩) h0 ?_
            · go_simp
            simp only [Act.put, List.setIfInBounds_toArray, List.set_cons_zero, List.set_cons_succ, List.getElem_toArray, List.getElem_cons_succ, List.getElem_cons_zero]
            refine wpAnyH_take (i := 8) (v := .int .i64 (N : Int)) rfl (by kernel_rfl) (by kernel_rfl) (by kernel_rfl) (fun _ _ _ h => h) (Or.inl ⟨by kernel_rfl, fun W' hS => ?_⟩) h0 ?_
            · go_simp
            simp only [Act.put, List.setIfInBounds_toArray, List.set_cons_zero, List.set_cons_succ, List.getElem_toArray, List.getElem_cons_succ, List.getElem_cons_zero]
            clear x0 x1 x2 c1d cgd
            refine wpAnyH_ready (rs := [9, 13]) (by kernel_rfl) (by simp) (AllReadyH.cons rfl (fun K hK => ?_) (AllReadyH.cons rfl (fun K hK => ?_) AllReadyH.nil))
            · replace hK := Lib.hid hK
              go_simp
              refine (TW2.out _ h0).mono ?_
              rintro e w1 ⟨a1, n1, c1, rfl, hi, hn, hr, b1⟩
              have S1 := Lib.hid (h0.trans (b1.mono h0.size))
              have LY := Lib.hid (((LD.out.keep b1).drop).add hi)
              have HN1 := Lib.hid hn
              have AP := Lib.hid (show ∀ p n c, Value.slice a1 n1 c1 = .slice (some p) n c → p.block ≠ B from fun p n c e => by rcases hr p n c e with h | ⟨p', n', c', e', h⟩; have := h0.size; omega; rw [h]; exact HA.out p' n' c' e')
              dsimp only
              refine hK.out _ _ S1.out (fun _ => ?_)
              clear hK K hi hn hr b1
              simp only [List.setIfInBounds_toArray, List.set_cons_zero, List.set_cons_succ]
              refine wpAnyH_take (i := 10) (v := .tuple #[.agg #[.int .i64 0, .int .i64 0, .slice a1 n1 c1], .bool b2]) rfl (by kernel_rfl) (by kernel_rfl) (by kernel_rfl) (fun _ _ _ h => h) (Or.inl ⟨by kernel_rfl, fun W' hS => ?_⟩) S1.out ?_
              · go_simp
              simp only [Act.put, List.setIfInBounds_toArray, List.set_cons_zero, List.set_cons_succ, List.getElem_toArray, List.getElem_cons_succ, List.getElem_cons_zero]
              refine wpAnyH_take (i := 11) (v := .agg #[.int .i64 0, .int .i64 0, .slice a1 n1 c1]) rfl (by kernel_rfl) (by kernel_rfl) (by kernel_rfl) (fun _ _ _ h => h) (Or.inl ⟨by kernel_rfl, fun W' hS => ?_⟩) S1.out ?_
              · go_simp
              simp only [Act.put, List.setIfInBounds_toArray, List.set_cons_zero, List.set_cons_succ, List.getElem_toArray, List.getElem_cons_succ, List.getElem_cons_zero]
              refine wpAnyH_take (i := 12) (v := .bool b2) rfl (by kernel_rfl) (by kernel_rfl) (by kernel_rfl) (fun _ _ _ h => h) (Or.inl ⟨by kernel_rfl, fun W' hS => ?_⟩) S1.out ?_
              · go_simp
              simp only [Act.put, List.setIfInBounds_toArray, List.set_cons_zero, List.set_cons_succ, List.getElem_toArray, List.getElem_cons_succ, List.getElem_cons_zero]
              refine wpAnyH_ready (rs := [13]) (by kernel_rfl) (by simp) (AllReadyH.cons rfl (fun K hK => ?_) AllReadyH.nil)
              replace hK := Lib.hid hK
              go_simp
              refine hK.out _ _ (S1.out.alloc S1.out.size _) (fun _ => ?_)
              clear hK K
              simp only [List.setIfInBounds_toArray, List.set_cons_zero, List.set_cons_succ]
              refine wpAnyH_ready (rs := [14]) (by kernel_rfl) (by simp) (AllReadyH.cons rfl (fun K hK => ?_) AllReadyH.nil)
              replace hK := Lib.hid hK
              go_simp
              refine hK.out _ _ (S1.out.alloc S1.out.size _) (fun _ => ?_)
              clear hK K
              simp only [List.setIfInBounds_toArray, List.set_cons_zero, List.set_cons_succ]
              refine wpAnyH_take (i := 15) (v := .bool b2) rfl (by kernel_rfl) (by kernel_rfl) (by kernel_rfl) (fun _ _ _ h => h) (Or.inl ⟨by kernel_rfl, fun W' hS => ?_⟩) (S1.out.alloc S1.out.size _) ?_
              · go_simp
              simp only [Act.put, List.setIfInBounds_toArray, List.set_cons_zero, List.set_cons_succ, List.getElem_toArray, List.getElem_cons_succ, List.getElem_cons_zero]
              refine wpAnyH_done (by kernel_rfl) ?_ _
              go_wp2_with fail
              go_meet
              case rel => exact ⟨w1.heap.size, a1, n1, c1, rfl, rfl, LY.out.new _, HN1.out, (fun e => by have := LY.out.lt (.head _); omega), AP.out⟩
            · replace hK := Lib.hid hK
              go_simp
              refine hK.out _ _ SB.out (fun _ => ?_)
              clear hK K
              simp only [List.setIfInBounds_toArray, List.set_cons_zero, List.set_cons_succ]
              refine wpAnyH_ready (rs := [9]) (by kernel_rfl) (by simp) (AllReadyH.cons rfl (fun K hK => ?_) AllReadyH.nil)
              replace hK := Lib.hid hK
              go_simp
              refine (TW2.out _ SB.out).mono ?_
              rintro e w1 ⟨a1, n1, c1, rfl, hi, hn, hr, b1⟩
              have S1 := Lib.hid (SB.out.trans (b1.mono SB.out.size))
              have LY := Lib.hid ((((LD.out.new #[.int .i64 0, .int .i64 0, .slice none 0 0]).keep b1).drop).add hi)
              have AX := Lib.hid (show L1 ≠ [] → ∀ p n c, Value.slice a1 n1 c1 = .slice (some p) n c → p.block ≠ wd.heap.size from fun h p n c e => by rcases hr p n c e with h1 | ⟨p', n', c', e', h1⟩; simp at h1; omega; have := ls_lt (LD.out.is_ (.head _)) (HP2.out.2 h) p' n' c' e'; omega)
              have HN1 := Lib.hid hn
              have AP := Lib.hid (show ∀ p n c, Value.slice a1 n1 c1 = .slice (some p) n c → p.block ≠ B from fun p n c e => by rcases hr p n c e with h | ⟨p', n', c', e', h⟩; have := SB.out.size; omega; rw [h]; exact HA.out p' n' c' e')
              dsimp only
              refine hK.out _ _ S1.out (fun _ => ?_)
              clear hK K hi hn hr b1
              simp only [List.setIfInBounds_toArray, List.set_cons_zero, List.set_cons_succ]
              refine wpAnyH_take (i := 10) (v := .tuple #[.agg #[.int .i64 0, .int .i64 0, .slice a1 n1 c1], .bool b2]) rfl (by kernel_rfl) (by kernel_rfl) (by kernel_rfl) (fun _ _ _ h => h) (Or.inl ⟨by kernel_rfl, fun W' hS => ?_⟩) S1.out ?_
              · go_simp
              simp only [Act.put, List.setIfInBounds_toArray, List.set_cons_zero, List.set_cons_succ, List.getElem_toArray, List.getElem_cons_succ, List.getElem_cons_zero]
              refine wpAnyH_take (i := 11) (v := .agg #[.int .i64 0, .int .i64 0, .slice a1 n1 c1]) rfl (by kernel_rfl) (by kernel_rfl) (by kernel_rfl) (fun _ _ _ h => h) (Or.inl ⟨by kernel_rfl, fun W' hS => ?_⟩) S1.out ?_
              · go_simp
              simp only [Act.put, List.setIfInBounds_toArray, List.set_cons_zero, List.set_cons_succ, List.getElem_toArray, List.getElem_cons_succ, List.getElem_cons_zero]
              refine wpAnyH_take (i := 12) (v := .bool b2) rfl (by kernel_rfl) (by kernel_rfl) (by kernel_rfl) (fun _ _ _ h => h) (Or.inl ⟨by kernel_rfl, fun W' hS => ?_⟩) S1.out ?_
              · go_simp
              simp only [Act.put, List.setIfInBounds_toArray, List.set_cons_zero, List.set_cons_succ, List.getElem_toArray, List.getElem_cons_succ, List.getElem_cons_zero]
              refine wpAnyH_ready (rs := [14]) (by kernel_rfl) (by simp) (AllReadyH.cons rfl (fun K hK => ?_) AllReadyH.nil)
              replace hK := Lib.hid hK
              obtain ⟨z0, z1, z2⟩ := LY.out.fz (.head _)
              obtain ⟨t0, t1, t2⟩ := LY.out.at_ (.head _)
              go_simp
              have S6 := Lib.hid (bel_put (w := wd) (bel_put (w := wd) (bel_put (w := wd) (k := wd.heap.size) (j := 0) (u := .int .i64 0) S1.out (Nat.le_refl _)) (k := wd.heap.size) (j := 1) (u := .int .i64 0) (Nat.le_refl _)) (k := wd.heap.size) (j := 2) (u := .slice a1 n1 c1) (Nat.le_refl _))
              refine hK.out _ _ S6.out (fun _ => ?_)
              clear hK K z0 z1 z2 t0 t1 t2
              simp only [List.setIfInBounds_toArray, List.set_cons_zero, List.set_cons_succ]
              refine wpAnyH_take (i := 15) (v := .bool b2) rfl (by kernel_rfl) (by kernel_rfl) (by kernel_rfl) (fun _ _ _ h => h) (Or.inl ⟨by kernel_rfl, fun W' hS => ?_⟩) S6.out ?_
              · go_simp
              simp only [Act.put, List.setIfInBounds_toArray, List.set_cons_zero, List.set_cons_succ, List.getElem_toArray, List.getElem_cons_succ, List.getElem_cons_zero]
              refine wpAnyH_done (by kernel_rfl) ?_ _
              go_wp2_with fail
              go_meet
              case rel =>
                refine ⟨wd.heap.size, a1, n1, c1, rfl, rfl, ?_, HN1.out, (fun e => by omega), AP.out⟩
                exact LY.out.set LD.out.w.size (fun p hp => by rcases List.mem_singleton.1 hp with rfl; show B ≠ _; omega) (fun p hp h0 => by rcases List.mem_singleton.1 hp with rfl; exact AX.out h0) _ _ _
          case rest =>
            obtain ⟨xb, a1, n1, c1, rfl, rfl, hLx, hN1, hne, hap1⟩ := hcut
            have LX := Lib.hid hLx
            have HN1 := Lib.hid hN1
            have AP := Lib.hid hap1
            have e4 : n1 ≤ N := by have h1 := HP2.out.1.len; have h2 := (LX.out.is_ (.head _)).len.1; omega
            have LZ := Lib.hid (LX.out.forget.set (by rw [HB.out]; exact Nat.le_refl _) (fun p hp => absurd hp List.not_mem_nil) (fun q hq _ => by rcases List.mem_singleton.1 hq with rfl; exact AP.out) (.int .i64 0) (.int .i64 0) (.slice a1 n1 c1))
            obtain ⟨y0, y1, y2⟩ := LX.out.at_ (b := B) (.tail _ (.head _))
            obtain ⟨f0, f1, f2⟩ := LX.out.fz (b := B) (.tail _ (.head _))
            obtain ⟨t0, t1, t2⟩ := LX.out.at_ (b := xb) (.head _)
            clear x0 x1 x2
            cases b2 with
            | false =>
              go_wp2_with fail
              go_roundw
              case rel => exact ⟨k + 1, came, sent, fst, last, L1, a1, n1, c1, by omega, rfl, rfl, rfl, rfl, by go_num, HP2.out.1, LZ.out, HN1.out, AP.out⟩
              case measure => simp [intOf]; omega
            | true =>
              go_wp2_with fail
              go_roundw
              case rel => exact ⟨k + 1, came, sent, false, last, L1, a1, n1, c1, by omega, rfl, rfl, rfl, rfl, by go_num, HP2.out.1, LZ.out, HN1.out, AP.out⟩
              case measure => simp [intOf]; omega
      · obtain rfl : k = fn := by omega
        have hml := Lib.hid (HL.out.is_ (.head _)).len.1
        have HS := Lib.hid HP.out.si
        have HC := Lib.hid HP.out.ci
        have HF := Lib.hid HP.out.f
        have HLN := Lib.hid HP.out.len
        cases fst with
        | false =>
          go_wp2_with fail
          refine (AW.out _).mono ?_
          rintro e w1 ⟨rfl, b1⟩
          have B1 := Lib.hid (HL.out.w.trans (b1.mono HL.out.w.size))
          clear b1
          go_wp2_with fail
          go_ret
          exact ⟨rfl, B1.out⟩
        | true =>
          have e5 : ((came : Int) + (m : Int) == (sent : Int)) = true := by have := (HF.out rfl).1; have := hml.out; rw [beq_iff_eq]; omega
          have e6 : wrap64 ((came : Int) + (m : Int)) = (came : Int) + (m : Int) := by have h1 := (HF.out rfl).1; have h2 := hml.out; have h3 := HS.out; unfold wrap64; omega
          go_wp2_with fail
          refine (AW.out _).mono ?_
          rintro e w1 ⟨rfl, b1⟩
          have B1 := Lib.hid (HL.out.w.trans (b1.mono HL.out.w.size))
          obtain ⟨y0, y1, y2⟩ := (HL.out.keep b1).at_ (b := B) (.head _)
          clear b1
          go_wp2_with fail
          go_ret
          exact ⟨by first | rfl | simp [e5], B1.out⟩
  · have e1 : decide (60 < (fn : Int)) = true := by simp; omega
    go_enter Try.func4, Try.ntmps4
    go_wp2_with fail
    refine (AW.out _).mono ?_
    rintro e w1 ⟨rfl, b1⟩
    have B1 := Lib.hid b1
    clear b1
    go_wp2_with fail
    go_ret
    exact ⟨rfl, B1.out⟩

end Go.Proofs.Ytfocdjpopjllpaa.Lk
