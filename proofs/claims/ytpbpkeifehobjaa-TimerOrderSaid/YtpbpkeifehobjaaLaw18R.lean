/-
  TimerOrder, walked.
-/
import Derived.Test.YtpbpkeifehobjaaTimWo
import Derived.Test.YtpbpkeifehobjaaTimOrd
import Derived.Test.YtpbpkeifehobjaaTill
import Derived.BigQuiet
namespace Go.Proofs.Ytpbpkeifehobjaa.Tm
open Go.RowKit Go.BigFrame Go.Proofs.Ytpbpkeifehobjaa.Tp Go.Proofs.Ytpbpkeifehobjaa.Aps

/-- Bytes that came in. -/
structure By (fa : Option Addr) (fn : Nat) (z : Nat → Int) (w : World) : Prop where
  b : ∀ i, i < fn → 0 ≤ z i ∧ z i ≤ 255
  c : ∀ i, i < fn → ∃ g off, fa = some ⟨g, off, none⟩ ∧ ∀ j, j < fn → w.cell? ⟨g, off + j, none⟩ = some (.int .u8 (z j))
theorem By.keep {fa : Option Addr} {fn : Nat} {z : Nat → Int} {w W : World} (h : By fa fn z w) (k : Below w.heap.size w W) : By fa fn z W := by
  refine ⟨h.b, fun i hi => ?_⟩
  obtain ⟨g, off, e, hc⟩ := h.c i hi
  exact ⟨g, off, e, fun j hj => (k.cell (p := ⟨g, off + j, none⟩) (block_lt_of_cell (hc j hj))).trans (hc j hj)⟩

set_option maxRecDepth 100000 in
set_option maxHeartbeats 12800000 in
theorem order18 (fa : Option Addr) (fn fc : Nat) (z : Nat → Int) (w : World) (hv : By fa fn z w) :
    Calls Try.prog 5 #[.slice fa fn fc] w fun e w' => e = .returned (.bool true) ∧ Below w.heap.size w w' := by
  have mixed : Try.prog.follows Departure.mixedOrders = true := by kernel_rfl
  have AW := Lib.hid fun W : World => awake18 W
  have HV := Lib.hid hv
  clear hv
  by_cases hl : fn ≤ 30
  · have WS := Lib.hid (Wo.start w)
    go_enter Try.func5, Try.ntmps5
    go_upto_block 0 with fail
    generalize World.alloc w _ = w0 at WS ⊢
    obtain ⟨B, hB⟩ : ∃ B, w.heap.size = B := ⟨_, rfl⟩
    have hB0 : w.heap.size ≤ B := by omega
    rw [hB] at WS ⊢
    clear hB
    go_cut [4] (fun _ W => ∃ (L : List Al) (va : Option Addr) (vn vc : Nat), Od z fn 0 0 L ∧ L.length = fn ∧ Wo w B 0 L (.slice va vn vc) W)
    case first =>
      go_wp2_with fail
      go_loopw [4] (fun i W => ∃ (k : Nat) (L : List Al) (va : Option Addr) (vn vc : Nat), k ≤ fn ∧ i = .int .i64 ((k : Int) - 1) ∧ Od z fn k 0 L ∧ L.length + k = fn ∧ Wo w B 0 L (.slice va vn vc) W) (fun i _ => (intOf i + 1).toNat)
      case atStart => exact ⟨fn, [], none, 0, 0, Nat.le_refl _, rfl, Od.start z fn, by simp, WS.out⟩
      case round =>
        obtain ⟨k, L, va, vn, vc, hk, rfl, hO, hL, hW⟩ := hrel
        have HO := Lib.hid hO
        have HW := Lib.hid hW
        clear hO hW
        cases k with
        | zero =>
          go_wp2_with fail
          go_meet
          case rel => exact ⟨L, va, vn, vc, HO.out, by omega, HW.out⟩
        | succ k =>
          rw [show ((k + 1 : Nat) : Int) - 1 = k by omega]
          obtain ⟨hz0, hz1⟩ := HV.out.b k (by omega)
          obtain ⟨g, off, rfl, _⟩ := HV.out.c k (by omega)
          have hrem : (z k).tmod 16 = z k % 16 := Int.tmod_eq_emod_of_nonneg hz0
          go_wp2_with fail
          have LD := Lib.hid (HW.out.keep (Below.refl _ _).drew)
          have VD := Lib.hid (HV.out.keep LD.out.b.w)
          have h0 : (fun W : World => Below wr.drew.heap.size wr.drew W) wr.drew := Below.refl _ _
          refine region_till (by kernel_rfl) (fun W : World => Below wr.drew.heap.size wr.drew W) 9 10 rfl #[false, false, false, false, false, false, false, false, false, false] rfl ?_
          generalize wr.drew = wd at LD VD h0 ⊢
          obtain ⟨x0, x1⟩ := LD.out.b.at2 (b := B) (.head _)
          have lb : B < wd.heap.size := LD.out.b.lt (.head _)
          have hcell : wd.cell? ⟨g, off + k, none⟩ = some (.int .u8 (z k)) := by obtain ⟨g', off', e, h⟩ := VD.out.c k (by omega); cases e; exact h k (by omega)
          have lg : g < wd.heap.size := block_lt_of_cell hcell
          refine Till.take (i := 0) (v := .agg #[.int .i64 0, .slice va vn vc]) rfl (by kernel_rfl) (by kernel_rfl) (by kernel_rfl) (by kernel_rfl) (fun _ _ _ h => h) (Or.inl ⟨by kernel_rfl, fun W' hS => ?_⟩) h0 ?_
          · have d0 := (hS.cell (p := ⟨B, 0, none⟩) lb).trans x0; have d1 := (hS.cell (p := ⟨B, 1, none⟩) lb).trans x1; go_simp
          simp only [Act.put, List.setIfInBounds_toArray, List.set_cons_zero, List.set_cons_succ, List.getElem_toArray, List.getElem_cons_zero]
          refine Till.take (i := 1) (v := .int .i64 k) rfl (by kernel_rfl) (by kernel_rfl) (by kernel_rfl) (by kernel_rfl) (fun _ _ _ h => h) (Or.inl ⟨by kernel_rfl, fun W' hS => ?_⟩) h0 ?_
          · go_simp
          simp only [Act.put, List.setIfInBounds_toArray, List.set_cons_zero, List.set_cons_succ, List.getElem_toArray, List.getElem_cons_succ, List.getElem_cons_zero]
          refine Till.take (i := 2) (v := .slice (some ⟨g, off, none⟩) fn fc) rfl (by kernel_rfl) (by kernel_rfl) (by kernel_rfl) (by kernel_rfl) (fun _ _ _ h => h) (Or.inl ⟨by kernel_rfl, fun W' hS => ?_⟩) h0 ?_
          · go_simp
          simp only [Act.put, List.setIfInBounds_toArray, List.set_cons_zero, List.set_cons_succ, List.getElem_toArray, List.getElem_cons_succ, List.getElem_cons_zero]
          refine Till.take (i := 3) (v := .int .i64 k) rfl (by kernel_rfl) (by kernel_rfl) (by kernel_rfl) (by kernel_rfl) (fun _ _ _ h => h) (Or.inl ⟨by kernel_rfl, fun W' hS => ?_⟩) h0 ?_
          · go_simp
          simp only [Act.put, List.setIfInBounds_toArray, List.set_cons_zero, List.set_cons_succ, List.getElem_toArray, List.getElem_cons_succ, List.getElem_cons_zero]
          refine Till.take (i := 4) (v := .pointer (some ⟨g, off + k, none⟩)) rfl (by kernel_rfl) (by kernel_rfl) (by kernel_rfl) (by kernel_rfl) (fun _ _ _ h => h) (Or.inl ⟨by kernel_rfl, fun W' hS => ?_⟩) h0 ?_
          · go_simp; intro h; omega
          simp only [Act.put, List.setIfInBounds_toArray, List.set_cons_zero, List.set_cons_succ, List.getElem_toArray, List.getElem_cons_succ, List.getElem_cons_zero]
          refine Till.take (i := 5) (v := .int .u8 (z k)) rfl (by kernel_rfl) (by kernel_rfl) (by kernel_rfl) (by kernel_rfl) (fun _ _ _ h => h) (Or.inl ⟨by kernel_rfl, fun W' hS => ?_⟩) h0 ?_
          · have d := (hS.cell (p := ⟨g, off + k, none⟩) lg).trans hcell; go_simp
          simp only [Act.put, List.setIfInBounds_toArray, List.set_cons_zero, List.set_cons_succ, List.getElem_toArray, List.getElem_cons_succ, List.getElem_cons_zero]
          refine Till.take (i := 6) (v := .int .u8 (z k % 16)) rfl (by kernel_rfl) (by kernel_rfl) (by kernel_rfl) (by kernel_rfl) (fun _ _ _ h => h) (Or.inl ⟨by kernel_rfl, fun W' hS => ?_⟩) h0 ?_
          · go_simp
          simp only [Act.put, List.setIfInBounds_toArray, List.set_cons_zero, List.set_cons_succ, List.getElem_toArray, List.getElem_cons_succ, List.getElem_cons_zero]
          refine Till.take (i := 7) (v := .int .i64 (z k % 16)) rfl (by kernel_rfl) (by kernel_rfl) (by kernel_rfl) (by kernel_rfl) (fun _ _ _ h => h) (Or.inl ⟨by kernel_rfl, fun W' hS => ?_⟩) h0 ?_
          · go_simp; rw [IntKind.wrap_i64]; omega
          simp only [Act.put, List.setIfInBounds_toArray, List.set_cons_zero, List.set_cons_succ, List.getElem_toArray, List.getElem_cons_succ, List.getElem_cons_zero]
          clear x0 x1 hcell
          refine Till.ready (rs := [8]) (by kernel_rfl) (by simp) (TillAll.cons rfl (fun K hK => ?_) TillAll.nil)
          replace hK := Lib.hid hK
          go_simp
          refine (arm18_any 0 k (z k % 16) (.slice va vn vc) L wd LD.out.lv (by omega) (by omega) (by omega) (by omega) HO.out.r).mono ?_
          rintro e w5 ⟨a1, n1, r1, rfl, hi1, hn1, hr1, b1⟩
          have P5 := Lib.hid (LD.out.put (now' := 0) hB0 b1 hi1 hn1 hr1)
          obtain ⟨z0, z1⟩ := (LD.out.b.keep b1).fz2 (.head _)
          obtain ⟨t0, t1⟩ := (LD.out.b.keep b1).at2 (.head _)
          dsimp only
          refine hK.out _ _ b1 (fun _ => ?_)
          clear hK K
          simp only [List.setIfInBounds_toArray, List.set_cons_zero, List.set_cons_succ]
          refine Till.ready (rs := [9]) (by kernel_rfl) (by simp) (TillAll.last rfl (fun K hK => ?_))
          replace hK := Lib.hid hK
          go_simp
          refine hK.out _ _ ?_
          clear hK K
          simp only [List.setIfInBounds_toArray, List.set_cons_zero, List.set_cons_succ]
          refine Till.done (by kernel_rfl) ?_ _
          go_wp2_with fail
          go_roundw
          case rel => exact ⟨k, _, a1, n1, r1, by omega, rfl, (HO.out.arm (by omega)).1, by rw [(HO.out.arm (by omega)).2]; omega, P5.out⟩
          case measure => simp [intOf]
    case rest =>
      obtain ⟨L0, va, vn, vc, hO, hL0, hW⟩ := hcut
      have HO := Lib.hid hO
      have HW := Lib.hid hW
      clear hO hW
      go_wp2_with fail
      go_loopw [5, 6] (fun c i W => ∃ (t n : Nat) (L : List Al) (va : Option Addr) (vn vc : Nat), t ≤ 16 ∧ i = .int .i64 ((t : Int) + 1) ∧ c = .int .i64 n ∧ Od z fn 0 t L ∧ n + L.length = fn ∧ Wo w B t L (.slice va vn vc) W) (fun _ i _ => 17 - (intOf i).toNat)
      case atStart => exact ⟨0, 0, L0, va, vn, vc, by omega, rfl, rfl, HO.out, by omega, HW.out⟩
      case round =>
        obtain ⟨t, n, L, va, vn, vc, ht, rfl, rfl, hO, hL, hW⟩ := hrel
        have HO := Lib.hid hO
        have HW := Lib.hid hW
        clear hO hW
        by_cases hlt : t < 16
        · obtain ⟨x0, x1⟩ := HW.out.b.at2 (b := B) (.head _)
          have TK := Lib.hid (tick18_any t (.slice va vn vc) L wr HW.out.lv (by omega) (by omega) (by omega) HO.out.r HW.out.nv)
          go_wp2_with fail
          refine TK.out.mono ?_
          rintro e w5 ⟨a1, n1, r1, p1, m1, d1, rfl, hi1, hn1, hr1, ho1, hp1, b1⟩
          have V5 := (Below.refl w5.heap.size w5).alloc (Nat.le_refl _) (.cells #[.int .i64 (t + 1), .slice a1 n1 r1] 26)
          have K5 := b1.alloc b1.size (.cells #[.int .i64 (t + 1), .slice a1 n1 r1] 26)
          have P5 := Lib.hid (HW.out.put (now' := t + 1) hB0 K5 (hi1.keep V5) hn1 (fun p n c e => (hr1 p n c e).imp (fun h => ⟨h.1, Nat.lt_of_lt_of_le h.2 V5.size⟩) (fun h => h)))
          have hBw : B < wr.heap.size := HW.out.b.lt (.head _)
          have O5 := Lib.hid (isl_put (isl_put (ho1.keep V5) B 0 (.int .i64 (t + 1)) (fun _ p n c e => by have := hp1 p n c e; omega)) B 1 (.slice a1 n1 r1) (fun _ p n c e => by have := hp1 p n c e; omega))
          obtain ⟨z0, z1⟩ := (HW.out.b.keep K5).fz2 (.head _)
          obtain ⟨t0, t1⟩ := (HW.out.b.keep K5).at2 (.head _)
          have HM := Lib.hid ho1.len
          clear hi1 hn1 hr1 b1 x0 x1 TK ho1 hp1 V5 K5
          go_wp2_with fail
          generalize ((World.alloc w5 _).setCell _ _).setCell _ _ = w6 at P5 O5 ⊢
          have HML := Lib.hid HM.out.1
          have HPL := Lib.hid (part_len L (t + 1))
          have HOT := Lib.hid HO.out.tick
          go_loopw [5, 9] (fun c i W => ∃ j q : Nat, j ≤ m1 ∧ i = .int .i64 j ∧ c = .int .i64 (n + j : Nat) ∧ W = w6.drewN q) (fun _ i _ => m1 - (intOf i).toNat)
          case atStart => exact ⟨0, 0, Nat.zero_le _, rfl, rfl, rfl⟩
          case round =>
            obtain ⟨j, q, hj, rfl, rfl, rfl⟩ := hrel
            have KD := bel_drewN (w := w6) q
            have P6 := Lib.hid (P5.out.keep KD)
            have V6 := Lib.hid (HV.out.keep P5.out.b.w)
            clear KD
            by_cases hlj : j < m1
            · obtain ⟨a, ha, hra, hda⟩ := HO.out.ring (j := j) (by rw [← HML.out]; exact hlj)
              obtain ⟨g, off, rfl, d0⟩ := nl_at O5.out hlj
              rw [hra] at d0
              obtain ⟨hz0, hz1⟩ := HV.out.b a ha
              have hcell : ∃ g' off', fa = some ⟨g', off', none⟩ ∧ w6.cell? ⟨g', off' + a, none⟩ = some (.int .u8 (z a)) := by
                obtain ⟨g', off', e, h⟩ := V6.out.c a ha
                exact ⟨g', off', e, h a ha⟩
              obtain ⟨g', off', rfl, hc0⟩ := hcell
              have hmx : max (z a % 16) 1 = (t : Int) + 1 := hda
              obtain ⟨y, hy, hyt⟩ : ∃ y : Int, (z a).tmod 16 = y ∧ ((y = 0 ∧ t = 0) ∨ y = (t : Int) + 1) := ⟨_, Int.tmod_eq_emod_of_nonneg hz0, by omega⟩
              clear hmx hda
              by_cases hj0 : 0 < j
              · obtain ⟨i, hi⟩ : ∃ i, j = i + 1 := ⟨j - 1, by omega⟩
                have hji : (j : Int) - 1 = i := by omega
                have hil : i < m1 := by omega
                have hm30 : m1 ≤ 30 := by have := HML.out; have := HPL.out; omega
                have HI := Lib.hid hi
                obtain ⟨g2, off2, e2, f0⟩ := nl_at O5.out (i := i) (by omega)
                cases e2
                obtain ⟨b, hb, hrb, _⟩ := HO.out.ring (j := i) (by rw [← HML.out]; omega)
                have hba := HO.out.rise (j := i) (by rw [← HML.out, ← hi]; exact hlj)
                rw [← hi, hrb, hra] at hba
                rw [hrb] at f0
                clear hi
                go_wp2_with fail
                have hx2 : decide ((0 : Int) < j) = true := decide_eq_true (by omega)
                have hy2 : decide (0 < j) = true := decide_eq_true (by omega)
                have hx0 : decide ((a : Int) < 0) = false := decide_eq_false (by omega)
                have hx1 : decide ((fn : Int) ≤ a) = false := decide_eq_false (by omega)
                have hy1 : decide (fn ≤ a) = false := decide_eq_false (by omega)
                have hx3 : decide ((a : Int) ≤ b) = false := decide_eq_false (by omega)
                have hy3 : decide (a ≤ b) = false := decide_eq_false (by omega)
                rcases hyt with ⟨rfl, rfl⟩ | rfl
                · refine wp_region_quiet_lit (by kernel_rfl) (by kernel_rfl) ?_
                  repeat (go_big_quiet_step (fail))
                  refine wpQuiet_nil ?_
                  intro _ hw'
                  obtain ⟨nq, hw''⟩ := hw'
                  subst hw''
                  go_wp2_with fail
                  go_roundw
                  case rel => exact ⟨j + 1, _, by omega, by go_num, by go_num, rfl⟩
                  case measure => simp [intOf]; omega
                · have hx4 : ¬ ((t : Int) + 1 < 1) := by omega
                  refine wp_region_quiet_lit (by kernel_rfl) (by kernel_rfl) ?_
                  repeat (go_big_quiet_step (fail))
                  refine wpQuiet_nil ?_
                  intro _ hw'
                  obtain ⟨nq, hw''⟩ := hw'
                  subst hw''
                  go_wp2_with fail
                  go_roundw
                  case rel => exact ⟨j + 1, _, by omega, by go_num, by go_num, rfl⟩
                  case measure => simp [intOf]; omega
              · go_wp2_with fail
                have hx2 : decide ((0 : Int) < j) = false := decide_eq_false (by omega)
                have hy2 : decide (0 < j) = false := decide_eq_false (by omega)
                have hx0 : decide ((a : Int) < 0) = false := decide_eq_false (by omega)
                have hx1 : decide ((fn : Int) ≤ a) = false := decide_eq_false (by omega)
                have hy1 : decide (fn ≤ a) = false := decide_eq_false (by omega)
                rcases hyt with ⟨rfl, rfl⟩ | rfl
                · go_quiet (fail)
                  go_wp2_with fail
                  go_roundw
                  case rel => exact ⟨j + 1, _, by omega, by go_num, by go_num, rfl⟩
                  case measure => simp [intOf]; omega
                · have hx4 : ¬ ((t : Int) + 1 < 1) := by omega
                  go_quiet (fail)
                  go_wp2_with fail
                  go_roundw
                  case rel => exact ⟨j + 1, _, by omega, by go_num, by go_num, rfl⟩
                  case measure => simp [intOf]; omega
            · obtain rfl : j = m1 := by omega
              go_wp2_with fail
              go_roundw
              case rel => exact ⟨t + 1, n + j, _, a1, n1, r1, by omega, by go_num, rfl, by have := HOT.out; push_cast; exact this, by have h1 := HPL.out; have h2 := HML.out; omega, by have := P6.out; push_cast; exact this⟩
              case measure => simp [intOf]; omega
        · obtain rfl : t = 16 := by omega
          obtain rfl := HO.out.last
          obtain ⟨x0, x1⟩ := HW.out.b.at2 (b := B) (.head _)
          go_wp2_with fail
          refine (AW.out _).mono ?_
          rintro e w9 ⟨rfl, b9⟩
          have W9 := Lib.hid (HW.out.keep b9)
          clear x0 x1 b9
          obtain ⟨x0, x1⟩ := W9.out.b.at2 (b := B) (.head _)
          obtain rfl : vn = 0 := W9.out.lv.len.1
          obtain rfl : n = fn := by simpa using hL
          go_wp2_with fail
          go_ret
          exact ⟨rfl, W9.out.b.w⟩
  · have e1 : decide (30 < (fn : Int)) = true := by simp; omega
    go_enter Try.func5, Try.ntmps5
    go_wp2_with fail
    refine (AW.out _).mono ?_
    rintro e w1 ⟨rfl, b1⟩
    have B1 := Lib.hid b1
    clear b1
    go_wp2_with fail
    go_ret
    exact ⟨rfl, B1.out⟩

end Go.Proofs.Ytpbpkeifehobjaa.Tm
