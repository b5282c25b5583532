/-
  TimerPlays, walked.
-/
import Derived.Test.YtpbpkeifehobjaaTimWp
namespace Go.Proofs.Ytpbpkeifehobjaa.Tm
open Go.RowKit Go.Proofs.Ytpbpkeifehobjaa.Tp Go.Proofs.Ytpbpkeifehobjaa.Aps

set_option maxRecDepth 100000 in
set_option maxHeartbeats 3200000 in
theorem plays18 (fa : Option Addr) (fn fc : Nat) (zs : List Ac) (w : World) (hv : IsL AcL w (.slice fa fn fc) zs) :
    Calls Try.prog 3 #[.slice fa fn fc] w fun e w' => e = .returned (.bool true) ∧ Below w.heap.size w w' := by
  have mixed : Try.prog.follows Departure.mixedOrders = true := by kernel_rfl
  have AW := Lib.hid fun W : World => awake18 W
  have HV := Lib.hid hv
  clear hv
  by_cases hl : fn ≤ 80
  · have e1 : decide (80 < (fn : Int)) = false := by simp; omega
    have WS := Lib.hid (Wp.start w)
    go_enter Try.func3, Try.ntmps3
    go_wp2_with fail
    generalize (World.alloc w _).alloc _ = w0 at WS ⊢
    obtain ⟨B, hB⟩ : ∃ B, w.heap.size = B := ⟨_, rfl⟩
    rw [hB] at WS ⊢
    have HB := Lib.hid hB
    clear hB
    go_loopw [5] (fun i W => ∃ (k : Nat) (now : Int) (L : List Al) (va ua : Option Addr) (vn vc un uc : Nat), k ≤ fn ∧ i = .int .i64 k ∧ (0 ≤ now ∧ now ≤ k) ∧ L.length ≤ k ∧ Right L ∧ Wp w B now L (.slice va vn vc) (.slice ua un uc) W) (fun i _ => fn - (intOf i).toNat)
    case atStart => exact ⟨0, 0, [], none, none, 0, 0, 0, 0, Nat.zero_le _, rfl, ⟨Int.le_refl _, by simp⟩, by simp, Right.nil, WS.out⟩
    case round =>
      obtain ⟨k, now, L, va, ua, vn, vc, un, uc, hk, rfl, hnow, hL, hR, hW⟩ := hrel
      have HW := Lib.hid hW
      have HR := Lib.hid hR
      clear hW hR
      by_cases hlt : k < fn
      · obtain ⟨g, off, rfl, c0, c1, c2, hq⟩ := ac_at (HV.out.keep HW.out.b.w) hlt
        generalize zs.getD k aczero = q at *
        obtain ⟨qk, qi, qa⟩ := q
        dsimp only at c0 c1 c2
        have HQ := Lib.hid hq
        clear hq
        have W1 := Lib.hid (HW.out.keep ((Below.refl _ _).alloc (Nat.le_refl _) (.cells #[.int .i64 qk, .int .i64 qi, .int .i64 qa] 28)))
        by_cases hq : 1099511627776 < qa
        · go_wp2_with fail
          go_roundw
          case rel => exact ⟨k + 1, now, L, va, ua, vn, vc, un, uc, by omega, by go_num, ⟨hnow.1, by omega⟩, by omega, HR.out, W1.out⟩
          case measure => simp [intOf]; omega
        · -- FROM HERE
          go_wp2_with fail
          have hA := heap_alloc_new wr (.cells #[.int .i64 qk, .int .i64 qi, .int .i64 qa] 28)
          obtain ⟨A, hAe⟩ : ∃ A, wr.heap.size = A := ⟨_, rfl⟩
          have hA1 : (wr.alloc (.cells #[.int .i64 qk, .int .i64 qi, .int .i64 qa] 28)).heap.size = A + 1 := by simp [hAe]
          have hBA : B + 1 < A := by rw [← hAe]; exact HW.out.b.lt (.tail _ (.head _))
          rw [hAe] at hA ⊢
          generalize World.alloc wr _ = w1 at W1 hA hA1 ⊢
          have HA := Lib.hid hA
          have HA1 := Lib.hid hA1
          clear hA hA1 hAe c0 c1 c2
          have hqa : qa ≤ 1099511627776 := by omega
          go_cut [7, 8] (fun p q W => ∃ xb yb : Nat, p = .pointer (some ⟨xb, 0, none⟩) ∧ q = .pointer (some ⟨yb, 0, none⟩) ∧ Bs w1 [(xb, #[.int .i64 now, .slice va vn vc], 26), (yb, #[.int .i64 now, .slice ua un uc], 26)] W ∧ A < xb ∧ A < yb ∧ xb ≠ yb)
          case first =>
            have BD := Lib.hid ((Bs.start w1).keep (Below.refl _ _).drew)
            have WD := Lib.hid (W1.out.keep (Below.refl _ _).drew)
            have hn1 : w1.drew.heap.size = A + 1 := HA1.out
            have h0 : (fun W : World => Below w1.drew.heap.size w1.drew W) w1.drew := Below.refl _ _
            refine region_any (by kernel_rfl) (fun W : World => Below w1.drew.heap.size w1.drew W) 6 rfl #[false, false, false, false, false, false] rfl ?_
            generalize w1.drew = wd at BD WD h0 hn1 ⊢
            have HN := Lib.hid hn1
            obtain ⟨x0, x1⟩ := WD.out.b.at2 (b := B) (.head _)
            obtain ⟨y0, y1⟩ := WD.out.b.at2 (b := B + 1) (.tail _ (.head _))
            have lb : B < wd.heap.size := by omega
            have lb1 : B + 1 < wd.heap.size := by omega
            clear hn1
            have SA := Lib.hid ((Below.refl wd.heap.size wd).alloc (Nat.le_refl _) (.cells #[.int .i64 0, .slice none 0 0] 26))
            have SAB := Lib.hid (SA.out.alloc SA.out.size (.cells #[.int .i64 0, .slice none 0 0] 26))
            have B2 := ((BD.out.new #[.int .i64 0, .slice none 0 0] 26).new #[.int .i64 0, .slice none 0 0] 26)
            rw [show (wd.alloc (.cells #[.int .i64 0, .slice none 0 0] 26)).heap.size = wd.heap.size + 1 by simp] at B2
            replace B2 := Lib.hid B2
            refine wpAnyH_take (i := 0) (v := .agg #[.int .i64 now, .slice va vn vc]) rfl (by kernel_rfl) (by kernel_rfl) (by kernel_rfl) (fun _ _ _ h => h) (Or.inl ⟨by kernel_rfl, fun W' hS => ?_⟩) h0 ?_
            · have d0 := (hS.cell (p := ⟨B, 0, none⟩) lb).trans x0; have d1 := (hS.cell (p := ⟨B, 1, none⟩) lb).trans x1; go_simp
            simp only [Act.put, List.setIfInBounds_toArray, List.set_cons_zero, List.set_cons_succ, List.getElem_toArray, List.getElem_cons_zero]
            refine wpAnyH_take (i := 1) (v := .agg #[.int .i64 now, .slice ua un uc]) rfl (by kernel_rfl) (by kernel_rfl) (by kernel_rfl) (fun _ _ _ h => h) (Or.inl ⟨by kernel_rfl, fun W' hS => ?_⟩) h0 ?_
            · have d0 := (hS.cell (p := ⟨B + 1, 0, none⟩) lb1).trans y0; have d1 := (hS.cell (p := ⟨B + 1, 1, none⟩) lb1).trans y1; go_simp
            simp only [Act.put, List.setIfInBounds_toArray, List.set_cons_zero, List.set_cons_succ, List.getElem_toArray, List.getElem_cons_succ, List.getElem_cons_zero]
            clear x0 x1 y0 y1 lb lb1
            refine wpAnyH_ready (rs := [2, 3]) (by kernel_rfl) (by simp) (AllReadyH.cons rfl (fun K hK => ?_) (AllReadyH.cons rfl (fun K hK => ?_) AllReadyH.nil))
            · replace hK := Lib.hid hK
              go_simp
              refine hK.out _ _ SA.out (fun _ => ?_)
              clear hK K
              simp only [List.setIfInBounds_toArray, List.set_cons_zero, List.set_cons_succ]
              refine wpAnyH_ready (rs := [3]) (by kernel_rfl) (by simp) (AllReadyH.cons rfl (fun K hK => ?_) AllReadyH.nil)
              replace hK := Lib.hid hK
              go_simp
              refine hK.out _ _ SAB.out (fun _ => ?_)
              clear hK K
              simp only [List.setIfInBounds_toArray, List.set_cons_zero, List.set_cons_succ]
              generalize ((World.alloc wd _).alloc _) = wx at B2 SAB ⊢
              have B3 := Lib.hid B2.out.swap
              refine wpAnyH_ready (rs := [4]) (by kernel_rfl) (by simp) (AllReadyH.cons rfl (fun K hK => ?_) AllReadyH.nil)
              replace hK := Lib.hid hK
              obtain ⟨z0, z1⟩ := B3.out.fz2 (.head _)
              obtain ⟨t0, t1⟩ := B3.out.at2 (.head _)
              go_simp
              have B4 := Lib.hid (((B3.out.set (by have := HN.out; have := HA1.out; omega) (fun p hp => by rcases List.mem_singleton.1 hp with rfl; show wd.heap.size + 1 ≠ wd.heap.size; omega) 0 (.int .i64 now)).set (by have := HN.out; have := HA1.out; omega) (fun p hp => by rcases List.mem_singleton.1 hp with rfl; show wd.heap.size + 1 ≠ wd.heap.size; omega) 1 (.slice va vn vc)).swap)
              have S4 := Lib.hid (bel_put (w := wd) (k := wd.heap.size) (j := 1) (u := .slice va vn vc) (bel_put (w := wd) (k := wd.heap.size) (j := 0) (u := .int .i64 now) SAB.out (Nat.le_refl _)) (Nat.le_refl _))
              refine hK.out _ _ S4.out (fun _ => ?_)
              clear hK K z0 z1 t0 t1
              simp only [List.setIfInBounds_toArray, List.set_cons_zero, List.set_cons_succ]
              refine wpAnyH_ready (rs := [5]) (by kernel_rfl) (by simp) (AllReadyH.cons rfl (fun K hK => ?_) AllReadyH.nil)
              replace hK := Lib.hid hK
              obtain ⟨z0, z1⟩ := B4.out.fz2 (.head _)
              obtain ⟨t0, t1⟩ := B4.out.at2 (.head _)
              go_simp
              have B5 := Lib.hid (((B4.out.set (by have := HN.out; have := HA1.out; omega) (fun p hp => by rcases List.mem_singleton.1 hp with rfl; show wd.heap.size ≠ wd.heap.size + 1; omega) 0 (.int .i64 now)).set (by have := HN.out; have := HA1.out; omega) (fun p hp => by rcases List.mem_singleton.1 hp with rfl; show wd.heap.size ≠ wd.heap.size + 1; omega) 1 (.slice ua un uc)).swap)
              have S5 := Lib.hid (bel_put (w := wd) (k := wd.heap.size + 1) (j := 1) (u := .slice ua un uc) (bel_put (w := wd) (k := wd.heap.size + 1) (j := 0) (u := .int .i64 now) S4.out (Nat.le_succ _)) (Nat.le_succ _))
              refine hK.out _ _ S5.out (fun _ => ?_)
              clear hK K z0 z1 t0 t1
              simp only [List.setIfInBounds_toArray, List.set_cons_zero, List.set_cons_succ]
              refine wpAnyH_done (by kernel_rfl) ?_ _
              go_wp2_with fail
              go_meet
              case rel => exact ⟨wd.heap.size, wd.heap.size + 1, rfl, rfl, B5.out, by have := HN.out; omega, by have := HN.out; omega, by omega⟩
            · replace hK := Lib.hid hK
              go_simp
              refine hK.out _ _ SA.out (fun _ => ?_)
              clear hK K
              simp only [List.setIfInBounds_toArray, List.set_cons_zero, List.set_cons_succ]
              refine wpAnyH_ready (rs := [2]) (by kernel_rfl) (by simp) (AllReadyH.cons rfl (fun K hK => ?_) AllReadyH.nil)
              replace hK := Lib.hid hK
              go_simp
              refine hK.out _ _ SAB.out (fun _ => ?_)
              clear hK K
              simp only [List.setIfInBounds_toArray, List.set_cons_zero, List.set_cons_succ]
              generalize ((World.alloc wd _).alloc _) = wx at B2 SAB ⊢
              have B3 := Lib.hid B2.out
              refine wpAnyH_ready (rs := [4]) (by kernel_rfl) (by simp) (AllReadyH.cons rfl (fun K hK => ?_) AllReadyH.nil)
              replace hK := Lib.hid hK
              obtain ⟨z0, z1⟩ := B3.out.fz2 (.head _)
              obtain ⟨t0, t1⟩ := B3.out.at2 (.head _)
              go_simp
              have B4 := Lib.hid (((B3.out.set (by have := HN.out; have := HA1.out; omega) (fun p hp => by rcases List.mem_singleton.1 hp with rfl; show wd.heap.size ≠ wd.heap.size + 1; omega) 0 (.int .i64 now)).set (by have := HN.out; have := HA1.out; omega) (fun p hp => by rcases List.mem_singleton.1 hp with rfl; show wd.heap.size ≠ wd.heap.size + 1; omega) 1 (.slice va vn vc)).swap)
              have S4 := Lib.hid (bel_put (w := wd) (k := wd.heap.size + 1) (j := 1) (u := .slice va vn vc) (bel_put (w := wd) (k := wd.heap.size + 1) (j := 0) (u := .int .i64 now) SAB.out (Nat.le_succ _)) (Nat.le_succ _))
              refine hK.out _ _ S4.out (fun _ => ?_)
              clear hK K z0 z1 t0 t1
              simp only [List.setIfInBounds_toArray, List.set_cons_zero, List.set_cons_succ]
              refine wpAnyH_ready (rs := [5]) (by kernel_rfl) (by simp) (AllReadyH.cons rfl (fun K hK => ?_) AllReadyH.nil)
              replace hK := Lib.hid hK
              obtain ⟨z0, z1⟩ := B4.out.fz2 (.head _)
              obtain ⟨t0, t1⟩ := B4.out.at2 (.head _)
              go_simp
              have B5 := Lib.hid (((B4.out.set (by have := HN.out; have := HA1.out; omega) (fun p hp => by rcases List.mem_singleton.1 hp with rfl; show wd.heap.size + 1 ≠ wd.heap.size; omega) 0 (.int .i64 now)).set (by have := HN.out; have := HA1.out; omega) (fun p hp => by rcases List.mem_singleton.1 hp with rfl; show wd.heap.size + 1 ≠ wd.heap.size; omega) 1 (.slice ua un uc)).swap)
              have S5 := Lib.hid (bel_put (w := wd) (k := wd.heap.size) (j := 1) (u := .slice ua un uc) (bel_put (w := wd) (k := wd.heap.size) (j := 0) (u := .int .i64 now) S4.out (Nat.le_refl _)) (Nat.le_refl _))
              refine hK.out _ _ S5.out (fun _ => ?_)
              clear hK K z0 z1 t0 t1
              simp only [List.setIfInBounds_toArray, List.set_cons_zero, List.set_cons_succ]
              refine wpAnyH_done (by kernel_rfl) ?_ _
              go_wp2_with fail
              go_meet
              case rel => exact ⟨wd.heap.size + 1, wd.heap.size, rfl, rfl, B5.out, by have := HN.out; omega, by have := HN.out; omega, by omega⟩
          case rest =>
            obtain ⟨xb, yb, rfl, rfl, hB2, hx, hy, hxy⟩ := hcut
            have BX := Lib.hid hB2
            clear hB2
            have W2 := Lib.hid (W1.out.keep BX.out.w)
            have HA2 := Lib.hid ((BX.out.w.block A (by rw [HA1.out]; exact Nat.lt_succ_self A)).trans HA.out)
            obtain ⟨c0, c1, c2⟩ : wc.cell? ⟨A, 0, none⟩ = some (.int .i64 qk) ∧ wc.cell? ⟨A, 1, none⟩ = some (.int .i64 qi) ∧ wc.cell? ⟨A, 2, none⟩ = some (.int .i64 qa) := ⟨by rw [cell_of_row _ _ 0 _ _ _ HA2.out]; rfl, by rw [cell_of_row _ _ 1 _ _ _ HA2.out]; rfl, by rw [cell_of_row _ _ 2 _ _ _ HA2.out]; rfl⟩
            go_upto_block 2 with fail
            go_cut [] (fun W => ∃ (now' : Int) (L' : List Al) (xa ya : Option Addr) (xn xc yn yc : Nat), (now ≤ now' ∧ now' ≤ now + 1) ∧ L'.length ≤ L.length + 1 ∧ Right L' ∧ Bs w1 [(xb, #[.int .i64 now', .slice xa xn xc], 26), (yb, #[.int .i64 now', .slice ya yn yc], 26)] W ∧ (IsL TL W (.slice xa xn xc) L' ∧ NilOk (.slice xa xn xc) ∧ ∀ p n c, Value.slice xa xn xc = .slice (some p) n c → p.block ≠ B ∧ p.block ≠ B + 1 ∧ p.block < W.heap.size) ∧ (IsL TL W (.slice ya yn yc) L' ∧ NilOk (.slice ya yn yc) ∧ ∀ p n c, Value.slice ya yn yc = .slice (some p) n c → p.block ≠ B ∧ p.block ≠ B + 1 ∧ p.block < W.heap.size))
            case first =>
              have hk3 : qk = 0 ∨ qk = 1 ∨ (qk ≠ 0 ∧ qk ≠ 1) := by omega
              rcases hk3 with rfl | rfl | ⟨hk0, hk1⟩
              · go_wp2_with fail
                have LD := Lib.hid (W2.out.keep (Below.refl _ _).drew)
                have BD := Lib.hid (BX.out.keep (Below.refl _ _).drew)
                have hA3 : wc.drew.heap[A]? = some (.cells #[.int .i64 0, .int .i64 qi, .int .i64 qa] 28 (0, 0)) := HA2.out
                have HA3 := Lib.hid hA3
                clear hA3 c0 c1 c2
                have h0 : (fun W : World => ∀ b o : Nat, b < wc.drew.heap.size → b ≠ xb → b ≠ yb → W.cell? ⟨b, o, none⟩ = wc.drew.cell? ⟨b, o, none⟩) wc.drew := fun _ _ _ _ _ => rfl
                refine region_any (by kernel_rfl) (fun W : World => ∀ b o : Nat, b < wc.drew.heap.size → b ≠ xb → b ≠ yb → W.cell? ⟨b, o, none⟩ = wc.drew.cell? ⟨b, o, none⟩) 14 rfl #[false, false, false, false, false, false, false, false, false, false, false, false, false, false] rfl ?_
                generalize wc.drew = wd at LD BD HA3 h0 ⊢
                have HS := Lib.hid (show ∀ W : World, Below wd.heap.size wd W → ∀ b o : Nat, b < wd.heap.size → b ≠ xb → b ≠ yb → W.cell? ⟨b, o, none⟩ = wd.cell? ⟨b, o, none⟩ from fun W h b o hb _ _ => h.cell (p := ⟨b, o, none⟩) hb)
                have HXB := Lib.hid (BD.out.lt (b := xb) (.head _))
                have HYB := Lib.hid (BD.out.lt (b := yb) (.tail _ (.head _)))
                obtain ⟨x0, x1⟩ := LD.out.b.at2 (b := B) (.head _)
                obtain ⟨y0, y1⟩ := LD.out.b.at2 (b := B + 1) (.tail _ (.head _))
                obtain ⟨c0, c1, c2⟩ : wd.cell? ⟨A, 0, none⟩ = some (.int .i64 0) ∧ wd.cell? ⟨A, 1, none⟩ = some (.int .i64 qi) ∧ wd.cell? ⟨A, 2, none⟩ = some (.int .i64 qa) := ⟨by rw [cell_of_row _ _ 0 _ _ _ HA3.out]; rfl, by rw [cell_of_row _ _ 1 _ _ _ HA3.out]; rfl, by rw [cell_of_row _ _ 2 _ _ _ HA3.out]; rfl⟩
                have la : A < wd.heap.size := (Array.getElem?_eq_some_iff.1 HA3.out).1
                refine wpAnyH_take (i := 0) (v := .agg #[.int .i64 now, .slice va vn vc]) rfl (by kernel_rfl) (by kernel_rfl) (by kernel_rfl) (fun _ _ _ h => h) (Or.inl ⟨by kernel_rfl, fun W' hS => ?_⟩) h0 ?_
                · have d0 := (hS (B) 0 (by omega) (by omega) (by omega)).trans x0; have d1 := (hS (B) 1 (by omega) (by omega) (by omega)).trans x1; go_simp
                simp only [Act.put, List.setIfInBounds_toArray, List.set_cons_zero, List.set_cons_succ, List.getElem_toArray, List.getElem_cons_zero]
                refine wpAnyH_take (i := 1) (v := .pointer (some ⟨A, 1, none⟩)) rfl (by kernel_rfl) (by kernel_rfl) (by kernel_rfl) (fun _ _ _ h => h) (Or.inl ⟨by kernel_rfl, fun W' hS => ?_⟩) h0 ?_
                · go_simp
                simp only [Act.put, List.setIfInBounds_toArray, List.set_cons_zero, List.set_cons_succ, List.getElem_toArray, List.getElem_cons_succ, List.getElem_cons_zero]
                refine wpAnyH_take (i := 2) (v := .int .i64 qi) rfl (by kernel_rfl) (by kernel_rfl) (by kernel_rfl) (fun _ _ _ h => h) (Or.inl ⟨by kernel_rfl, fun W' hS => ?_⟩) h0 ?_
                · have d := (hS A 1 la (by omega) (by omega)).trans c1; go_simp
                simp only [Act.put, List.setIfInBounds_toArray, List.set_cons_zero, List.set_cons_succ, List.getElem_toArray, List.getElem_cons_succ, List.getElem_cons_zero]
                refine wpAnyH_take (i := 3) (v := .pointer (some ⟨A, 2, none⟩)) rfl (by kernel_rfl) (by kernel_rfl) (by kernel_rfl) (fun _ _ _ h => h) (Or.inl ⟨by kernel_rfl, fun W' hS => ?_⟩) h0 ?_
                · go_simp
                simp only [Act.put, List.setIfInBounds_toArray, List.set_cons_zero, List.set_cons_succ, List.getElem_toArray, List.getElem_cons_succ, List.getElem_cons_zero]
                refine wpAnyH_take (i := 4) (v := .int .i64 qa) rfl (by kernel_rfl) (by kernel_rfl) (by kernel_rfl) (fun _ _ _ h => h) (Or.inl ⟨by kernel_rfl, fun W' hS => ?_⟩) h0 ?_
                · have d := (hS A 2 la (by omega) (by omega)).trans c2; go_simp
                simp only [Act.put, List.setIfInBounds_toArray, List.set_cons_zero, List.set_cons_succ, List.getElem_toArray, List.getElem_cons_succ, List.getElem_cons_zero]
                refine wpAnyH_take (i := 6) (v := .agg #[.int .i64 now, .slice ua un uc]) rfl (by kernel_rfl) (by kernel_rfl) (by kernel_rfl) (fun _ _ _ h => h) (Or.inl ⟨by kernel_rfl, fun W' hS => ?_⟩) h0 ?_
                · have d0 := (hS (B + 1) 0 (by omega) (by omega) (by omega)).trans y0; have d1 := (hS (B + 1) 1 (by omega) (by omega) (by omega)).trans y1; go_simp
                simp only [Act.put, List.setIfInBounds_toArray, List.set_cons_zero, List.set_cons_succ, List.getElem_toArray, List.getElem_cons_succ, List.getElem_cons_zero]
                refine wpAnyH_take (i := 7) (v := .pointer (some ⟨A, 1, none⟩)) rfl (by kernel_rfl) (by kernel_rfl) (by kernel_rfl) (fun _ _ _ h => h) (Or.inl ⟨by kernel_rfl, fun W' hS => ?_⟩) h0 ?_
                · go_simp
                simp only [Act.put, List.setIfInBounds_toArray, List.set_cons_zero, List.set_cons_succ, List.getElem_toArray, List.getElem_cons_succ, List.getElem_cons_zero]
                refine wpAnyH_take (i := 8) (v := .int .i64 qi) rfl (by kernel_rfl) (by kernel_rfl) (by kernel_rfl) (fun _ _ _ h => h) (Or.inl ⟨by kernel_rfl, fun W' hS => ?_⟩) h0 ?_
                · have d := (hS A 1 la (by omega) (by omega)).trans c1; go_simp
                simp only [Act.put, List.setIfInBounds_toArray, List.set_cons_zero, List.set_cons_succ, List.getElem_toArray, List.getElem_cons_succ, List.getElem_cons_zero]
                refine wpAnyH_take (i := 9) (v := .pointer (some ⟨A, 2, none⟩)) rfl (by kernel_rfl) (by kernel_rfl) (by kernel_rfl) (fun _ _ _ h => h) (Or.inl ⟨by kernel_rfl, fun W' hS => ?_⟩) h0 ?_
                · go_simp
                simp only [Act.put, List.setIfInBounds_toArray, List.set_cons_zero, List.set_cons_succ, List.getElem_toArray, List.getElem_cons_succ, List.getElem_cons_zero]
                refine wpAnyH_take (i := 10) (v := .int .i64 qa) rfl (by kernel_rfl) (by kernel_rfl) (by kernel_rfl) (fun _ _ _ h => h) (Or.inl ⟨by kernel_rfl, fun W' hS => ?_⟩) h0 ?_
                · have d := (hS A 2 la (by omega) (by omega)).trans c2; go_simp
                simp only [Act.put, List.setIfInBounds_toArray, List.set_cons_zero, List.set_cons_succ, List.getElem_toArray, List.getElem_cons_succ, List.getElem_cons_zero]
                clear x0 x1 y0 y1 c0 c1 c2 la
                refine wpAnyH_ready (rs := [5]) (by kernel_rfl) (by simp) (AllReadyH.cons rfl (fun K hK => ?_) AllReadyH.nil)
                replace hK := Lib.hid hK
                go_simp
                refine (arm18_any now qi qa (.slice va vn vc) L wd LD.out.lv (by omega) hnow.1 (by omega) hqa HR.out).mono ?_
                rintro e w5 ⟨a1, n1, c1, rfl, hi1, hn1, hr1, b1⟩
                have B1 := Lib.hid b1
                have I1 := Lib.hid hi1
                have N1 := Lib.hid hn1
                have R1 := Lib.hid hr1
                dsimp only
                refine hK.out _ _ (HS.out _ B1.out) (fun _ => ?_)
                clear hK K
                simp only [List.setIfInBounds_toArray, List.set_cons_zero, List.set_cons_succ]
                refine wpAnyH_ready (rs := [11]) (by kernel_rfl) (by simp) (AllReadyH.cons rfl (fun K hK => ?_) AllReadyH.nil)
                replace hK := Lib.hid hK
                go_simp
                refine (rarm18_any now qi qa (.slice ua un uc) L w5 (LD.out.lu.keep b1) (by omega) hnow.1 (by omega) hqa).mono ?_
                rintro e w6 ⟨a2, n2, c2, rfl, hi2, hn2, hr2, b2⟩
                have B2 := Lib.hid (B1.out.trans (b2.mono B1.out.size))
                have I2 := Lib.hid hi2
                have I3 := Lib.hid (I1.out.keep b2)
                have N2 := Lib.hid hn2
                have R2 := Lib.hid hr2
                have E2 := Lib.hid b2.size
                have P6 := Lib.hid (BD.out.keep B2.out)
                dsimp only
                refine hK.out _ _ (HS.out _ B2.out) (fun _ => ?_)
                clear hK K
                simp only [List.setIfInBounds_toArray, List.set_cons_zero, List.set_cons_succ]
                clear hi1 hn1 hr1 b1 hi2 hn2 hr2 b2
                have hsz : A + 1 ≤ wd.heap.size := by have := HXB.out; omega
                have ha1 : w1.heap.size = A + 1 := HA1.out
                have hD5 := B1.out.size
                refine wpAnyH_ready (rs := [12]) (by kernel_rfl) (by simp) (AllReadyH.cons rfl (fun K hK => ?_) AllReadyH.nil)
                replace hK := Lib.hid hK
                obtain ⟨z0, z1⟩ := P6.out.fz2 (.head _)
                obtain ⟨t0, t1⟩ := P6.out.at2 (.head _)
                go_simp
                have P7 := Lib.hid (((P6.out.set (by omega) (fun p hp => by rcases List.mem_singleton.1 hp with rfl; show yb ≠ xb; omega) 0 (.int .i64 now)).set (by omega) (fun p hp => by rcases List.mem_singleton.1 hp with rfl; show yb ≠ xb; omega) 1 (.slice a1 n1 c1)).swap)
                refine hK.out _ _ (fun b o hb hx hy => by rw [World.cell?_setCell_other _ _ _ _ (fun e => hx (by injection e with e; exact e.symm)), World.cell?_setCell_other _ _ _ _ (fun e => hx (by injection e with e; exact e.symm))]; exact HS.out _ B2.out b o hb hx hy) (fun _ => ?_)
                clear hK K z0 z1 t0 t1
                simp only [List.setIfInBounds_toArray, List.set_cons_zero, List.set_cons_succ]
                refine wpAnyH_ready (rs := [13]) (by kernel_rfl) (by simp) (AllReadyH.cons rfl (fun K hK => ?_) AllReadyH.nil)
                replace hK := Lib.hid hK
                obtain ⟨z0, z1⟩ := P7.out.fz2 (.head _)
                obtain ⟨t0, t1⟩ := P7.out.at2 (.head _)
                go_simp
                have P8 := Lib.hid (((P7.out.set (by omega) (fun p hp => by rcases List.mem_singleton.1 hp with rfl; show xb ≠ yb; omega) 0 (.int .i64 now)).set (by omega) (fun p hp => by rcases List.mem_singleton.1 hp with rfl; show xb ≠ yb; omega) 1 (.slice a2 n2 c2)).swap)
                refine hK.out _ _ (fun b o hb hx hy => by rw [World.cell?_setCell_other _ _ _ _ (fun e => hy (by injection e with e; exact e.symm)), World.cell?_setCell_other _ _ _ _ (fun e => hy (by injection e with e; exact e.symm)), World.cell?_setCell_other _ _ _ _ (fun e => hx (by injection e with e; exact e.symm)), World.cell?_setCell_other _ _ _ _ (fun e => hx (by injection e with e; exact e.symm))]; exact HS.out _ B2.out b o hb hx hy) (fun _ => ?_)
                clear hK K z0 z1 t0 t1
                simp only [List.setIfInBounds_toArray, List.set_cons_zero, List.set_cons_succ]
                refine wpAnyH_done (by kernel_rfl) ?_ _
                go_wp2_with fail
                go_meet
                case rel =>
                  have hxo := HXB.out
                  have hyo := HYB.out
                  refine ⟨now, arm now L qi qa, a1, a2, n1, c1, n2, c2, ⟨Int.le_refl _, by omega⟩, ?_, HR.out.arm now qi qa, P8.out, ⟨isl_put (isl_put (isl_put (isl_put I3.out _ _ _ (fun _ => W1.out.far1 (q := xb) (by omega) (by omega) R1.out)) _ _ _ (fun _ => W1.out.far1 (q := xb) (by omega) (by omega) R1.out)) _ _ _ (fun _ => W1.out.far1 (q := yb) (by omega) (by omega) R1.out)) _ _ _ (fun _ => W1.out.far1 (q := yb) (by omega) (by omega) R1.out), N1.out, fun p n c e => ?_⟩, ⟨isl_put (isl_put (isl_put (isl_put I2.out _ _ _ (fun _ => W1.out.far2 (q := xb) (by omega) (by omega) R2.out)) _ _ _ (fun _ => W1.out.far2 (q := xb) (by omega) (by omega) R2.out)) _ _ _ (fun _ => W1.out.far2 (q := yb) (by omega) (by omega) R2.out)) _ _ _ (fun _ => W1.out.far2 (q := yb) (by omega) (by omega) R2.out), N2.out, fun p n c e => ?_⟩⟩
                  · unfold arm; rw [ins_len]; have := cancel_len L qi; omega
                  · have h1 := W1.out.near1 (by omega) R1.out p n c e
                    have h2 := near_lt R1.out (fun p n c e => (W1.out.av p n c e).2.2) (E' := w6.heap.size) (by have := E2.out; omega) (by have := E2.out; omega) p n c e
                    exact ⟨h1.1, h1.2, by simpa using h2⟩
                  · have h1 := W1.out.near2 (N := w5.heap.size) (by omega) R2.out p n c e
                    have h2 := near_lt R2.out (fun p n c e => (W1.out.au p n c e).2.2) (E' := w6.heap.size) (by have := E2.out; omega) (Nat.le_refl _) p n c e
                    exact ⟨h1.1, h1.2, by simpa using h2⟩
              · go_wp2_with fail
                have LD := Lib.hid (W2.out.keep (Below.refl _ _).drew)
                have BD := Lib.hid (BX.out.keep (Below.refl _ _).drew)
                have hA3 : wc.drew.heap[A]? = some (.cells #[.int .i64 1, .int .i64 qi, .int .i64 qa] 28 (0, 0)) := HA2.out
                have HA3 := Lib.hid hA3
                clear hA3 c0 c1 c2
                have h0 : (fun W : World => ∀ b o : Nat, b < wc.drew.heap.size → b ≠ xb → b ≠ yb → W.cell? ⟨b, o, none⟩ = wc.drew.cell? ⟨b, o, none⟩) wc.drew := fun _ _ _ _ _ => rfl
                refine region_any (by kernel_rfl) (fun W : World => ∀ b o : Nat, b < wc.drew.heap.size → b ≠ xb → b ≠ yb → W.cell? ⟨b, o, none⟩ = wc.drew.cell? ⟨b, o, none⟩) 10 rfl #[false, false, false, false, false, false, false, false, false, false] rfl ?_
                generalize wc.drew = wd at LD BD HA3 h0 ⊢
                have HS := Lib.hid (show ∀ W : World, Below wd.heap.size wd W → ∀ b o : Nat, b < wd.heap.size → b ≠ xb → b ≠ yb → W.cell? ⟨b, o, none⟩ = wd.cell? ⟨b, o, none⟩ from fun W h b o hb _ _ => h.cell (p := ⟨b, o, none⟩) hb)
                have HXB := Lib.hid (BD.out.lt (b := xb) (.head _))
                have HYB := Lib.hid (BD.out.lt (b := yb) (.tail _ (.head _)))
                obtain ⟨x0, x1⟩ := LD.out.b.at2 (b := B) (.head _)
                obtain ⟨y0, y1⟩ := LD.out.b.at2 (b := B + 1) (.tail _ (.head _))
                obtain ⟨c0, c1, c2⟩ : wd.cell? ⟨A, 0, none⟩ = some (.int .i64 1) ∧ wd.cell? ⟨A, 1, none⟩ = some (.int .i64 qi) ∧ wd.cell? ⟨A, 2, none⟩ = some (.int .i64 qa) := ⟨by rw [cell_of_row _ _ 0 _ _ _ HA3.out]; rfl, by rw [cell_of_row _ _ 1 _ _ _ HA3.out]; rfl, by rw [cell_of_row _ _ 2 _ _ _ HA3.out]; rfl⟩
                have la : A < wd.heap.size := (Array.getElem?_eq_some_iff.1 HA3.out).1
                refine wpAnyH_take (i := 0) (v := .agg #[.int .i64 now, .slice va vn vc]) rfl (by kernel_rfl) (by kernel_rfl) (by kernel_rfl) (fun _ _ _ h => h) (Or.inl ⟨by kernel_rfl, fun W' hS => ?_⟩) h0 ?_
                · have d0 := (hS (B) 0 (by omega) (by omega) (by omega)).trans x0; have d1 := (hS (B) 1 (by omega) (by omega) (by omega)).trans x1; go_simp
                simp only [Act.put, List.setIfInBounds_toArray, List.set_cons_zero, List.set_cons_succ, List.getElem_toArray, List.getElem_cons_zero]
                refine wpAnyH_take (i := 1) (v := .pointer (some ⟨A, 1, none⟩)) rfl (by kernel_rfl) (by kernel_rfl) (by kernel_rfl) (fun _ _ _ h => h) (Or.inl ⟨by kernel_rfl, fun W' hS => ?_⟩) h0 ?_
                · go_simp
                simp only [Act.put, List.setIfInBounds_toArray, List.set_cons_zero, List.set_cons_succ, List.getElem_toArray, List.getElem_cons_succ, List.getElem_cons_zero]
                refine wpAnyH_take (i := 2) (v := .int .i64 qi) rfl (by kernel_rfl) (by kernel_rfl) (by kernel_rfl) (fun _ _ _ h => h) (Or.inl ⟨by kernel_rfl, fun W' hS => ?_⟩) h0 ?_
                · have d := (hS A 1 la (by omega) (by omega)).trans c1; go_simp
                simp only [Act.put, List.setIfInBounds_toArray, List.set_cons_zero, List.set_cons_succ, List.getElem_toArray, List.getElem_cons_succ, List.getElem_cons_zero]
                refine wpAnyH_take (i := 4) (v := .agg #[.int .i64 now, .slice ua un uc]) rfl (by kernel_rfl) (by kernel_rfl) (by kernel_rfl) (fun _ _ _ h => h) (Or.inl ⟨by kernel_rfl, fun W' hS => ?_⟩) h0 ?_
                · have d0 := (hS (B + 1) 0 (by omega) (by omega) (by omega)).trans y0; have d1 := (hS (B + 1) 1 (by omega) (by omega) (by omega)).trans y1; go_simp
                simp only [Act.put, List.setIfInBounds_toArray, List.set_cons_zero, List.set_cons_succ, List.getElem_toArray, List.getElem_cons_succ, List.getElem_cons_zero]
                refine wpAnyH_take (i := 5) (v := .pointer (some ⟨A, 1, none⟩)) rfl (by kernel_rfl) (by kernel_rfl) (by kernel_rfl) (fun _ _ _ h => h) (Or.inl ⟨by kernel_rfl, fun W' hS => ?_⟩) h0 ?_
                · go_simp
                simp only [Act.put, List.setIfInBounds_toArray, List.set_cons_zero, List.set_cons_succ, List.getElem_toArray, List.getElem_cons_succ, List.getElem_cons_zero]
                refine wpAnyH_take (i := 6) (v := .int .i64 qi) rfl (by kernel_rfl) (by kernel_rfl) (by kernel_rfl) (fun _ _ _ h => h) (Or.inl ⟨by kernel_rfl, fun W' hS => ?_⟩) h0 ?_
                · have d := (hS A 1 la (by omega) (by omega)).trans c1; go_simp
                simp only [Act.put, List.setIfInBounds_toArray, List.set_cons_zero, List.set_cons_succ, List.getElem_toArray, List.getElem_cons_succ, List.getElem_cons_zero]
                clear x0 x1 y0 y1 c0 c1 c2 la
                refine wpAnyH_ready (rs := [3]) (by kernel_rfl) (by simp) (AllReadyH.cons rfl (fun K hK => ?_) AllReadyH.nil)
                replace hK := Lib.hid hK
                go_simp
                refine (cancel18_any now qi (.slice va vn vc) L wd LD.out.lv (by omega)).mono ?_
                rintro e w5 ⟨a1, n1, c1, rfl, hi1, hn1, hr1, b1⟩
                have B1 := Lib.hid b1
                have I1 := Lib.hid hi1
                have N1 := Lib.hid hn1
                have R1 := Lib.hid hr1
                dsimp only
                refine hK.out _ _ (HS.out _ B1.out) (fun _ => ?_)
                clear hK K
                simp only [List.setIfInBounds_toArray, List.set_cons_zero, List.set_cons_succ]
                refine wpAnyH_ready (rs := [7]) (by kernel_rfl) (by simp) (AllReadyH.cons rfl (fun K hK => ?_) AllReadyH.nil)
                replace hK := Lib.hid hK
                go_simp
                refine (rcancel18_any now qi (.slice ua un uc) L w5 (LD.out.lu.keep b1) (by omega)).mono ?_
                rintro e w6 ⟨a2, n2, c2, rfl, hi2, hn2, hr2, b2⟩
                have B2 := Lib.hid (B1.out.trans (b2.mono B1.out.size))
                have I2 := Lib.hid hi2
                have I3 := Lib.hid (I1.out.keep b2)
                have N2 := Lib.hid hn2
                have R2 := Lib.hid hr2
                have E2 := Lib.hid b2.size
                have P6 := Lib.hid (BD.out.keep B2.out)
                dsimp only
                refine hK.out _ _ (HS.out _ B2.out) (fun _ => ?_)
                clear hK K
                simp only [List.setIfInBounds_toArray, List.set_cons_zero, List.set_cons_succ]
                clear hi1 hn1 hr1 b1 hi2 hn2 hr2 b2
                have hsz : A + 1 ≤ wd.heap.size := by have := HXB.out; omega
                have ha1 : w1.heap.size = A + 1 := HA1.out
                have hD5 := B1.out.size
                refine wpAnyH_ready (rs := [8]) (by kernel_rfl) (by simp) (AllReadyH.cons rfl (fun K hK => ?_) AllReadyH.nil)
                replace hK := Lib.hid hK
                obtain ⟨z0, z1⟩ := P6.out.fz2 (.head _)
                obtain ⟨t0, t1⟩ := P6.out.at2 (.head _)
                go_simp
                have P7 := Lib.hid (((P6.out.set (by omega) (fun p hp => by rcases List.mem_singleton.1 hp with rfl; show yb ≠ xb; omega) 0 (.int .i64 now)).set (by omega) (fun p hp => by rcases List.mem_singleton.1 hp with rfl; show yb ≠ xb; omega) 1 (.slice a1 n1 c1)).swap)
                refine hK.out _ _ (fun b o hb hx hy => by rw [World.cell?_setCell_other _ _ _ _ (fun e => hx (by injection e with e; exact e.symm)), World.cell?_setCell_other _ _ _ _ (fun e => hx (by injection e with e; exact e.symm))]; exact HS.out _ B2.out b o hb hx hy) (fun _ => ?_)
                clear hK K z0 z1 t0 t1
                simp only [List.setIfInBounds_toArray, List.set_cons_zero, List.set_cons_succ]
                refine wpAnyH_ready (rs := [9]) (by kernel_rfl) (by simp) (AllReadyH.cons rfl (fun K hK => ?_) AllReadyH.nil)
                replace hK := Lib.hid hK
                obtain ⟨z0, z1⟩ := P7.out.fz2 (.head _)
                obtain ⟨t0, t1⟩ := P7.out.at2 (.head _)
                go_simp
                have P8 := Lib.hid (((P7.out.set (by omega) (fun p hp => by rcases List.mem_singleton.1 hp with rfl; show xb ≠ yb; omega) 0 (.int .i64 now)).set (by omega) (fun p hp => by rcases List.mem_singleton.1 hp with rfl; show xb ≠ yb; omega) 1 (.slice a2 n2 c2)).swap)
                refine hK.out _ _ (fun b o hb hx hy => by rw [World.cell?_setCell_other _ _ _ _ (fun e => hy (by injection e with e; exact e.symm)), World.cell?_setCell_other _ _ _ _ (fun e => hy (by injection e with e; exact e.symm)), World.cell?_setCell_other _ _ _ _ (fun e => hx (by injection e with e; exact e.symm)), World.cell?_setCell_other _ _ _ _ (fun e => hx (by injection e with e; exact e.symm))]; exact HS.out _ B2.out b o hb hx hy) (fun _ => ?_)
                clear hK K z0 z1 t0 t1
                simp only [List.setIfInBounds_toArray, List.set_cons_zero, List.set_cons_succ]
                refine wpAnyH_done (by kernel_rfl) ?_ _
                go_wp2_with fail
                go_meet
                case rel =>
                  have hxo := HXB.out
                  have hyo := HYB.out
                  refine ⟨now, cancel L qi, a1, a2, n1, c1, n2, c2, ⟨Int.le_refl _, by omega⟩, ?_, HR.out.cancel qi, P8.out, ⟨isl_put (isl_put (isl_put (isl_put I3.out _ _ _ (fun _ => W1.out.far1 (q := xb) (by omega) (by omega) R1.out)) _ _ _ (fun _ => W1.out.far1 (q := xb) (by omega) (by omega) R1.out)) _ _ _ (fun _ => W1.out.far1 (q := yb) (by omega) (by omega) R1.out)) _ _ _ (fun _ => W1.out.far1 (q := yb) (by omega) (by omega) R1.out), N1.out, fun p n c e => ?_⟩, ⟨isl_put (isl_put (isl_put (isl_put I2.out _ _ _ (fun _ => W1.out.far2 (q := xb) (by omega) (by omega) R2.out)) _ _ _ (fun _ => W1.out.far2 (q := xb) (by omega) (by omega) R2.out)) _ _ _ (fun _ => W1.out.far2 (q := yb) (by omega) (by omega) R2.out)) _ _ _ (fun _ => W1.out.far2 (q := yb) (by omega) (by omega) R2.out), N2.out, fun p n c e => ?_⟩⟩
                  · have := cancel_len L qi; omega
                  · have h1 := W1.out.near1 (by omega) R1.out p n c e
                    have h2 := near_lt R1.out (fun p n c e => (W1.out.av p n c e).2.2) (E' := w6.heap.size) (by have := E2.out; omega) (by have := E2.out; omega) p n c e
                    exact ⟨h1.1, h1.2, by simpa using h2⟩
                  · have h1 := W1.out.near2 (N := w5.heap.size) (by omega) R2.out p n c e
                    have h2 := near_lt R2.out (fun p n c e => (W1.out.au p n c e).2.2) (E' := w6.heap.size) (by have := E2.out; omega) (Nat.le_refl _) p n c e
                    exact ⟨h1.1, h1.2, by simpa using h2⟩
              · obtain ⟨x0, x1⟩ := W2.out.b.at2 (b := B) (.head _)
                have TK := Lib.hid (tick18_any now (.slice va vn vc) L wc W2.out.lv (by omega) (by omega) (by omega) HR.out W2.out.nv)
                go_wp2_with fail
                refine TK.out.mono ?_
                rintro e w5 ⟨a1, n1, c1, p1, m1, d1, rfl, hi1, hn1, hr1, ho1, hp1, b1⟩
                have K5 := Lib.hid (b1.alloc b1.size (.cells #[.int .i64 (now + 1), .slice a1 n1 c1] 26))
                have V5 := Lib.hid ((Below.refl w5.heap.size w5).alloc (Nat.le_refl _) (.cells #[.int .i64 (now + 1), .slice a1 n1 c1] 26))
                have P5 := Lib.hid ((BX.out.keep b1).new #[.int .i64 (now + 1), .slice a1 n1 c1] 26)
                have I1 := Lib.hid (hi1.keep V5.out)
                have O1 := Lib.hid (ho1.keep V5.out)
                have N1 := Lib.hid hn1
                have R1 := Lib.hid hr1
                have Q1 := Lib.hid hp1
                have E1 := Lib.hid b1.size
                have TK2 := Lib.hid (rtick18_any now (.slice ua un uc) L _ (W2.out.lu.keep K5.out) (by omega) (by omega) (by omega))
                clear hi1 hn1 hr1 ho1 hp1 b1 x0 x1 TK
                obtain ⟨y0, y1⟩ := (W2.out.keep K5.out).b.at2 (b := B + 1) (.tail _ (.head _))
                obtain ⟨q9, hq9⟩ : ∃ q, w5.heap.size = q := ⟨_, rfl⟩
                have hs5 : (w5.alloc (.cells #[.int .i64 (now + 1), .slice a1 n1 c1] 26)).heap.size = q9 + 1 := by simp [hq9]
                go_wp2_with fail
                rw [hq9] at P5 E1 R1
                generalize World.alloc w5 _ = w5' at K5 V5 P5 I1 O1 TK2 y0 y1 hs5 ⊢
                refine TK2.out.mono ?_
                rintro e w6 ⟨a2, n2, c2, p2, m2, d2, rfl, hi2, hn2, hr2, ho2, hp2, b2⟩
                have V6 := Lib.hid ((Below.refl w6.heap.size w6).alloc (Nat.le_refl _) (.cells #[.int .i64 (now + 1), .slice a2 n2 c2] 26))
                have P6 := Lib.hid ((P5.out.keep b2).new #[.int .i64 (now + 1), .slice a2 n2 c2] 26)
                have I3 := Lib.hid ((I1.out.keep b2).keep V6.out)
                have O3 := Lib.hid ((O1.out.keep b2).keep V6.out)
                have I2 := Lib.hid (hi2.keep V6.out)
                have O2 := Lib.hid (ho2.keep V6.out)
                have N2 := Lib.hid hn2
                have R2 := Lib.hid hr2
                have Q2 := Lib.hid hp2
                have E2 := Lib.hid b2.size
                have KW := Lib.hid (K5.out.trans ((b2.alloc b2.size (.cells #[.int .i64 (now + 1), .slice a2 n2 c2] 26)).mono K5.out.size))
                clear hi2 hn2 hr2 ho2 hp2 b2 y0 y1 TK2 I1 O1
                obtain ⟨q11, hq11⟩ : ∃ q, w6.heap.size = q := ⟨_, rfl⟩
                have hs6 : (w6.alloc (.cells #[.int .i64 (now + 1), .slice a2 n2 c2] 26)).heap.size = q11 + 1 := by simp [hq11]
                rw [hq11] at P6 E2 R2
                rw [hs5] at E2 R2 Q2
                have HS5 := Lib.hid hs5
                have HS6 := Lib.hid hs6
                clear hs5 hs6
                go_wp2_with fail
                clear hq9 hq11
                generalize World.alloc w6 _ = w7 at V6 P6 I2 I3 O2 O3 KW HS6 ⊢
                have hx2 := BX.out.lt (b := xb) (.head _)
                have hy2 := BX.out.lt (b := yb) (.tail _ (.head _))
                have he1 := E1.out
                have he2 := E2.out
                have h0 : (fun W : World => ∀ b o : Nat, b < w7.drew.heap.size → b ≠ xb → b ≠ yb → W.cell? ⟨b, o, none⟩ = w7.drew.cell? ⟨b, o, none⟩) w7.drew := fun _ _ _ _ _ => rfl
                refine region_any (by kernel_rfl) (fun W : World => ∀ b o : Nat, b < w7.drew.heap.size → b ≠ xb → b ≠ yb → W.cell? ⟨b, o, none⟩ = w7.drew.cell? ⟨b, o, none⟩) 4 rfl #[false, false, false, false] rfl ?_
                have hsd : w7.drew.heap.size = q11 + 1 := HS6.out
                have P6d := P6.out.keep (Below.refl _ _).drew
                have I2d := I2.out.keep (Below.refl _ _).drew
                have I3d := I3.out.keep (Below.refl _ _).drew
                have O2d := O2.out.keep (Below.refl _ _).drew
                have O3d := O3.out.keep (Below.refl _ _).drew
                clear P6 I2 I3 O2 O3 V6 HS6
                generalize w7.drew = wd at P6d I2d I3d O2d O3d hsd h0 ⊢
                have P6 := Lib.hid P6d
                have I2 := Lib.hid I2d
                have I3 := Lib.hid I3d
                have O2 := Lib.hid O2d
                have O3 := Lib.hid O3d
                clear P6d I2d I3d O2d O3d
                obtain ⟨x0, x1⟩ := P6.out.at2 (b := q9) (.tail _ (.head _))
                obtain ⟨y0, y1⟩ := P6.out.at2 (b := q11) (.head _)
                refine wpAnyH_take (i := 0) (v := .agg #[.int .i64 (now + 1), .slice a1 n1 c1]) rfl (by kernel_rfl) (by kernel_rfl) (by kernel_rfl) (fun _ _ _ h => h) (Or.inl ⟨by kernel_rfl, fun W' hS => ?_⟩) h0 ?_
                · have d0 := (hS q9 0 (by omega) (by omega) (by omega)).trans x0; have d1 := (hS q9 1 (by omega) (by omega) (by omega)).trans x1; go_simp
                simp only [Act.put, List.setIfInBounds_toArray, List.set_cons_zero, List.set_cons_succ, List.getElem_toArray, List.getElem_cons_zero]
                refine wpAnyH_take (i := 1) (v := .agg #[.int .i64 (now + 1), .slice a2 n2 c2]) rfl (by kernel_rfl) (by kernel_rfl) (by kernel_rfl) (fun _ _ _ h => h) (Or.inl ⟨by kernel_rfl, fun W' hS => ?_⟩) h0 ?_
                · have d0 := (hS q11 0 (by omega) (by omega) (by omega)).trans y0; have d1 := (hS q11 1 (by omega) (by omega) (by omega)).trans y1; go_simp
                simp only [Act.put, List.setIfInBounds_toArray, List.set_cons_zero, List.set_cons_succ, List.getElem_toArray, List.getElem_cons_succ, List.getElem_cons_zero]
                clear x0 x1 y0 y1
                have P6x := Lib.hid P6.out.forget.forget
                have ha1 : w1.heap.size = A + 1 := HA1.out
                refine wpAnyH_ready (rs := [2]) (by kernel_rfl) (by simp) (AllReadyH.cons rfl (fun K hK => ?_) AllReadyH.nil)
                replace hK := Lib.hid hK
                obtain ⟨z0, z1⟩ := P6x.out.fz2 (.head _)
                obtain ⟨t0, t1⟩ := P6x.out.at2 (.head _)
                go_simp
                have P7 := Lib.hid (((P6x.out.set (by omega) (fun p hp => by rcases List.mem_singleton.1 hp with rfl; show yb ≠ xb; omega) 0 (.int .i64 (now + 1))).set (by omega) (fun p hp => by rcases List.mem_singleton.1 hp with rfl; show yb ≠ xb; omega) 1 (.slice a1 n1 c1)).swap)
                refine hK.out _ _ (fun b o hb hx hy => by rw [World.cell?_setCell_other _ _ _ _ (fun e => hx (by injection e with e; exact e.symm)), World.cell?_setCell_other _ _ _ _ (fun e => hx (by injection e with e; exact e.symm))]) (fun _ => ?_)
                clear hK K z0 z1 t0 t1
                simp only [List.setIfInBounds_toArray, List.set_cons_zero, List.set_cons_succ]
                refine wpAnyH_ready (rs := [3]) (by kernel_rfl) (by simp) (AllReadyH.cons rfl (fun K hK => ?_) AllReadyH.nil)
                replace hK := Lib.hid hK
                obtain ⟨z0, z1⟩ := P7.out.fz2 (.head _)
                obtain ⟨t0, t1⟩ := P7.out.at2 (.head _)
                go_simp
                have P8 := Lib.hid (((P7.out.set (by omega) (fun p hp => by rcases List.mem_singleton.1 hp with rfl; show xb ≠ yb; omega) 0 (.int .i64 (now + 1))).set (by omega) (fun p hp => by rcases List.mem_singleton.1 hp with rfl; show xb ≠ yb; omega) 1 (.slice a2 n2 c2)).swap)
                refine hK.out _ _ (fun b o hb hx hy => by rw [World.cell?_setCell_other _ _ _ _ (fun e => hy (by injection e with e; exact e.symm)), World.cell?_setCell_other _ _ _ _ (fun e => hy (by injection e with e; exact e.symm)), World.cell?_setCell_other _ _ _ _ (fun e => hx (by injection e with e; exact e.symm)), World.cell?_setCell_other _ _ _ _ (fun e => hx (by injection e with e; exact e.symm))]) (fun _ => ?_)
                clear hK K z0 z1 t0 t1
                simp only [List.setIfInBounds_toArray, List.set_cons_zero, List.set_cons_succ]
                have J1 := Lib.hid ((isl_put (isl_put (isl_put (isl_put I3.out xb 0 (.int .i64 (now + 1)) (fun _ => W1.out.far1 (q := xb) (by omega) (by omega) R1.out)) xb 1 (.slice a1 n1 c1) (fun _ => W1.out.far1 (q := xb) (by omega) (by omega) R1.out)) yb 0 (.int .i64 (now + 1)) (fun _ => W1.out.far1 (q := yb) (by omega) (by omega) R1.out)) yb 1 (.slice a2 n2 c2) (fun _ => W1.out.far1 (q := yb) (by omega) (by omega) R1.out)))
                have J2 := Lib.hid ((isl_put (isl_put (isl_put (isl_put I2.out xb 0 (.int .i64 (now + 1)) (fun _ => W1.out.far2 (q := xb) (by omega) (by omega) R2.out)) xb 1 (.slice a1 n1 c1) (fun _ => W1.out.far2 (q := xb) (by omega) (by omega) R2.out)) yb 0 (.int .i64 (now + 1)) (fun _ => W1.out.far2 (q := yb) (by omega) (by omega) R2.out)) yb 1 (.slice a2 n2 c2) (fun _ => W1.out.far2 (q := yb) (by omega) (by omega) R2.out)))
                have G1 := Lib.hid ((isl_put (isl_put (isl_put (isl_put O3.out xb 0 (.int .i64 (now + 1)) (fun _ p n c e => by have := Q1.out p n c e; omega)) xb 1 (.slice a1 n1 c1) (fun _ p n c e => by have := Q1.out p n c e; omega)) yb 0 (.int .i64 (now + 1)) (fun _ p n c e => by have := Q1.out p n c e; omega)) yb 1 (.slice a2 n2 c2) (fun _ p n c e => by have := Q1.out p n c e; omega)))
                have G2 := Lib.hid ((isl_put (isl_put (isl_put (isl_put O2.out xb 0 (.int .i64 (now + 1)) (fun _ p n c e => by have := Q2.out p n c e; omega)) xb 1 (.slice a1 n1 c1) (fun _ p n c e => by have := Q2.out p n c e; omega)) yb 0 (.int .i64 (now + 1)) (fun _ p n c e => by have := Q2.out p n c e; omega)) yb 1 (.slice a2 n2 c2) (fun _ p n c e => by have := Q2.out p n c e; omega)))
                refine wpAnyH_done (by kernel_rfl) ?_ _
                have hs9 : ((((wd.setCell ⟨xb, 0, none⟩ (.int .i64 (now + 1))).setCell ⟨xb, 1, none⟩ (.slice a1 n1 c1)).setCell ⟨yb, 0, none⟩ (.int .i64 (now + 1))).setCell ⟨yb, 1, none⟩ (.slice a2 n2 c2)).heap.size = wd.heap.size := by simp
                generalize ((((World.setCell wd _ _).setCell _ _).setCell _ _).setCell _ _) = w9 at P8 J1 J2 G1 G2 hs9 ⊢
                have SM := Lib.hid (same18_any _ _ _ _ true w9 G1.out G2.out ⟨fun _ => rfl, fun _ => rfl⟩)
                go_wp2_with fail
                refine SM.out.mono ?_
                rintro e w10 ⟨rfl, b10⟩
                have B10 := Lib.hid b10
                clear b10
                go_wp2_with fail
                go_meet
                case rel =>
                  refine ⟨now + 1, rest L (now + 1), a1, a2, n1, c1, n2, c2, ⟨by omega, Int.le_refl _⟩, Nat.le_succ_of_le (rest_len _ _), HR.out.rest _, P8.out.keep B10.out, ⟨J1.out.keep B10.out, N1.out, fun p n c e => ?_⟩, ⟨J2.out.keep B10.out, N2.out, fun p n c e => ?_⟩⟩
                  · have h1 := W1.out.near1 (by omega) R1.out p n c e
                    have h2 := near_lt R1.out (fun p n c e => (W1.out.av p n c e).2.2) (E' := w10.heap.size) (by have := B10.out.size; omega) (by have := B10.out.size; omega) p n c e
                    exact ⟨h1.1, h1.2, h2⟩
                  · have h1 := W1.out.near2 (by omega) R2.out p n c e
                    have h2 := near_lt R2.out (fun p n c e => (W1.out.au p n c e).2.2) (E' := w10.heap.size) (by have := B10.out.size; omega) (by have := B10.out.size; omega) p n c e
                    exact ⟨h1.1, h1.2, h2⟩
            case rest =>
              obtain ⟨now', L', xa, ya, xn, xc, yn, yc, hn', hL', hR', hB3, ⟨hjx, hnx, hax⟩, ⟨hjy, hny, hay⟩⟩ := hcut
              have BX3 := Lib.hid hB3
              have JX := Lib.hid hjx
              have JY := Lib.hid hjy
              have NX := Lib.hid hnx
              have NY := Lib.hid hny
              have AX := Lib.hid hax
              have AY := Lib.hid hay
              have HR' := Lib.hid hR'
              clear hB3 hjx hjy hnx hny hax hay hR' c0 c1 c2 W2 HA2 BX
              have W3 := Lib.hid (W1.out.keep BX3.out.w)
              have HA3 := Lib.hid ((BX3.out.w.block A (by rw [HA1.out]; exact Nat.lt_succ_self A)).trans HA.out)
              go_wp2_with fail
              have LD := Lib.hid (W3.out.keep (Below.refl _ _).drew)
              have BD := Lib.hid (BX3.out.keep (Below.refl _ _).drew)
              have hA4 := HA3.out
              have JXd := Lib.hid (JX.out.keep (Below.refl _ _).drew)
              have JYd := Lib.hid (JY.out.keep (Below.refl _ _).drew)
              have hA5 : wc.drew.heap[A]? = some (.cells #[.int .i64 qk, .int .i64 qi, .int .i64 qa] 28 (0, 0)) := hA4
              have HA4 := Lib.hid hA5
              clear hA4 hA5
              have hsd : wc.drew.heap.size = wc.heap.size := rfl
              have h0 : (fun W : World => Below wc.drew.heap.size wc.drew W) wc.drew := Below.refl _ _
              refine region_any (by kernel_rfl) (fun W : World => Below wc.drew.heap.size wc.drew W) 21 rfl #[false, false, false, false, false, false, false, false, false, false, false, false, false, false, false, false, false, false, false, false, false] rfl ?_
              generalize wc.drew = wd at LD BD HA4 JXd JYd hsd h0 ⊢
              have HSD := Lib.hid hsd
              clear hsd
              obtain ⟨r, hr⟩ : ∃ r, armed L' qi = r := ⟨_, rfl⟩
              have SM1 := Lib.hid fun (W : World) (h : Below wd.heap.size wd W) => rsame18_any now' now' (.slice xa xn xc) (.slice ya yn yc) L' L' true W (JXd.out.keep h) (JYd.out.keep h) ⟨fun _ => ⟨rfl, rfl⟩, fun _ => rfl⟩
              have SM2 := Lib.hid fun (W : World) (h : Below wd.heap.size wd W) => rsame18_any now now (.slice va vn vc) (.slice ua un uc) L L true W (LD.out.lv.keep h) (LD.out.lu.keep h) ⟨fun _ => ⟨rfl, rfl⟩, fun _ => rfl⟩
              have AR1 := fun (W : World) (h : Below wd.heap.size wd W) => armed18_any now' qi (.slice xa xn xc) L' W (JXd.out.keep h)
              have AR2 := fun (W : World) (h : Below wd.heap.size wd W) => rarmed18_any now' qi (.slice ya yn yc) L' W (JYd.out.keep h)
              rw [hr] at AR1 AR2
              replace AR1 := Lib.hid AR1
              replace AR2 := Lib.hid AR2
              clear hr
              obtain ⟨x0, x1⟩ := BD.out.at2 (b := xb) (.head _)
              obtain ⟨y0, y1⟩ := BD.out.at2 (b := yb) (.tail _ (.head _))
              obtain ⟨v0, v1⟩ := LD.out.b.at2 (b := B) (.head _)
              obtain ⟨t0, t1⟩ := LD.out.b.at2 (b := B + 1) (.tail _ (.head _))
              have c1 : wd.cell? ⟨A, 1, none⟩ = some (.int .i64 qi) := by rw [cell_of_row _ _ 1 _ _ _ HA4.out]; rfl
              have lx := BD.out.lt (b := xb) (.head _)
              have ly := BD.out.lt (b := yb) (.tail _ (.head _))
              have lb := LD.out.b.lt (b := B) (.head _)
              have lb1 := LD.out.b.lt (b := B + 1) (.tail _ (.head _))
              have la := (Array.getElem?_eq_some_iff.1 HA4.out).1
              refine wpAnyH_take (i := 0) (v := .agg #[.int .i64 now', .slice xa xn xc]) rfl (by kernel_rfl) (by kernel_rfl) (by kernel_rfl) (fun _ _ _ h => h) (Or.inl ⟨by kernel_rfl, fun W' hS => ?_⟩) h0 ?_
              · have d0 := (hS.cell (p := ⟨xb, 0, none⟩) lx).trans x0; have d1 := (hS.cell (p := ⟨xb, 1, none⟩) lx).trans x1; go_simp
              simp only [Act.put, List.setIfInBounds_toArray, List.set_cons_zero, List.set_cons_succ, List.getElem_toArray, List.getElem_cons_zero]
              refine wpAnyH_take (i := 1) (v := .agg #[.int .i64 now', .slice ya yn yc]) rfl (by kernel_rfl) (by kernel_rfl) (by kernel_rfl) (fun _ _ _ h => h) (Or.inl ⟨by kernel_rfl, fun W' hS => ?_⟩) h0 ?_
              · have d0 := (hS.cell (p := ⟨yb, 0, none⟩) ly).trans y0; have d1 := (hS.cell (p := ⟨yb, 1, none⟩) ly).trans y1; go_simp
              simp only [Act.put, List.setIfInBounds_toArray, List.set_cons_zero, List.set_cons_succ, List.getElem_toArray, List.getElem_cons_succ, List.getElem_cons_zero]
              refine wpAnyH_ready (rs := [2]) (by kernel_rfl) (by simp) (AllReadyH.cons rfl (fun K hK => ?_) AllReadyH.nil)
              replace hK := Lib.hid hK
              go_simp
              refine (SM1.out _ h0).mono ?_
              rintro e e1 ⟨rfl, b⟩
              have S1 : Below wd.heap.size wd e1 := h0.trans (b.mono h0.size)
              dsimp only
              refine hK.out _ _ S1 (fun _ => ?_)
              clear hK K b
              simp only [List.setIfInBounds_toArray, List.set_cons_zero, List.set_cons_succ]
              refine wpAnyH_take (i := 3) (v := .bool false) rfl (by kernel_rfl) (by kernel_rfl) (by kernel_rfl) (fun _ _ _ h => h) (Or.inl ⟨by kernel_rfl, fun W' hS => ?_⟩) S1 ?_
              · go_simp
              simp only [Act.put, List.setIfInBounds_toArray, List.set_cons_zero, List.set_cons_succ, List.getElem_toArray, List.getElem_cons_succ, List.getElem_cons_zero]
              refine wpAnyH_take (i := 4) (v := .bool false) rfl (by kernel_rfl) (by kernel_rfl) (by kernel_rfl) (fun _ _ _ h => h) (Or.inl ⟨by kernel_rfl, fun W' hS => ?_⟩) S1 ?_
              · go_simp
              simp only [Act.put, List.setIfInBounds_toArray, List.set_cons_zero, List.set_cons_succ, List.getElem_toArray, List.getElem_cons_succ, List.getElem_cons_zero]
              refine wpAnyH_take (i := 5) (v := .agg #[.int .i64 now, .slice va vn vc]) rfl (by kernel_rfl) (by kernel_rfl) (by kernel_rfl) (fun _ _ _ h => h) (Or.inl ⟨by kernel_rfl, fun W' hS => ?_⟩) S1 ?_
              · have d0 := (hS.cell (p := ⟨B, 0, none⟩) lb).trans v0; have d1 := (hS.cell (p := ⟨B, 1, none⟩) lb).trans v1; go_simp
              simp only [Act.put, List.setIfInBounds_toArray, List.set_cons_zero, List.set_cons_succ, List.getElem_toArray, List.getElem_cons_succ, List.getElem_cons_zero]
              refine wpAnyH_take (i := 6) (v := .agg #[.int .i64 now, .slice ua un uc]) rfl (by kernel_rfl) (by kernel_rfl) (by kernel_rfl) (fun _ _ _ h => h) (Or.inl ⟨by kernel_rfl, fun W' hS => ?_⟩) S1 ?_
              · have d0 := (hS.cell (p := ⟨B + 1, 0, none⟩) lb1).trans t0; have d1 := (hS.cell (p := ⟨B + 1, 1, none⟩) lb1).trans t1; go_simp
              simp only [Act.put, List.setIfInBounds_toArray, List.set_cons_zero, List.set_cons_succ, List.getElem_toArray, List.getElem_cons_succ, List.getElem_cons_zero]
              refine wpAnyH_ready (rs := [7]) (by kernel_rfl) (by simp) (AllReadyH.cons rfl (fun K hK => ?_) AllReadyH.nil)
              replace hK := Lib.hid hK
              go_simp
              refine (SM2.out _ S1).mono ?_
              rintro e e2 ⟨rfl, b⟩
              have S2 : Below wd.heap.size wd e2 := S1.trans (b.mono S1.size)
              dsimp only
              refine hK.out _ _ S2 (fun _ => ?_)
              clear hK K b
              simp only [List.setIfInBounds_toArray, List.set_cons_zero, List.set_cons_succ]
              refine wpAnyH_take (i := 8) (v := .bool false) rfl (by kernel_rfl) (by kernel_rfl) (by kernel_rfl) (fun _ _ _ h => h) (Or.inl ⟨by kernel_rfl, fun W' hS => ?_⟩) S2 ?_
              · go_simp
              simp only [Act.put, List.setIfInBounds_toArray, List.set_cons_zero, List.set_cons_succ, List.getElem_toArray, List.getElem_cons_succ, List.getElem_cons_zero]
              refine wpAnyH_take (i := 9) (v := .bool false) rfl (by kernel_rfl) (by kernel_rfl) (by kernel_rfl) (fun _ _ _ h => h) (Or.inl ⟨by kernel_rfl, fun W' hS => ?_⟩) S2 ?_
              · go_simp
              simp only [Act.put, List.setIfInBounds_toArray, List.set_cons_zero, List.set_cons_succ, List.getElem_toArray, List.getElem_cons_succ, List.getElem_cons_zero]
              refine wpAnyH_take (i := 10) (v := .bool false) rfl (by kernel_rfl) (by kernel_rfl) (by kernel_rfl) (fun _ _ _ h => h) (Or.inl ⟨by kernel_rfl, fun W' hS => ?_⟩) S2 ?_
              · go_simp
              simp only [Act.put, List.setIfInBounds_toArray, List.set_cons_zero, List.set_cons_succ, List.getElem_toArray, List.getElem_cons_succ, List.getElem_cons_zero]
              refine wpAnyH_take (i := 11) (v := .agg #[.int .i64 now', .slice xa xn xc]) rfl (by kernel_rfl) (by kernel_rfl) (by kernel_rfl) (fun _ _ _ h => h) (Or.inl ⟨by kernel_rfl, fun W' hS => ?_⟩) S2 ?_
              · have d0 := (hS.cell (p := ⟨xb, 0, none⟩) lx).trans x0; have d1 := (hS.cell (p := ⟨xb, 1, none⟩) lx).trans x1; go_simp
              simp only [Act.put, List.setIfInBounds_toArray, List.set_cons_zero, List.set_cons_succ, List.getElem_toArray, List.getElem_cons_succ, List.getElem_cons_zero]
              refine wpAnyH_take (i := 12) (v := .pointer (some ⟨A, 1, none⟩)) rfl (by kernel_rfl) (by kernel_rfl) (by kernel_rfl) (fun _ _ _ h => h) (Or.inl ⟨by kernel_rfl, fun W' hS => ?_⟩) S2 ?_
              · go_simp
              simp only [Act.put, List.setIfInBounds_toArray, List.set_cons_zero, List.set_cons_succ, List.getElem_toArray, List.getElem_cons_succ, List.getElem_cons_zero]
              refine wpAnyH_take (i := 13) (v := .int .i64 qi) rfl (by kernel_rfl) (by kernel_rfl) (by kernel_rfl) (fun _ _ _ h => h) (Or.inl ⟨by kernel_rfl, fun W' hS => ?_⟩) S2 ?_
              · have d := (hS.cell (p := ⟨A, 1, none⟩) la).trans c1; go_simp
              simp only [Act.put, List.setIfInBounds_toArray, List.set_cons_zero, List.set_cons_succ, List.getElem_toArray, List.getElem_cons_succ, List.getElem_cons_zero]
              refine wpAnyH_take (i := 15) (v := .agg #[.int .i64 now', .slice ya yn yc]) rfl (by kernel_rfl) (by kernel_rfl) (by kernel_rfl) (fun _ _ _ h => h) (Or.inl ⟨by kernel_rfl, fun W' hS => ?_⟩) S2 ?_
              · have d0 := (hS.cell (p := ⟨yb, 0, none⟩) ly).trans y0; have d1 := (hS.cell (p := ⟨yb, 1, none⟩) ly).trans y1; go_simp
              simp only [Act.put, List.setIfInBounds_toArray, List.set_cons_zero, List.set_cons_succ, List.getElem_toArray, List.getElem_cons_succ, List.getElem_cons_zero]
              refine wpAnyH_take (i := 16) (v := .pointer (some ⟨A, 1, none⟩)) rfl (by kernel_rfl) (by kernel_rfl) (by kernel_rfl) (fun _ _ _ h => h) (Or.inl ⟨by kernel_rfl, fun W' hS => ?_⟩) S2 ?_
              · go_simp
              simp only [Act.put, List.setIfInBounds_toArray, List.set_cons_zero, List.set_cons_succ, List.getElem_toArray, List.getElem_cons_succ, List.getElem_cons_zero]
              refine wpAnyH_take (i := 17) (v := .int .i64 qi) rfl (by kernel_rfl) (by kernel_rfl) (by kernel_rfl) (fun _ _ _ h => h) (Or.inl ⟨by kernel_rfl, fun W' hS => ?_⟩) S2 ?_
              · have d := (hS.cell (p := ⟨A, 1, none⟩) la).trans c1; go_simp
              simp only [Act.put, List.setIfInBounds_toArray, List.set_cons_zero, List.set_cons_succ, List.getElem_toArray, List.getElem_cons_succ, List.getElem_cons_zero]
              clear x0 x1 y0 y1 v0 v1 t0 t1 c1 lx ly lb lb1 la
              refine wpAnyH_ready (rs := [14]) (by kernel_rfl) (by simp) (AllReadyH.cons rfl (fun K hK => ?_) AllReadyH.nil)
              replace hK := Lib.hid hK
              go_simp
              refine (AR1.out _ S2).mono ?_
              rintro e e3 ⟨rfl, b⟩
              have S3 : Below wd.heap.size wd e3 := S2.trans (b.mono S2.size)
              dsimp only
              refine hK.out _ _ S3 (fun _ => ?_)
              clear hK K b
              simp only [List.setIfInBounds_toArray, List.set_cons_zero, List.set_cons_succ]
              refine wpAnyH_ready (rs := [18]) (by kernel_rfl) (by simp) (AllReadyH.cons rfl (fun K hK => ?_) AllReadyH.nil)
              replace hK := Lib.hid hK
              go_simp
              refine (AR2.out _ S3).mono ?_
              rintro e e4 ⟨rfl, b⟩
              have S4 : Below wd.heap.size wd e4 := S3.trans (b.mono S3.size)
              dsimp only
              refine hK.out _ _ S4 (fun _ => ?_)
              clear hK K b
              simp only [List.setIfInBounds_toArray, List.set_cons_zero, List.set_cons_succ]
              refine wpAnyH_take (i := 19) (v := .bool false) rfl (by kernel_rfl) (by kernel_rfl) (by kernel_rfl) (fun _ _ _ h => h) (Or.inl ⟨by kernel_rfl, fun W' hS => ?_⟩) S4 ?_
              · go_simp
              simp only [Act.put, List.setIfInBounds_toArray, List.set_cons_zero, List.set_cons_succ, List.getElem_toArray, List.getElem_cons_succ, List.getElem_cons_zero]
              refine wpAnyH_take (i := 20) (v := .bool false) rfl (by kernel_rfl) (by kernel_rfl) (by kernel_rfl) (fun _ _ _ h => h) (Or.inl ⟨by kernel_rfl, fun W' hS => ?_⟩) S4 ?_
              · go_simp
              simp only [Act.put, List.setIfInBounds_toArray, List.set_cons_zero, List.set_cons_succ, List.getElem_toArray, List.getElem_cons_succ, List.getElem_cons_zero]
              refine wpAnyH_done (by kernel_rfl) ?_ _
              have W5 := Lib.hid (LD.out.keep S4)
              have BX5 := Lib.hid (BD.out.keep S4)
              have JX5 := Lib.hid (JXd.out.keep S4)
              have JY5 := Lib.hid (JYd.out.keep S4)
              have hz5 := S4.size
              clear S1 S2 S3 S4 h0 LD BD HA4 JXd JYd SM1 SM2 AR1 AR2
              go_wp2_with fail
              have h0 : (fun W : World => ∀ b o : Nat, b < e4.drew.heap.size → b ≠ B → b ≠ B + 1 → W.cell? ⟨b, o, none⟩ = e4.drew.cell? ⟨b, o, none⟩) e4.drew := fun _ _ _ _ _ => rfl
              have W6 := Lib.hid (W5.out.keep (Below.refl _ _).drew)
              have BX6 := Lib.hid (BX5.out.keep (Below.refl _ _).drew)
              have JX6 := Lib.hid (JX5.out.keep (Below.refl _ _).drew)
              have JY6 := Lib.hid (JY5.out.keep (Below.refl _ _).drew)
              have hz6 : wc.heap.size ≤ e4.drew.heap.size := by have := HSD.out; show _ ≤ e4.heap.size; omega
              refine region_any (by kernel_rfl) (fun W : World => ∀ b o : Nat, b < e4.drew.heap.size → b ≠ B → b ≠ B + 1 → W.cell? ⟨b, o, none⟩ = e4.drew.cell? ⟨b, o, none⟩) 4 rfl #[false, false, false, false] rfl ?_
              generalize e4.drew = wf at W6 BX6 JX6 JY6 hz6 h0 ⊢
              have HZ6 := Lib.hid hz6
              obtain ⟨x0, x1⟩ := BX6.out.at2 (b := xb) (.head _)
              obtain ⟨y0, y1⟩ := BX6.out.at2 (b := yb) (.tail _ (.head _))
              have lx := BX6.out.lt (b := xb) (.head _)
              have ly := BX6.out.lt (b := yb) (.tail _ (.head _))
              refine wpAnyH_take (i := 0) (v := .agg #[.int .i64 now', .slice xa xn xc]) rfl (by kernel_rfl) (by kernel_rfl) (by kernel_rfl) (fun _ _ _ h => h) (Or.inl ⟨by kernel_rfl, fun W' hS => ?_⟩) h0 ?_
              · have d0 := (hS xb 0 lx (by omega) (by omega)).trans x0; have d1 := (hS xb 1 lx (by omega) (by omega)).trans x1; go_simp
              simp only [Act.put, List.setIfInBounds_toArray, List.set_cons_zero, List.set_cons_succ, List.getElem_toArray, List.getElem_cons_zero]
              refine wpAnyH_take (i := 1) (v := .agg #[.int .i64 now', .slice ya yn yc]) rfl (by kernel_rfl) (by kernel_rfl) (by kernel_rfl) (fun _ _ _ h => h) (Or.inl ⟨by kernel_rfl, fun W' hS => ?_⟩) h0 ?_
              · have d0 := (hS yb 0 ly (by omega) (by omega)).trans y0; have d1 := (hS yb 1 ly (by omega) (by omega)).trans y1; go_simp
              simp only [Act.put, List.setIfInBounds_toArray, List.set_cons_zero, List.set_cons_succ, List.getElem_toArray, List.getElem_cons_succ, List.getElem_cons_zero]
              clear x0 x1 y0 y1 lx ly hz6
              have P6 := Lib.hid W6.out.b
              refine wpAnyH_ready (rs := [2]) (by kernel_rfl) (by simp) (AllReadyH.cons rfl (fun K hK => ?_) AllReadyH.nil)
              replace hK := Lib.hid hK
              obtain ⟨z0, z1⟩ := P6.out.fz2 (.head _)
              obtain ⟨t0, t1⟩ := P6.out.at2 (.head _)
              go_simp
              have P7 := Lib.hid (((P6.out.set (by rw [HB.out]; exact Nat.le_refl _) (fun p hp => by rcases List.mem_singleton.1 hp with rfl; show B + 1 ≠ B; omega) 0 (.int .i64 now')).set (by rw [HB.out]; exact Nat.le_refl _) (fun p hp => by rcases List.mem_singleton.1 hp with rfl; show B + 1 ≠ B; omega) 1 (.slice xa xn xc)).swap)
              refine hK.out _ _ (fun b o hb hx hy => by rw [World.cell?_setCell_other _ _ _ _ (fun e => hx (by injection e with e; exact e.symm)), World.cell?_setCell_other _ _ _ _ (fun e => hx (by injection e with e; exact e.symm))]) (fun _ => ?_)
              clear hK K z0 z1 t0 t1
              simp only [List.setIfInBounds_toArray, List.set_cons_zero, List.set_cons_succ]
              refine wpAnyH_ready (rs := [3]) (by kernel_rfl) (by simp) (AllReadyH.cons rfl (fun K hK => ?_) AllReadyH.nil)
              replace hK := Lib.hid hK
              obtain ⟨z0, z1⟩ := P7.out.fz2 (.head _)
              obtain ⟨t0, t1⟩ := P7.out.at2 (.head _)
              go_simp
              have P8 := Lib.hid (((P7.out.set (by rw [HB.out]; exact Nat.le_succ _) (fun p hp => by rcases List.mem_singleton.1 hp with rfl; show B ≠ B + 1; omega) 0 (.int .i64 now')).set (by rw [HB.out]; exact Nat.le_succ _) (fun p hp => by rcases List.mem_singleton.1 hp with rfl; show B ≠ B + 1; omega) 1 (.slice ya yn yc)).swap)
              refine hK.out _ _ (fun b o hb hx hy => by rw [World.cell?_setCell_other _ _ _ _ (fun e => hy (by injection e with e; exact e.symm)), World.cell?_setCell_other _ _ _ _ (fun e => hy (by injection e with e; exact e.symm)), World.cell?_setCell_other _ _ _ _ (fun e => hx (by injection e with e; exact e.symm)), World.cell?_setCell_other _ _ _ _ (fun e => hx (by injection e with e; exact e.symm))]) (fun _ => ?_)
              clear hK K z0 z1 t0 t1
              simp only [List.setIfInBounds_toArray, List.set_cons_zero, List.set_cons_succ]
              have J1 := Lib.hid ((isl_put (isl_put (isl_put (isl_put JX6.out B 0 (.int .i64 now') (fun _ p n c e => (AX.out p n c e).1)) B 1 (.slice xa xn xc) (fun _ p n c e => (AX.out p n c e).1)) (B + 1) 0 (.int .i64 now') (fun _ p n c e => (AX.out p n c e).2.1)) (B + 1) 1 (.slice ya yn yc) (fun _ p n c e => (AX.out p n c e).2.1)))
              have J2 := Lib.hid ((isl_put (isl_put (isl_put (isl_put JY6.out B 0 (.int .i64 now') (fun _ p n c e => (AY.out p n c e).1)) B 1 (.slice xa xn xc) (fun _ p n c e => (AY.out p n c e).1)) (B + 1) 0 (.int .i64 now') (fun _ p n c e => (AY.out p n c e).2.1)) (B + 1) 1 (.slice ya yn yc) (fun _ p n c e => (AY.out p n c e).2.1)))
              have hs9 : ((((wf.setCell ⟨B, 0, none⟩ (.int .i64 now')).setCell ⟨B, 1, none⟩ (.slice xa xn xc)).setCell ⟨B + 1, 0, none⟩ (.int .i64 now')).setCell ⟨B + 1, 1, none⟩ (.slice ya yn yc)).heap.size = wf.heap.size := by simp
              refine wpAnyH_done (by kernel_rfl) ?_ _
              generalize ((((World.setCell wf _ _).setCell _ _).setCell _ _).setCell _ _) = w9 at P8 J1 J2 hs9 ⊢
              have HS9 := Lib.hid hs9
              clear hs9
              go_wp2_with fail
              go_roundw
              case rel => exact ⟨k + 1, now', L', xa, ya, xn, xc, yn, yc, by omega, by go_num, ⟨by omega, by omega⟩, by omega, HR'.out, P8.out, J1.out, J2.out, NX.out, NY.out, fun p n c e => ⟨(AX.out p n c e).1, (AX.out p n c e).2.1, by have := (AX.out p n c e).2.2; have := HZ6.out; have := HS9.out; omega⟩, fun p n c e => ⟨(AY.out p n c e).1, (AY.out p n c e).2.1, by have := (AY.out p n c e).2.2; have := HZ6.out; have := HS9.out; omega⟩⟩
              case measure => simp [intOf]; omega
      · go_wp2_with fail
        refine (AW.out _).mono ?_
        rintro e w1 ⟨rfl, b1⟩
        have B1 := Lib.hid (HW.out.b.w.trans (b1.mono HW.out.b.w.size))
        clear b1
        go_wp2_with fail
        go_ret
        exact ⟨rfl, B1.out⟩
  · have e1 : decide (80 < (fn : Int)) = true := by simp; omega
    go_enter Try.func3, Try.ntmps3
    go_wp2_with fail
    refine (AW.out _).mono ?_
    rintro e w1 ⟨rfl, b1⟩
    have B1 := Lib.hid b1
    clear b1
    go_wp2_with fail
    go_ret
    exact ⟨rfl, B1.out⟩

end Go.Proofs.Ytpbpkeifehobjaa.Tm
