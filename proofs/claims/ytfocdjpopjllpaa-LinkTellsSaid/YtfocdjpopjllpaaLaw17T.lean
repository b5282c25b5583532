/-
  LinkTells, walked.
-/
import Derived.Test.YtfocdjpopjllpaaLnkLb
import Derived.Deep.RegionHeld3
namespace Go.Proofs.Ytfocdjpopjllpaa.Lk
open Go.RowKit

set_option maxRecDepth 100000 in
set_option maxHeartbeats 3200000 in
theorem tells17 (fa : Option Addr) (fn fc : Nat) (l : List ByteArray) (s : ByteArray) (f t k most : Int) (w : World) (hv : IsL LS w (.slice fa fn fc) l) (hn : NilOk (.slice fa fn fc)) :
    Calls Try.prog 3 #[.agg #[.int .i64 f, .int .i64 t, .slice fa fn fc, .string s, .int .i64 k, .int .i64 most]] w fun e w' => e = .returned (.bool true) ∧ Below w.heap.size w w' := by
  have mixed : Try.prog.follows Departure.mixedOrders = true := by kernel_rfl
  obtain ⟨b, hb⟩ : ∃ b : Bool, b = true ↔ Few l := by classical exact ⟨decide _, decide_eq_true_iff⟩
  have AW := Lib.hid fun W : World => awake17 W
  have HB := Lib.hid hb
  have HV := Lib.hid hv
  have HNil := Lib.hid hn
  clear hb hv hn
  go_enter Try.func3, Try.ntmps3
  go_wp2_with fail
  have BX := Lib.hid ((Below.refl w.heap.size w).alloc (Nat.le_refl _) (.cells #[.int .i64 f, .int .i64 t, .slice fa fn fc, .string s, .int .i64 k, .int .i64 most] 26))
  have GX := Lib.hid (heap_alloc_new w (.cells #[.int .i64 f, .int .i64 t, .slice fa fn fc, .string s, .int .i64 k, .int .i64 most] 26))
  generalize World.alloc w _ = w0 at BX GX ⊢
  have x0 : w0.cell? ⟨w.heap.size, 0, none⟩ = some (.int .i64 f) := by rw [cell_of_row _ _ 0 _ _ _ GX.out]; rfl
  have x1 : w0.cell? ⟨w.heap.size, 1, none⟩ = some (.int .i64 t) := by rw [cell_of_row _ _ 1 _ _ _ GX.out]; rfl
  have x2 : w0.cell? ⟨w.heap.size, 2, none⟩ = some (.slice fa fn fc) := by rw [cell_of_row _ _ 2 _ _ _ GX.out]; rfl
  have x3 : w0.cell? ⟨w.heap.size, 3, none⟩ = some (.string s) := by rw [cell_of_row _ _ 3 _ _ _ GX.out]; rfl
  have x4 : w0.cell? ⟨w.heap.size, 4, none⟩ = some (.int .i64 k) := by rw [cell_of_row _ _ 4 _ _ _ GX.out]; rfl
  have x5 : w0.cell? ⟨w.heap.size, 5, none⟩ = some (.int .i64 most) := by rw [cell_of_row _ _ 5 _ _ _ GX.out]; rfl
  have n0 := World.new_ne w0 _ x0
  have n1 := World.new_ne w0 _ x1
  have n2 := World.new_ne w0 _ x2
  have n3 := World.new_ne w0 _ x3
  have n4 := World.new_ne w0 _ x4
  have n5 := World.new_ne w0 _ x5
  go_region_held3 (fun W => W.cell? ⟨w.heap.size, 0, none⟩ = some (.int .i64 f) ∧ W.cell? ⟨w.heap.size, 1, none⟩ = some (.int .i64 t) ∧ W.cell? ⟨w.heap.size, 2, none⟩ = some (.slice fa fn fc) ∧ W.cell? ⟨w.heap.size, 3, none⟩ = some (.string s) ∧ W.cell? ⟨w.heap.size, 4, none⟩ = some (.int .i64 k) ∧ W.cell? ⟨w.heap.size, 5, none⟩ = some (.int .i64 most)) (go_keep) (fail)
  -- BEHIND
  have LB0 := Lib.hid (((Lb.start w0).add (HV.out.keep BX.out)).new #[.int .i64 f, .int .i64 t, .slice fa fn fc])
  have LB1 := Lib.hid (LB0.out.keep (Below.refl _ _).drew)
  obtain ⟨lb, hlb⟩ : ∃ lb, w0.heap.size = lb := ⟨_, rfl⟩
  rw [hlb] at LB1 ⊢
  clear LB0 hlb x0 x1 x2 x3 x4 x5 n0 n1 n2 n3 n4 n5 GX
  generalize (World.alloc w0 _).drew = w1 at LB1 ⊢
  obtain ⟨x0, x1, x2⟩ := LB1.out.at_ (b := lb) (List.mem_cons_self)
  have FW := Lib.hid (rfew17_any f t (.slice fa fn fc) l b w1 (LB1.out.is_ (List.mem_cons_self)) HB.out)
  by_cases hg : b = true ∧ s.size ≤ 300
  rotate_left
  · cases b with
    | false =>
      go_wp2_with fail
      refine FW.out.mono ?_
      rintro e w2 ⟨rfl, b2⟩
      have B2 := Lib.hid (BX.out.trans ((LB1.out.w.trans (b2.mono LB1.out.w.size)).mono BX.out.size))
      clear b2
      go_wp2_with fail
      refine (AW.out _).mono ?_
      rintro e w3 ⟨rfl, b3⟩
      have B3 := Lib.hid (B2.out.trans (b3.mono B2.out.size))
      clear b3
      go_wp2_with fail
      go_ret
      exact ⟨rfl, B3.out⟩
    | true =>
      have hs : 300 < s.size := by have := not_and.1 hg rfl; omega
      have e1 : decide (300 < (s.size : Int)) = true := by simp; omega
      clear hg
      go_wp2_with fail
      refine FW.out.mono ?_
      rintro e w2 ⟨rfl, b2⟩
      have B2 := Lib.hid (BX.out.trans ((LB1.out.w.trans (b2.mono LB1.out.w.size)).mono BX.out.size))
      clear b2
      go_wp2_with fail
      refine (AW.out _).mono ?_
      rintro e w3 ⟨rfl, b3⟩
      have B3 := Lib.hid (B2.out.trans (b3.mono B2.out.size))
      clear b3
      go_wp2_with fail
      go_ret
      exact ⟨rfl, B3.out⟩
  · obtain ⟨rfl, hs⟩ := hg
    have e1 : decide (300 < (s.size : Int)) = false := by simp; omega
    have HL := Lib.hid (HB.out.1 rfl).1
    have HFL := Lib.hid HV.out.len.1
    go_wp2_with fail
    refine FW.out.mono ?_
    rintro e w2 ⟨rfl, b2⟩
    have LB2 := Lib.hid (LB1.out.keep b2)
    clear b2 x0 x1 x2 FW
    obtain ⟨x0, x1, x2⟩ := LB2.out.at_ (b := lb) (List.mem_cons_self)
    go_wp2_with fail
    go_cut [7] (fun p W => ∃ (wb : Nat) (a : Option Addr) (n c : Nat), p = .pointer (some ⟨wb, 0, none⟩) ∧ Lb w0 [(wb, #[.int .i64 f, .int .i64 t, .slice a n c]), (lb, #[.int .i64 f, .int .i64 t, .slice fa fn fc])] [(.slice a n c, l), (.slice fa fn fc, l)] W ∧ NilOk (.slice a n c))
    case first =>
      have LD := Lib.hid (LB2.out.keep (Below.refl _ _).drew)
      have h0 : (fun W : World => Below w2.drew.heap.size w2.drew W) w2.drew := Below.refl _ _
      refine region_plain17 (by kernel_rfl) (fun W : World => Below w2.drew.heap.size w2.drew W) 11 rfl #[false, false, false, false, false, false, false, false, false, false, false] rfl ?_
      generalize w2.drew = wd at LD h0 ⊢
      clear x0 x1 x2
      obtain ⟨x0, x1, x2⟩ := LD.out.at_ (b := lb) (.head _)
      have LT := Lib.hid (LD.out.lt (.head _))
      have NA := Lib.hid (own_zero wd)
      have SA := Lib.hid ((Below.refl wd.heap.size wd).alloc (Nat.le_refl _) (.cells #[] 9))
      have SB := Lib.hid ((Below.refl wd.heap.size wd).alloc (Nat.le_refl _) (.cells #[.int .i64 0, .int .i64 0, .slice none 0 0] 24))
      have NAB := Lib.hid (NA.out.alloc (.cells #[.int .i64 0, .int .i64 0, .slice none 0 0] 24))
      have SAB := Lib.hid (SA.out.alloc SA.out.size (.cells #[.int .i64 0, .int .i64 0, .slice none 0 0] 24))
      have SBA := Lib.hid (SB.out.alloc SB.out.size (.cells #[] 9))
      have nba := own_zero (wd.alloc (.cells #[.int .i64 0, .int .i64 0, .slice none 0 0] 24))
      have gab := heap_alloc_new (wd.alloc (.cells #[] 9)) (.cells #[.int .i64 0, .int .i64 0, .slice none 0 0] 24)
      have gba : ((wd.alloc (.cells #[.int .i64 0, .int .i64 0, .slice none 0 0] 24)).alloc (.cells #[] 9)).heap[wd.heap.size]? = some (.cells #[.int .i64 0, .int .i64 0, .slice none 0 0] 24 (0, 0)) := by rw [heap_alloc_old _ _ (by simp)]; exact heap_alloc_new wd _
      rw [show (wd.alloc (.cells #[.int .i64 0, .int .i64 0, .slice none 0 0] 24)).heap.size = wd.heap.size + 1 by simp] at nba
      rw [show (wd.alloc (.cells #[] 9)).heap.size = wd.heap.size + 1 by simp] at gab
      have NBA := Lib.hid nba
      have GAB := Lib.hid gab
      have GBA := Lib.hid gba
      clear nba gab gba
      have HNN := Lib.hid (show ([] : List ByteArray).length + l.length ≤ 1000000 by have := HL.out; simp; omega)
      have HM5 := Lib.hid (show ([] ++ l : List ByteArray).length ≤ maxLen by unfold maxLen; have := HL.out; simp; omega)
      have L2 := Lib.hid (LD.out.w.size)
      refine wpAnyH_take (i := 0) (v := .pointer (some ⟨lb, 0, none⟩)) rfl (by kernel_rfl) (by kernel_rfl) (by kernel_rfl) (fun _ _ _ h => h) (Or.inl ⟨by kernel_rfl, fun W' hS => ?_⟩) h0 ?_
      · go_simp
      simp only [Act.put, List.setIfInBounds_toArray, List.set_cons_zero, List.set_cons_succ, List.getElem_toArray, List.getElem_cons_zero]
      refine wpAnyH_take (i := 1) (v := .int .i64 f) rfl (by kernel_rfl) (by kernel_rfl) (by kernel_rfl) (fun _ _ _ h => h) (Or.inl ⟨by kernel_rfl, fun W' hS => ?_⟩) h0 ?_
      · have c := (hS.cell (p := ⟨lb, 0, none⟩) LT.out).trans x0; go_simp
      simp only [Act.put, List.setIfInBounds_toArray, List.set_cons_zero, List.set_cons_succ, List.getElem_toArray, List.getElem_cons_succ, List.getElem_cons_zero]
      refine wpAnyH_take (i := 2) (v := .pointer (some ⟨lb, 1, none⟩)) rfl (by kernel_rfl) (by kernel_rfl) (by kernel_rfl) (fun _ _ _ h => h) (Or.inl ⟨by kernel_rfl, fun W' hS => ?_⟩) h0 ?_
      · go_simp
      simp only [Act.put, List.setIfInBounds_toArray, List.set_cons_zero, List.set_cons_succ, List.getElem_toArray, List.getElem_cons_succ, List.getElem_cons_zero]
      refine wpAnyH_take (i := 3) (v := .int .i64 t) rfl (by kernel_rfl) (by kernel_rfl) (by kernel_rfl) (fun _ _ _ h => h) (Or.inl ⟨by kernel_rfl, fun W' hS => ?_⟩) h0 ?_
      · have c := (hS.cell (p := ⟨lb, 1, none⟩) LT.out).trans x1; go_simp
      simp only [Act.put, List.setIfInBounds_toArray, List.set_cons_zero, List.set_cons_succ, List.getElem_toArray, List.getElem_cons_succ, List.getElem_cons_zero]
      refine wpAnyH_take (i := 5) (v := .pointer (some ⟨lb, 2, none⟩)) rfl (by kernel_rfl) (by kernel_rfl) (by kernel_rfl) (fun _ _ _ h => h) (Or.inl ⟨by kernel_rfl, fun W' hS => ?_⟩) h0 ?_
      · go_simp
      simp only [Act.put, List.setIfInBounds_toArray, List.set_cons_zero, List.set_cons_succ, List.getElem_toArray, List.getElem_cons_succ, List.getElem_cons_zero]
      refine wpAnyH_take (i := 6) (v := .slice fa fn fc) rfl (by kernel_rfl) (by kernel_rfl) (by kernel_rfl) (fun _ _ _ h => h) (Or.inl ⟨by kernel_rfl, fun W' hS => ?_⟩) h0 ?_
      · have c := (hS.cell (p := ⟨lb, 2, none⟩) LT.out).trans x2; go_simp
      simp only [Act.put, List.setIfInBounds_toArray, List.set_cons_zero, List.set_cons_succ, List.getElem_toArray, List.getElem_cons_succ, List.getElem_cons_zero]
      clear x0 x1 x2
      refine wpAnyH_ready (rs := [4, 9]) (by kernel_rfl) (by simp) (AllReadyH.cons rfl (fun K hK => ?_) (AllReadyH.cons rfl (fun K hK => ?_) AllReadyH.nil))
      · replace hK := Lib.hid hK
        go_simp
        refine hK.out _ _ SA.out (fun _ => ?_)
        clear hK K
        simp only [List.setIfInBounds_toArray, List.set_cons_zero, List.set_cons_succ]
        refine wpAnyH_ready (rs := [7, 9]) (by kernel_rfl) (by simp) (AllReadyH.cons rfl (fun K hK => ?_) (AllReadyH.cons rfl (fun K hK => ?_) AllReadyH.nil))
        · refine step_append_run rfl (.tmp 43) (.tmp 45) 22 rfl (.slice (some ⟨wd.heap.size, 0, none⟩) 0 0) (.slice fa fn fc) (by simp [Act.eval]) (by simp [Act.eval]) _ (app_own _ NA.out ((LD.out.is_ (.head _)).keep SA.out) (by simp) HNN.out) ?_
          rintro v5 w5 ⟨ho5, hg5⟩
          have S5 := Lib.hid (bel_own SA.out NA.out (Nat.le_refl _) hg5)
          have K5 := Lib.hid ((LD.out.keep S5.out).add (ho5.is HM5.out (fun _ _ => trivial)))
          obtain ⟨a5, m5, c5, rfl⟩ := own_slice ho5
          have Q5 := Lib.hid (own_nil ho5)
          refine hK _ _ S5.out (fun _ => ?_)
          clear hK K ho5 hg5
          simp only [Act.put, List.setIfInBounds_toArray, List.set_cons_zero, List.set_cons_succ]
          refine wpAnyH_take (i := 8) (v := .agg #[.int .i64 f, .int .i64 t, .slice a5 m5 c5]) rfl (by kernel_rfl) (by kernel_rfl) (by kernel_rfl) (fun _ _ _ h => h) (Or.inl ⟨by kernel_rfl, fun W' hS => ?_⟩) S5.out ?_
          · go_simp
          simp only [Act.put, List.setIfInBounds_toArray, List.set_cons_zero, List.set_cons_succ, List.getElem_toArray, List.getElem_cons_succ, List.getElem_cons_zero]
          refine wpAnyH_ready (rs := [9]) (by kernel_rfl) (by simp) (AllReadyH.cons rfl (fun K hK => ?_) AllReadyH.nil)
          replace hK := Lib.hid hK
          go_simp
          refine hK.out _ _ (S5.out.alloc S5.out.size _) (fun _ => ?_)
          clear hK K
          simp only [List.setIfInBounds_toArray, List.set_cons_zero, List.set_cons_succ]
          refine wpAnyH_ready (rs := [10]) (by kernel_rfl) (by simp) (AllReadyH.cons rfl (fun K hK => ?_) AllReadyH.nil)
          replace hK := Lib.hid hK
          go_simp
          refine hK.out _ _ (S5.out.alloc S5.out.size _) (fun _ => ?_)
          clear hK K
          simp only [List.setIfInBounds_toArray, List.set_cons_zero, List.set_cons_succ]
          refine wpAnyH_done (by kernel_rfl) ?_ _
          go_wp2_with fail
          go_meet
          case rel => exact ⟨w5.heap.size, a5, m5, c5, rfl, K5.out.new _, Q5.out⟩
        · replace hK := Lib.hid hK
          go_simp
          refine hK.out _ _ SAB.out (fun _ => ?_)
          clear hK K
          simp only [List.setIfInBounds_toArray, List.set_cons_zero, List.set_cons_succ]
          refine wpAnyH_ready (rs := [7]) (by kernel_rfl) (by simp) (AllReadyH.cons rfl (fun K hK => ?_) AllReadyH.nil)
          refine step_append_run rfl (.tmp 43) (.tmp 45) 22 rfl (.slice (some ⟨wd.heap.size, 0, none⟩) 0 0) (.slice fa fn fc) (by simp [Act.eval]) (by simp [Act.eval]) _ (app_own _ NAB.out ((LD.out.is_ (.head _)).keep SAB.out) (by simp <;> omega) HNN.out) ?_
          rintro v5 w5 ⟨ho5, hg5⟩
          have S5 := Lib.hid (bel_own SAB.out NAB.out (Nat.le_refl _) hg5)
          have K5 := Lib.hid ((LD.out.keep S5.out).add (ho5.is HM5.out (fun _ _ => trivial)))
          have K6 := Lib.hid (K5.out.box ((hg5.block (wd.heap.size + 1) (by simp) (by simp [Value.ownBlock])).trans GAB.out))
          have O5 := Lib.hid (own_ne ho5 (K6.out.b _ (.head _)))
          obtain ⟨a5, m5, c5, rfl⟩ := own_slice ho5
          have Q5 := Lib.hid (own_nil ho5)
          refine hK _ _ S5.out (fun _ => ?_)
          clear hK K ho5 hg5
          simp only [Act.put, List.setIfInBounds_toArray, List.set_cons_zero, List.set_cons_succ]
          refine wpAnyH_take (i := 8) (v := .agg #[.int .i64 f, .int .i64 t, .slice a5 m5 c5]) rfl (by kernel_rfl) (by kernel_rfl) (by kernel_rfl) (fun _ _ _ h => h) (Or.inl ⟨by kernel_rfl, fun W' hS => ?_⟩) S5.out ?_
          · go_simp
          simp only [Act.put, List.setIfInBounds_toArray, List.set_cons_zero, List.set_cons_succ, List.getElem_toArray, List.getElem_cons_succ, List.getElem_cons_zero]
          refine wpAnyH_ready (rs := [10]) (by kernel_rfl) (by simp) (AllReadyH.cons rfl (fun K hK => ?_) AllReadyH.nil)
          replace hK := Lib.hid hK
          obtain ⟨z0, z1, z2⟩ := K6.out.fz (.head _)
          obtain ⟨t0, t1, t2⟩ := K6.out.at_ (.head _)
          go_simp
          have S6 := Lib.hid (bel_put (w := wd) (bel_put (w := wd) (bel_put (w := wd) (k := wd.heap.size + 1) (j := 0) (u := .int .i64 f) S5.out (by omega)) (k := wd.heap.size + 1) (j := 1) (u := .int .i64 t) (by omega)) (k := wd.heap.size + 1) (j := 2) (u := .slice a5 m5 c5) (by omega))
          refine hK.out _ _ S6.out (fun _ => ?_)
          clear hK K z0 z1 z2 t0 t1 t2
          simp only [List.setIfInBounds_toArray, List.set_cons_zero, List.set_cons_succ]
          refine wpAnyH_done (by kernel_rfl) ?_ _
          go_wp2_with fail
          go_meet
          case rel =>
            refine ⟨wd.heap.size + 1, a5, m5, c5, rfl, ?_, Q5.out⟩
            refine K6.out.set (by have := L2.out; omega) (fun p hp => by rcases List.mem_singleton.1 hp with rfl; have := LT.out; show lb ≠ _; omega) (fun p hp h0 => ?_) _ _ _
            rcases List.mem_cons.1 hp with rfl | hp
            · exact O5.out
            · rcases List.mem_singleton.1 hp with rfl
              intro p n c e
              have := ls_lt (LD.out.is_ (.head _)) h0 p n c e
              omega
      · replace hK := Lib.hid hK
        go_simp
        refine hK.out _ _ SB.out (fun _ => ?_)
        clear hK K
        simp only [List.setIfInBounds_toArray, List.set_cons_zero, List.set_cons_succ]
        refine wpAnyH_ready (rs := [4]) (by kernel_rfl) (by simp) (AllReadyH.cons rfl (fun K hK => ?_) AllReadyH.nil)
        replace hK := Lib.hid hK
        go_simp
        refine hK.out _ _ SBA.out (fun _ => ?_)
        clear hK K
        simp only [List.setIfInBounds_toArray, List.set_cons_zero, List.set_cons_succ]
        refine wpAnyH_ready (rs := [7]) (by kernel_rfl) (by simp) (AllReadyH.cons rfl (fun K hK => ?_) AllReadyH.nil)
        refine step_append_run rfl (.tmp 43) (.tmp 45) 22 rfl (.slice (some ⟨wd.heap.size + 1, 0, none⟩) 0 0) (.slice fa fn fc) (by simp [Act.eval]) (by simp [Act.eval]) _ (app_own _ NBA.out ((LD.out.is_ (.head _)).keep SBA.out) (by simp) HNN.out) ?_
        rintro v5 w5 ⟨ho5, hg5⟩
        have S5 := Lib.hid (bel_own SBA.out NBA.out (Nat.le_succ _) hg5)
        have K5 := Lib.hid ((LD.out.keep S5.out).add (ho5.is HM5.out (fun _ _ => trivial)))
        have K6 := Lib.hid (K5.out.box ((hg5.block (wd.heap.size) (by simp <;> omega) (by simp [Value.ownBlock])).trans GBA.out))
        have O5 := Lib.hid (own_ne ho5 (K6.out.b _ (.head _)))
        obtain ⟨a5, m5, c5, rfl⟩ := own_slice ho5
        have Q5 := Lib.hid (own_nil ho5)
        refine hK _ _ S5.out (fun _ => ?_)
        clear hK K ho5 hg5
        simp only [Act.put, List.setIfInBounds_toArray, List.set_cons_zero, List.set_cons_succ]
        refine wpAnyH_take (i := 8) (v := .agg #[.int .i64 f, .int .i64 t, .slice a5 m5 c5]) rfl (by kernel_rfl) (by kernel_rfl) (by kernel_rfl) (fun _ _ _ h => h) (Or.inl ⟨by kernel_rfl, fun W' hS => ?_⟩) S5.out ?_
        · go_simp
        simp only [Act.put, List.setIfInBounds_toArray, List.set_cons_zero, List.set_cons_succ, List.getElem_toArray, List.getElem_cons_succ, List.getElem_cons_zero]
        refine wpAnyH_ready (rs := [10]) (by kernel_rfl) (by simp) (AllReadyH.cons rfl (fun K hK => ?_) AllReadyH.nil)
        replace hK := Lib.hid hK
        obtain ⟨z0, z1, z2⟩ := K6.out.fz (.head _)
        obtain ⟨t0, t1, t2⟩ := K6.out.at_ (.head _)
        go_simp
        have S6 := Lib.hid (bel_put (w := wd) (bel_put (w := wd) (bel_put (w := wd) (k := wd.heap.size) (j := 0) (u := .int .i64 f) S5.out (by omega)) (k := wd.heap.size) (j := 1) (u := .int .i64 t) (by omega)) (k := wd.heap.size) (j := 2) (u := .slice a5 m5 c5) (by omega))
        refine hK.out _ _ S6.out (fun _ => ?_)
        clear hK K z0 z1 z2 t0 t1 t2
        simp only [List.setIfInBounds_toArray, List.set_cons_zero, List.set_cons_succ]
        refine wpAnyH_done (by kernel_rfl) ?_ _
        go_wp2_with fail
        go_meet
        case rel =>
          refine ⟨wd.heap.size, a5, m5, c5, rfl, ?_, Q5.out⟩
          refine K6.out.set (by have := L2.out; omega) (fun p hp => by rcases List.mem_singleton.1 hp with rfl; have := LT.out; show lb ≠ _; omega) (fun p hp h0 => ?_) _ _ _
          rcases List.mem_cons.1 hp with rfl | hp
          · exact O5.out
          · rcases List.mem_singleton.1 hp with rfl
            intro p n c e
            have := ls_lt (LD.out.is_ (.head _)) h0 p n c e
            omega
    case rest =>
      obtain ⟨wb, a, n, c, rfl, hL, hq⟩ := hcut
      have LC := Lib.hid hL
      have QN := Lib.hid hq
      have HL2 := Lib.hid (show l.length ≤ 100000 by have := HL.out; omega)
      clear hL hq
      have SD := Lib.hid fun (W : World) (h : IsL LS W (.slice fa fn fc) l) => send17_any f t most (.slice fa fn fc) s l W h HNil.out HL2.out
      have TK := Lib.hid fun (W : World) (h : IsL LS W (.slice fa fn fc) l) => take17_any f t k (.slice fa fn fc) l W h HNil.out HL2.out
      have TW := Lib.hid fun (W : World) (h : IsL LS W (.slice fa fn fc) l) => twice17_any f t k most (.slice fa fn fc) l W h HNil.out HL2.out
      have RSD := Lib.hid fun (W : World) (h : IsL LS W (.slice a n c) l) => rsend17_any f t most (.slice a n c) s l W h QN.out HL2.out
      have RTK := Lib.hid fun (W : World) (h : IsL LS W (.slice a n c) l) => rtake17_any f t k (.slice a n c) l W h QN.out HL2.out
      have RTW := Lib.hid fun (W : World) (h : IsL LS W (.slice a n c) l) => rtwice17_any f t k most (.slice a n c) l W h QN.out HL2.out
      have SM := Lib.hid fun (W : World) (v v' : Value) (x : List ByteArray) (h : IsL LS W v x) (h' : IsL LS W v' x) => rsame17_any f t f t v v' x x true W h h' ⟨fun _ => ⟨rfl, rfl, rfl⟩, fun _ => rfl⟩
      generalize sendB l most = pB at *
      generalize twiceB l k most = uB at *
      generalize hasB l k = wB at *
      generalize takeS l k = tS at *
      generalize sendL l s most = sL at *
      generalize takeL l k = tL at *
      generalize twiceL l k most = uL at *
      obtain ⟨x0, x1, x2⟩ := LC.out.at_ (b := lb) (.tail _ (.head _))
      go_wp2_with fail
      refine (SD.out _ (LC.out.is_ (.tail _ (.head _)))).mono ?_
      rintro e w1' ⟨a1, n1, c1, rfl, hi, hn, hr, b1⟩
      have L1 := Lib.hid (((LC.out.keep b1).add hi).new #[.int .i64 f, .int .i64 t, .slice a1 n1 c1])
      clear hi hn hr b1 x0 x1 x2
      obtain ⟨x0, x1, x2⟩ := L1.out.at_ (b := wb) (.tail _ (.head _))
      go_wp2_with fail
      refine (RSD.out _ (L1.out.is_ (.tail _ (.head _)))).mono ?_
      rintro e w2' ⟨a2, n2, c2, rfl, hi, hn, hr, b2⟩
      have L2 := Lib.hid (((L1.out.keep b2).add hi).new #[.int .i64 f, .int .i64 t, .slice a2 n2 c2])
      clear hi hn hr b2 x0 x1 x2
      obtain ⟨x0, x1, x2⟩ := L2.out.at_ (b := lb) (.tail _ (.tail _ (.tail _ (.head _))))
      go_wp2_with fail
      refine (TK.out _ (L2.out.is_ (.tail _ (.tail _ (.tail _ (.head _)))))).mono ?_
      rintro e w3' ⟨a3, n3, c3, rfl, hi, hn, hr, b3⟩
      have L3 := Lib.hid (((L2.out.keep b3).add hi).new #[.int .i64 f, .int .i64 t, .slice a3 n3 c3])
      clear hi hn hr b3 x0 x1 x2
      obtain ⟨x0, x1, x2⟩ := L3.out.at_ (b := wb) (.tail _ (.tail _ (.tail _ (.head _))))
      go_wp2_with fail
      refine (RTK.out _ (L3.out.is_ (.tail _ (.tail _ (.tail _ (.head _)))))).mono ?_
      rintro e w4' ⟨a4, n4, c4, rfl, hi, hn, hr, b4⟩
      have L4 := Lib.hid (((L3.out.keep b4).add hi).new #[.int .i64 f, .int .i64 t, .slice a4 n4 c4])
      clear hi hn hr b4 x0 x1 x2
      obtain ⟨x0, x1, x2⟩ := L4.out.at_ (b := lb) (.tail _ (.tail _ (.tail _ (.tail _ (.tail _ (.head _))))))
      go_wp2_with fail
      refine (TW.out _ (L4.out.is_ (.tail _ (.tail _ (.tail _ (.tail _ (.tail _ (.head _)))))))).mono ?_
      rintro e w5' ⟨a5, n5, c5, rfl, hi, hn, hr, b5⟩
      have L5 := Lib.hid (((L4.out.keep b5).add hi).new #[.int .i64 f, .int .i64 t, .slice a5 n5 c5])
      clear hi hn hr b5 x0 x1 x2
      obtain ⟨x0, x1, x2⟩ := L5.out.at_ (b := wb) (.tail _ (.tail _ (.tail _ (.tail _ (.tail _ (.head _))))))
      go_wp2_with fail
      refine (RTW.out _ (L5.out.is_ (.tail _ (.tail _ (.tail _ (.tail _ (.tail _ (.head _)))))))).mono ?_
      rintro e w6' ⟨a6, n6, c6, rfl, hi, hn, hr, b6⟩
      have L6 := Lib.hid (((L5.out.keep b6).add hi).new #[.int .i64 f, .int .i64 t, .slice a6 n6 c6])
      clear hi hn hr b6 x0 x1 x2
      go_wp2_with fail
      refine (AW.out _).mono ?_
      rintro e w7 ⟨rfl, b7⟩
      have L7 := Lib.hid (L6.out.keep b7)
      clear b7
      obtain ⟨x0, x1, x2⟩ := L7.out.at_ (b := w1'.heap.size) (.tail _ (.tail _ (.tail _ (.tail _ (.tail _ (.head _))))))
      obtain ⟨y0, y1, y2⟩ := L7.out.at_ (b := w2'.heap.size) (.tail _ (.tail _ (.tail _ (.tail _ (.head _)))))
      go_wp2_with fail
      refine (SM.out _ _ _ _ (L7.out.is_ (.tail _ (.tail _ (.tail _ (.tail _ (.tail _ (.head _))))))) (L7.out.is_ (.tail _ (.tail _ (.tail _ (.tail _ (.head _))))))).mono ?_
      rintro e w8 ⟨rfl, b8⟩
      have L8 := Lib.hid (L7.out.keep b8)
      clear b8 x0 x1 x2 y0 y1 y2
      obtain ⟨x0, x1, x2⟩ := L8.out.at_ (b := w3'.heap.size) (.tail _ (.tail _ (.tail _ (.head _))))
      obtain ⟨y0, y1, y2⟩ := L8.out.at_ (b := w4'.heap.size) (.tail _ (.tail _ (.head _)))
      go_wp2_with fail
      refine (SM.out _ _ _ _ (L8.out.is_ (.tail _ (.tail _ (.tail _ (.head _))))) (L8.out.is_ (.tail _ (.tail _ (.head _))))).mono ?_
      rintro e w9 ⟨rfl, b9⟩
      have L9 := Lib.hid (L8.out.keep b9)
      clear b9 x0 x1 x2 y0 y1 y2
      obtain ⟨x0, x1, x2⟩ := L9.out.at_ (b := w5'.heap.size) (.tail _ (.head _))
      obtain ⟨y0, y1, y2⟩ := L9.out.at_ (b := w6'.heap.size) (.head _)
      go_wp2_with fail
      refine (SM.out _ _ _ _ (L9.out.is_ (.tail _ (.head _))) (L9.out.is_ (.head _))).mono ?_
      rintro e w10 ⟨rfl, b10⟩
      have L10 := Lib.hid (L9.out.keep b10)
      clear b10 x0 x1 x2 y0 y1 y2
      obtain ⟨x0, x1, x2⟩ := L10.out.at_ (b := lb) (.tail _ (.tail _ (.tail _ (.tail _ (.tail _ (.tail _ (.tail _ (.head _))))))))
      obtain ⟨y0, y1, y2⟩ := L10.out.at_ (b := wb) (.tail _ (.tail _ (.tail _ (.tail _ (.tail _ (.tail _ (.head _)))))))
      go_wp2_with fail
      refine (SM.out _ _ _ _ (L10.out.is_ (.tail _ (.tail _ (.tail _ (.tail _ (.tail _ (.tail _ (.tail _ (.head _))))))))) (L10.out.is_ (.tail _ (.tail _ (.tail _ (.tail _ (.tail _ (.tail _ (.head _))))))))).mono ?_
      rintro e w11 ⟨rfl, b11⟩
      have L11 := Lib.hid (L10.out.keep b11)
      clear b11 x0 x1 x2 y0 y1 y2
      go_wp2_with fail
      go_ret
      exact ⟨by first | rfl | simp, BX.out.trans (L11.out.w.mono BX.out.size)⟩

end Go.Proofs.Ytfocdjpopjllpaa.Lk
