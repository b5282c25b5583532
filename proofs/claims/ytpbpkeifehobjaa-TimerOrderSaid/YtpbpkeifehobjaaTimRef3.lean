/-
  What the document's Arm of layer 18 answers.
-/
import Derived.Test.YtpbpkeifehobjaaTimRef
import Derived.Test.YtpbpkeifehobjaaTill
import Derived.Deep.CutBlock
namespace Go.Proofs.Ytpbpkeifehobjaa.Tm
open Go.RowKit Go.Proofs.Ytpbpkeifehobjaa.Tp Go.Proofs.Ytpbpkeifehobjaa.Aps

set_option maxRecDepth 100000 in
set_option maxHeartbeats 3200000 in
theorem rarm18_any (now i after : Int) (v : Value) (l : List Al) (w : World) (hv : IsL TL w v l) (hl : l.length ≤ 100000) (hn0 : 0 ≤ now) (hn1 : now ≤ 1000000) (ha : after ≤ 1099511627776) :
    Calls Try.prog 8 #[.agg #[.int .i64 now, v], .int .i64 i, .int .i64 after] w (WOut w v now (arm now l i after)) := by
  have mixed : Try.prog.follows Departure.mixedOrders = true := by kernel_rfl
  obtain ⟨fa, fn, fc, rfl⟩ := isl_slice hv
  have BX := two_new w now (.slice fa fn fc)
  obtain ⟨w2, hw2⟩ : ∃ w2, ((w.alloc (.cells #[.int .i64 now, .slice fa fn fc] 26)).alloc (.cells #[.int .i64 0, .slice none 0 0] 26)) = w2 := ⟨_, rfl⟩
  have hz2 : w2.heap.size = w.heap.size + 2 := by rw [← hw2]; simp
  rw [hw2] at BX
  have CA := Lib.hid (rcancel18_own now i _ l w2 (hv.keep BX.w) hl)
  obtain ⟨L, hL⟩ : ∃ L, cancel l i = L := ⟨_, rfl⟩
  have hLl : L.length ≤ 100000 := by rw [← hL]; exact Nat.le_trans (cancel_len l i) hl
  rw [hL] at CA
  obtain ⟨t, ht⟩ : ∃ t, now + max after 1 = t := ⟨_, rfl⟩
  have hR : arm now l i after = ins ⟨i, t⟩ L := by unfold arm armA; rw [hL, ht]
  rw [hR]
  have FN := Lib.hid fun (W : World) (v' : Value) (h : OwnL TL W (w.heap.size + 2) v' (ins ⟨i, t⟩ L)) (hb : Below w.heap.size w W) => wout_own (v0 := .slice fa fn fc) (now := now) h (by rw [ins_len]; omega) hb (by omega)
  generalize hP : WOut w (.slice fa fn fc) now (ins ⟨i, t⟩ L) = P at *
  clear hP
  replace hw2 := Lib.hid hw2
  replace BX := Lib.hid BX
  have HZ := Lib.hid hz2
  clear hz2 hv hL hR hl
  go_enter Try.func8, Try.ntmps8
  obtain ⟨x0, x1⟩ := BX.out.at2 (b := w.heap.size) (.tail _ (.head _))
  go_wp2_with (rw [hw2.out])
  refine CA.out.mono ?_
  rintro e w3 ⟨v2, rfl, ho, b⟩
  obtain ⟨va, vn, vc, rfl⟩ := own_slice ho
  have HVA := Lib.hid (own_head ho)
  have BK := BX.out.keep b
  obtain ⟨f0, f1⟩ := BK.fz2 (b := w.heap.size) (.tail _ (.head _))
  obtain ⟨y0, y1⟩ := BK.at2 (b := w.heap.size) (.tail _ (.head _))
  have BS := (BK.swap.set (Nat.le_refl _) (fun p hp => by rcases List.mem_singleton.1 hp with rfl; exact Nat.succ_ne_self _) 0 (.int .i64 now)).set (Nat.le_refl _) (fun p hp => by rcases List.mem_singleton.1 hp with rfl; exact Nat.succ_ne_self _) 1 (.slice va vn vc)
  have HO := Lib.hid (own_put (u := .slice va vn vc) (j := 1) (k := w.heap.size) (own_put (u := .int .i64 now) (j := 0) (k := w.heap.size) ho (by rw [HZ.out]; omega)) (by rw [HZ.out]; omega))
  have HI := Lib.hid (HO.out.is (by unfold maxLen; omega) (fun _ _ => trivial))
  have BS4 := Lib.hid (show Bs w [(w.heap.size, #[.int .i64 now, .slice va vn vc], 26), (w.heap.size + 1, #[.int .i64 0, .slice none 0 0], 26)] _ from BS)
  clear ho b BK BS CA hw2 x0 x1
  have htm : 0 ≤ t ∧ t ≤ 2000000000000 := by rw [← ht]; omega
  go_upto_block 0 with fail
  rw [show (now + if after < 1 then 1 else after) = t by rw [← ht]; split <;> omega]
  generalize (if after < 1 then (1 : Int) else after) = mx
  all_goals
    have B5 := BS4.out.new #[.int .i64 i, .int .i64 t] 44
    have I5 := HI.out.keep ((Below.refl _ _).alloc (Nat.le_refl _) (.cells #[.int .i64 i, .int .i64 t] 44))
    have hs4 : ((w3.setCell ⟨w.heap.size, 0, none⟩ (.int .i64 now)).setCell ⟨w.heap.size, 1, none⟩ (.slice va vn vc)).heap.size = w3.heap.size := by simp
    generalize ((w3.setCell _ _).setCell _ _) = w4 at B5 I5 HO HI BS4 hs4 ⊢
    obtain ⟨A, hA⟩ : ∃ A, w3.heap.size = A := ⟨_, rfl⟩
    rw [hs4] at B5
    have hA2 : (w4.alloc (.cells #[.int .i64 i, .int .i64 t] 44)).heap.size = A + 1 := by simp [hs4, hA]
    rw [hA] at B5 ⊢
    generalize w4.alloc _ = w5 at B5 I5 hA2 ⊢
    have HA2 := Lib.hid hA2
    have HBA := Lib.hid (show w.heap.size + 1 < A by rw [← hA, ← hs4]; exact BS4.out.lt (.tail _ (.head _)))
    replace B5 := Lib.hid B5
    replace I5 := Lib.hid I5
    clear hA hA2 hs4 HO HI BS4 y0 y1 f0 f1
    obtain ⟨x0, x1⟩ := B5.out.at2 (b := w.heap.size) (.tail _ (.head _))
    obtain ⟨a0, a1⟩ := B5.out.at2 (b := A) (.head _)
    obtain rfl : vn = L.length := I5.out.len.1
    go_cut [8] (fun k' W => ∃ k n : Nat, k ≤ L.length ∧ k' = .int .i64 k ∧ W = w5.drewN n ∧ ins ⟨i, t⟩ L = L.take k ++ [⟨i, t⟩] ++ L.drop k)
    case first =>
      go_wp2_with fail
      go_loopw [8] (fun k' W => ∃ k n : Nat, k ≤ L.length ∧ k' = .int .i64 k ∧ W = w5.drewN n ∧ ∀ j, j < k → Lt (L.getD j azero) ⟨i, t⟩) (fun i _ => L.length - (intOf i).toNat)
      case atStart => exact ⟨0, 0, Nat.zero_le _, rfl, rfl, fun j hj => absurd hj (Nat.not_lt_zero j)⟩
      case round =>
        obtain ⟨k, n, hk, rfl, rfl, hall⟩ := hrel
        have HALL := Lib.hid hall
        clear hall
        by_cases hlt : k < L.length
        · obtain ⟨g, off, rfl, c0, c1⟩ := tl_at I5.out hlt
          have HNX := Lib.hid (show Lt (L.getD k azero) ⟨i, t⟩ → ∀ j, j < k + 1 → Lt (L.getD j azero) ⟨i, t⟩ from fun h j hj => by rcases Nat.lt_succ_iff_lt_or_eq.1 hj with h' | h'; exact HALL.out j h'; subst h'; exact h)
          have HIN := Lib.hid fun (h : ¬ Lt (L.getD k azero) ⟨i, t⟩) => ins_at (l := L) (k := k) hk HALL.out (fun _ => h)
          generalize L.getD k azero = q at c0 c1 HNX HIN
          obtain ⟨qi, qt⟩ := q
          dsimp only at c0 c1 HNX HIN
          by_cases h1 : qt < t
          · have HN2 := Lib.hid (HNX.out (.inl h1))
            go_wp2_with fail
            go_quiet (fail)
            go_wp2_with fail
            go_roundw
            case rel => exact ⟨k + 1, _, by omega, by go_num, rfl, HN2.out⟩
            case measure => simp [intOf]; omega
          · by_cases h2 : qt = t
            · subst h2
              by_cases h3 : qi < i
              · have HN2 := Lib.hid (HNX.out (.inr ⟨rfl, h3⟩))
                go_wp2_with fail
                go_quiet (fail)
                go_wp2_with fail
                go_roundw
                case rel => exact ⟨k + 1, _, by omega, by go_num, rfl, HN2.out⟩
                case measure => simp [intOf]; omega
              · have hnl : ¬ Lt (⟨qi, qt⟩ : Al) ⟨i, qt⟩ := by unfold Lt; simp only; omega
                have HI0 := Lib.hid (HIN.out hnl)
                go_wp2_with fail
                go_quiet (fail)
                go_wp2_with fail
                go_meet
                case rel => exact ⟨k, _, hk, rfl, World.drewN_drewN _ _ _, HI0.out⟩
            · have hnl : ¬ Lt (⟨qi, qt⟩ : Al) ⟨i, t⟩ := by unfold Lt; simp only; omega
              have HI0 := Lib.hid (HIN.out hnl)
              go_wp2_with fail
              go_quiet (fail)
              go_wp2_with fail
              go_meet
              case rel => exact ⟨k, _, hk, rfl, World.drewN_drewN _ _ _, HI0.out⟩
        · obtain rfl : k = L.length := by omega
          have HI0 := Lib.hid (ins_at (l := L) (k := L.length) (Nat.le_refl _) HALL.out (fun h => absurd h (Nat.lt_irrefl _)))
          go_wp2_with fail
          go_quiet (fail)
          go_wp2_with fail
          go_meet
          case rel => exact ⟨L.length, _, Nat.le_refl _, rfl, World.drewN_drewN _ _ _, HI0.out⟩
    case rest =>
      obtain ⟨k, n, hk, rfl, rfl, hins⟩ := hcut
      have KD := bel_drewN (w := w5) n
      have BC := Lib.hid (B5.out.keep KD)
      have IC := Lib.hid (I5.out.keep KD)
      have HINS := Lib.hid hins
      clear KD x0 x1 a0 a1 hins B5 I5 HA2
      generalize w5.drewN n = wc at BC IC ⊢
      have FNL := Lib.hid (show (L.take k ++ [⟨i, t⟩] ++ L.drop k : List Al).length ≤ 1000000 by simp; omega)
      have HN1 := Lib.hid (show ([] : List Al).length + (L.take k).length ≤ 1000000 by simp; omega)
      have HN2 := Lib.hid (show ([] ++ L.take k : List Al).length + [(⟨i, t⟩ : Al)].length ≤ 1000000 by simp; omega)
      have HN3 := Lib.hid (show ([] ++ L.take k ++ [⟨i, t⟩] : List Al).length + (L.drop k).length ≤ 1000000 by simp; omega)
      go_wp2_with fail
      rcases HVA.out with ⟨rfl, h0, rfl⟩ | ⟨g, rfl⟩
      · obtain rfl : L = [] := List.length_eq_zero_iff.1 h0
        obtain rfl : k = 0 := by simpa using hk
        have BC := Lib.hid (BC.out.keep (Below.refl _ _).drew)
        have IC := Lib.hid (IC.out.keep (Below.refl _ _).drew)
        have h0 : (fun W : World => Below wc.drew.heap.size wc.drew W) wc.drew := Below.refl _ _
        refine region_till (by kernel_rfl) (fun W : World => Below wc.drew.heap.size wc.drew W) 15 16 rfl #[false, false, false, false, false, false, false, false, false, false, false, false, false, false, false, false] rfl ?_
        generalize wc.drew = wd at BC IC h0 ⊢
        obtain ⟨a0, a1⟩ := BC.out.at2 (b := A) (.head _)
        obtain ⟨x0, x1⟩ := BC.out.at2 (b := w.heap.size) (.tail _ (.head _))
        have LA := Lib.hid (BC.out.lt (b := A) (.head _))
        have LB := Lib.hid (BC.out.lt (b := w.heap.size) (.tail _ (.head _)))
        have LC := Lib.hid (BC.out.lt (b := w.heap.size + 1) (.tail _ (.tail _ (.head _))))
        refine Till.take (i := 1) (v := .pointer (some ⟨w.heap.size, 1, none⟩)) rfl (by kernel_rfl) (by kernel_rfl) (by kernel_rfl) (by kernel_rfl) (fun _ _ _ h => h) (Or.inl ⟨by kernel_rfl, fun W' hS => ?_⟩) h0 ?_
        · go_simp
        simp only [Act.put, List.setIfInBounds_toArray, List.set_cons_zero, List.set_cons_succ, List.getElem_toArray, List.getElem_cons_succ, List.getElem_cons_zero]
        refine Till.take (i := 2) (v := .slice none 0 0) rfl (by kernel_rfl) (by kernel_rfl) (by kernel_rfl) (by kernel_rfl) (fun _ _ _ h => h) (Or.inl ⟨by kernel_rfl, fun W' hS => ?_⟩) h0 ?_
        · have c := (hS.cell (p := ⟨w.heap.size, 1, none⟩) LB.out).trans x1; go_simp
        simp only [Act.put, List.setIfInBounds_toArray, List.set_cons_zero, List.set_cons_succ, List.getElem_toArray, List.getElem_cons_succ, List.getElem_cons_zero]
        refine Till.take (i := 3) (v := .int .i64 0) rfl (by kernel_rfl) (by kernel_rfl) (by kernel_rfl) (by kernel_rfl) (fun _ _ _ h => h) (Or.inl ⟨by kernel_rfl, fun W' hS => ?_⟩) h0 ?_
        · go_simp
        simp only [Act.put, List.setIfInBounds_toArray, List.set_cons_zero, List.set_cons_succ, List.getElem_toArray, List.getElem_cons_succ, List.getElem_cons_zero]
        refine Till.take (i := 4) (v := .slice none 0 0) rfl (by kernel_rfl) (by kernel_rfl) (by kernel_rfl) (by kernel_rfl) (fun _ _ _ h => h) (Or.inl ⟨by kernel_rfl, fun W' hS => ?_⟩) h0 ?_
        · go_simp
        simp only [Act.put, List.setIfInBounds_toArray, List.set_cons_zero, List.set_cons_succ, List.getElem_toArray, List.getElem_cons_succ, List.getElem_cons_zero]
        refine Till.take (i := 6) (v := .agg #[.int .i64 i, .int .i64 t]) rfl (by kernel_rfl) (by kernel_rfl) (by kernel_rfl) (by kernel_rfl) (fun _ _ _ h => h) (Or.inl ⟨by kernel_rfl, fun W' hS => ?_⟩) h0 ?_
        · have c0 := (hS.cell (p := ⟨A, 0, none⟩) LA.out).trans a0; have c1 := (hS.cell (p := ⟨A, 1, none⟩) LA.out).trans a1; go_simp
        simp only [Act.put, List.setIfInBounds_toArray, List.set_cons_zero, List.set_cons_succ, List.getElem_toArray, List.getElem_cons_succ, List.getElem_cons_zero]
        refine Till.take (i := 9) (v := .pointer (some ⟨w.heap.size, 1, none⟩)) rfl (by kernel_rfl) (by kernel_rfl) (by kernel_rfl) (by kernel_rfl) (fun _ _ _ h => h) (Or.inl ⟨by kernel_rfl, fun W' hS => ?_⟩) h0 ?_
        · go_simp
        simp only [Act.put, List.setIfInBounds_toArray, List.set_cons_zero, List.set_cons_succ, List.getElem_toArray, List.getElem_cons_succ, List.getElem_cons_zero]
        refine Till.take (i := 10) (v := .slice none 0 0) rfl (by kernel_rfl) (by kernel_rfl) (by kernel_rfl) (by kernel_rfl) (fun _ _ _ h => h) (Or.inl ⟨by kernel_rfl, fun W' hS => ?_⟩) h0 ?_
        · have c := (hS.cell (p := ⟨w.heap.size, 1, none⟩) LB.out).trans x1; go_simp
        simp only [Act.put, List.setIfInBounds_toArray, List.set_cons_zero, List.set_cons_succ, List.getElem_toArray, List.getElem_cons_succ, List.getElem_cons_zero]
        refine Till.take (i := 11) (v := .int .i64 0) rfl (by kernel_rfl) (by kernel_rfl) (by kernel_rfl) (by kernel_rfl) (fun _ _ _ h => h) (Or.inl ⟨by kernel_rfl, fun W' hS => ?_⟩) h0 ?_
        · go_simp
        simp only [Act.put, List.setIfInBounds_toArray, List.set_cons_zero, List.set_cons_succ, List.getElem_toArray, List.getElem_cons_succ, List.getElem_cons_zero]
        refine Till.take (i := 12) (v := .slice none 0 0) rfl (by kernel_rfl) (by kernel_rfl) (by kernel_rfl) (by kernel_rfl) (fun _ _ _ h => h) (Or.inl ⟨by kernel_rfl, fun W' hS => ?_⟩) h0 ?_
        · go_simp
        simp only [Act.put, List.setIfInBounds_toArray, List.set_cons_zero, List.set_cons_succ, List.getElem_toArray, List.getElem_cons_succ, List.getElem_cons_zero]
        clear a0 a1 x0 x1
        have NE := Lib.hid (own_zero TL wd)
        have SE := Lib.hid ((Below.refl wd.heap.size wd).alloc (Nat.le_refl _) (.cells #[] 44))
        have SO := Lib.hid ((Below.refl wd.heap.size wd).alloc (Nat.le_refl _) (.cells #[.int .i64 i, .int .i64 t] 44))
        have NEO := Lib.hid (NE.out.alloc (.cells #[.int .i64 i, .int .i64 t] 44))
        have SEO := Lib.hid (SE.out.alloc SE.out.size (.cells #[.int .i64 i, .int .i64 t] 44))
        have SOE := Lib.hid (SO.out.alloc SO.out.size (.cells #[] 44))
        have noe := own_zero TL (wd.alloc (.cells #[.int .i64 i, .int .i64 t] 44))
        rw [show (wd.alloc (.cells #[.int .i64 i, .int .i64 t] 44)).heap.size = wd.heap.size + 1 by simp] at noe
        have geo := heap_alloc_new (wd.alloc (.cells #[] 44)) (.cells #[.int .i64 i, .int .i64 t] 44)
        rw [show (wd.alloc (.cells #[] 44)).heap.size = wd.heap.size + 1 by simp] at geo
        have goe : ((wd.alloc (.cells #[.int .i64 i, .int .i64 t] 44)).alloc (.cells #[] 44)).heap[wd.heap.size]? = some (.cells #[.int .i64 i, .int .i64 t] 44 (0, 0)) := by rw [heap_alloc_old _ _ (by simp)]; exact heap_alloc_new wd _
        have NOE := Lib.hid noe
        have GEO := Lib.hid geo
        have GOE := Lib.hid goe
        clear noe geo goe
        refine Till.ready (rs := [0, 7]) (by kernel_rfl) (by simp) (TillAll.cons rfl (fun K hK => ?_) (TillAll.cons rfl (fun K hK => ?_) TillAll.nil))
        · replace hK := Lib.hid hK
          go_simp
          refine hK.out _ _ SE.out (fun _ => ?_)
          clear hK K
          simp only [List.setIfInBounds_toArray, List.set_cons_zero]
          refine Till.ready (rs := [5, 7]) (by kernel_rfl) (by simp) (TillAll.cons rfl (fun K hK => ?_) (TillAll.cons rfl (fun K hK => ?_) TillAll.nil))
          · refine step_append_run rfl (.tmp 58) (.tmp 62) 24 rfl (.slice (some ⟨wd.heap.size, 0, none⟩) 0 0) (.slice none 0 0) (by first | (simp [Act.eval]; done) | (simp [Act.eval, Act.put]; done)) (by first | (simp [Act.eval]; done) | (simp [Act.eval, Act.put]; done)) _ (app_own ap_tl _ NE.out (show IsL TL _ (.slice none 0 0) (List.take 0 []) from IsL.nil _ none 0) (by first | (simp; done) | (simp; omega) | exact SE.out.size) HN1.out) ?_
            rintro v1 w1 ⟨ho, hg⟩
            have S1 := Lib.hid (bel_own SE.out NE.out (Nat.le_refl _) hg)
            have O1 := Lib.hid (own_lo (B' := wd.heap.size) ho (Nat.le_refl _))
            refine hK _ _ S1.out (fun _ => ?_)
            clear hK K ho hg
            simp only [Act.put, List.setIfInBounds_toArray, List.set_cons_zero, List.set_cons_succ]
            refine Till.ready (rs := [7]) (by kernel_rfl) (by simp) (TillAll.cons rfl (fun K hK => ?_) TillAll.nil)
            replace hK := Lib.hid hK
            go_simp
            refine hK.out _ _ (S1.out.alloc S1.out.size _) (fun _ => ?_)
            clear hK K
            simp only [List.setIfInBounds_toArray, List.set_cons_zero, List.set_cons_succ]
            have OA := Lib.hid (O1.out.alloc (.cells #[.int .i64 i, .int .i64 t] 44))
            have UA := Lib.hid (isl_one (Y := TL) (W := w1) (x := ⟨i, t⟩) (cs := #[.int .i64 i, .int .i64 t]) rfl trivial)
            have SA := Lib.hid (S1.out.alloc S1.out.size (.cells #[.int .i64 i, .int .i64 t] 44))
            refine Till.ready (rs := [8]) (by kernel_rfl) (by simp) (TillAll.cons rfl (fun K hK => ?_) TillAll.nil)
            refine step_append_run rfl (.tmp 63) (.tmp 65) 24 rfl (v1) (.slice (some ⟨w1.heap.size, 0, none⟩) 1 1) (by first | (simp [Act.eval]; done) | (simp [Act.eval, Act.put]; done)) (by first | (simp [Act.eval]; done) | (simp [Act.eval, Act.put]; done)) _ (app_own ap_tl _ OA.out UA.out (by first | (simp; done) | (simp; omega) | exact SA.out.size) HN2.out) ?_
            rintro v2 w2 ⟨ho, hg⟩
            have S2 := Lib.hid (bel_own SA.out OA.out (Nat.le_refl _) hg)
            have O2 := Lib.hid (own_lo (B' := wd.heap.size) ho (Nat.le_refl _))
            refine hK _ _ S2.out (fun _ => ?_)
            clear hK K ho hg
            simp only [Act.put, List.setIfInBounds_toArray, List.set_cons_zero, List.set_cons_succ]
            refine Till.ready (rs := [13]) (by kernel_rfl) (by simp) (TillAll.cons rfl (fun K hK => ?_) TillAll.nil)
            refine step_append_run rfl (.tmp 66) (.tmp 70) 24 rfl (v2) (.slice none 0 0) (by first | (simp [Act.eval]; done) | (simp [Act.eval, Act.put]; done)) (by first | (simp [Act.eval]; done) | (simp [Act.eval, Act.put]; done)) _ (app_own ap_tl _ O2.out (show IsL TL _ (.slice none 0 0) (List.drop 0 []) from IsL.nil _ none 0) (by first | (simp; done) | (simp; omega) | exact S2.out.size) HN3.out) ?_
            rintro v3 w3 ⟨ho, hg⟩
            have S3 := Lib.hid (bel_own S2.out O2.out (Nat.le_refl _) hg)
            have O3 := Lib.hid (own_lo (B' := wd.heap.size) ho (Nat.le_refl _))
            obtain ⟨a9, m9, c9, rfl⟩ := own_slice ho
            refine hK _ _ S3.out (fun _ => ?_)
            clear hK K ho hg
            simp only [Act.put, List.setIfInBounds_toArray, List.set_cons_zero, List.set_cons_succ]
            refine Till.take (i := 14) (v := .pointer (some ⟨w.heap.size, 1, none⟩)) rfl (by kernel_rfl) (by kernel_rfl) (by kernel_rfl) (by kernel_rfl) (fun _ _ _ h => h) (Or.inl ⟨by kernel_rfl, fun W' hS => ?_⟩) S3.out ?_
            · go_simp
            simp only [Act.put, List.setIfInBounds_toArray, List.set_cons_zero, List.set_cons_succ, List.getElem_toArray, List.getElem_cons_succ, List.getElem_cons_zero]
            refine Till.ready (rs := [15]) (by kernel_rfl) (by simp) (TillAll.last rfl (fun K hK => ?_))
            replace hK := Lib.hid hK
            have B9 := Lib.hid (BC.out.keep S3.out)
            obtain ⟨x0, x1⟩ := B9.out.at2 (b := w.heap.size) (.tail _ (.head _))
            obtain ⟨z0, z1⟩ := B9.out.fz2 (b := w.heap.size) (.tail _ (.head _))
            obtain ⟨y0, y1⟩ := B9.out.at2 (b := w.heap.size + 1) (.tail _ (.tail _ (.head _)))
            obtain ⟨u0, u1⟩ := B9.out.fz2 (b := w.heap.size + 1) (.tail _ (.tail _ (.head _)))
            go_simp
            refine hK.out _ _ ?_
            clear hK K
            simp only [List.setIfInBounds_toArray, List.set_cons_zero, List.set_cons_succ]
            refine Till.done (by kernel_rfl) ?_ _
            go_wp2_with fail
            refine bodyPost_ret (v := .agg #[.int .i64 now, .slice a9 m9 c9]) (by simp [results, Try.results8, go_sem, y0, y1]) rfl ?_
            refine FN.out _ _ (by rw [HINS.out]; exact own_put (own_put (own_put (own_lo (B' := w.heap.size + 2) O3.out (by have := LC.out; omega)) (by omega)) (by omega)) (by omega)) (bel_put (bel_put (bel_put B9.out.w (by omega)) (by omega)) (by omega))
          · replace hK := Lib.hid hK
            go_simp
            refine hK.out _ _ SEO.out (fun _ => ?_)
            clear hK K
            simp only [List.setIfInBounds_toArray, List.set_cons_zero, List.set_cons_succ]
            refine Till.ready (rs := [5]) (by kernel_rfl) (by simp) (TillAll.cons rfl (fun K hK => ?_) TillAll.nil)
            refine step_append_run rfl (.tmp 58) (.tmp 62) 24 rfl (.slice (some ⟨wd.heap.size, 0, none⟩) 0 0) (.slice none 0 0) (by first | (simp [Act.eval]; done) | (simp [Act.eval, Act.put]; done)) (by first | (simp [Act.eval]; done) | (simp [Act.eval, Act.put]; done)) _ (app_own ap_tl _ NEO.out (show IsL TL _ (.slice none 0 0) (List.take 0 []) from IsL.nil _ none 0) (by first | (simp; done) | (simp; omega) | exact SEO.out.size) HN1.out) ?_
            rintro v1 w1 ⟨ho, hg⟩
            have S1 := Lib.hid (bel_own SEO.out NEO.out (Nat.le_refl _) hg)
            have O1 := Lib.hid (own_lo (B' := wd.heap.size) ho (Nat.le_refl _))
            have U1 := Lib.hid (isl_heap (Y := TL) (x := ⟨i, t⟩) ((hg.block (wd.heap.size + 1) (by simp) (by simp [Value.ownBlock])).trans GEO.out) rfl trivial)
            refine hK _ _ S1.out (fun _ => ?_)
            clear hK K ho hg
            simp only [Act.put, List.setIfInBounds_toArray, List.set_cons_zero, List.set_cons_succ]
            refine Till.ready (rs := [8]) (by kernel_rfl) (by simp) (TillAll.cons rfl (fun K hK => ?_) TillAll.nil)
            refine step_append_run rfl (.tmp 63) (.tmp 65) 24 rfl (v1) (.slice (some ⟨wd.heap.size + 1, 0, none⟩) 1 1) (by first | (simp [Act.eval]; done) | (simp [Act.eval, Act.put]; done)) (by first | (simp [Act.eval]; done) | (simp [Act.eval, Act.put]; done)) _ (app_own ap_tl _ O1.out U1.out (by first | (simp; done) | (simp; omega) | exact S1.out.size) HN2.out) ?_
            rintro v2 w2 ⟨ho, hg⟩
            have S2 := Lib.hid (bel_own S1.out O1.out (Nat.le_refl _) hg)
            have O2 := Lib.hid (own_lo (B' := wd.heap.size) ho (Nat.le_refl _))
            refine hK _ _ S2.out (fun _ => ?_)
            clear hK K ho hg
            simp only [Act.put, List.setIfInBounds_toArray, List.set_cons_zero, List.set_cons_succ]
            refine Till.ready (rs := [13]) (by kernel_rfl) (by simp) (TillAll.cons rfl (fun K hK => ?_) TillAll.nil)
            refine step_append_run rfl (.tmp 66) (.tmp 70) 24 rfl (v2) (.slice none 0 0) (by first | (simp [Act.eval]; done) | (simp [Act.eval, Act.put]; done)) (by first | (simp [Act.eval]; done) | (simp [Act.eval, Act.put]; done)) _ (app_own ap_tl _ O2.out (show IsL TL _ (.slice none 0 0) (List.drop 0 []) from IsL.nil _ none 0) (by first | (simp; done) | (simp; omega) | exact S2.out.size) HN3.out) ?_
            rintro v3 w3 ⟨ho, hg⟩
            have S3 := Lib.hid (bel_own S2.out O2.out (Nat.le_refl _) hg)
            have O3 := Lib.hid (own_lo (B' := wd.heap.size) ho (Nat.le_refl _))
            obtain ⟨a9, m9, c9, rfl⟩ := own_slice ho
            refine hK _ _ S3.out (fun _ => ?_)
            clear hK K ho hg
            simp only [Act.put, List.setIfInBounds_toArray, List.set_cons_zero, List.set_cons_succ]
            refine Till.take (i := 14) (v := .pointer (some ⟨w.heap.size, 1, none⟩)) rfl (by kernel_rfl) (by kernel_rfl) (by kernel_rfl) (by kernel_rfl) (fun _ _ _ h => h) (Or.inl ⟨by kernel_rfl, fun W' hS => ?_⟩) S3.out ?_
            · go_simp
            simp only [Act.put, List.setIfInBounds_toArray, List.set_cons_zero, List.set_cons_succ, List.getElem_toArray, List.getElem_cons_succ, List.getElem_cons_zero]
            refine Till.ready (rs := [15]) (by kernel_rfl) (by simp) (TillAll.last rfl (fun K hK => ?_))
            replace hK := Lib.hid hK
            have B9 := Lib.hid (BC.out.keep S3.out)
            obtain ⟨x0, x1⟩ := B9.out.at2 (b := w.heap.size) (.tail _ (.head _))
            obtain ⟨z0, z1⟩ := B9.out.fz2 (b := w.heap.size) (.tail _ (.head _))
            obtain ⟨y0, y1⟩ := B9.out.at2 (b := w.heap.size + 1) (.tail _ (.tail _ (.head _)))
            obtain ⟨u0, u1⟩ := B9.out.fz2 (b := w.heap.size + 1) (.tail _ (.tail _ (.head _)))
            go_simp
            refine hK.out _ _ ?_
            clear hK K
            simp only [List.setIfInBounds_toArray, List.set_cons_zero, List.set_cons_succ]
            refine Till.done (by kernel_rfl) ?_ _
            go_wp2_with fail
            refine bodyPost_ret (v := .agg #[.int .i64 now, .slice a9 m9 c9]) (by simp [results, Try.results8, go_sem, y0, y1]) rfl ?_
            refine FN.out _ _ (by rw [HINS.out]; exact own_put (own_put (own_put (own_lo (B' := w.heap.size + 2) O3.out (by have := LC.out; omega)) (by omega)) (by omega)) (by omega)) (bel_put (bel_put (bel_put B9.out.w (by omega)) (by omega)) (by omega))
        · replace hK := Lib.hid hK
          go_simp
          refine hK.out _ _ SO.out (fun _ => ?_)
          clear hK K
          simp only [List.setIfInBounds_toArray, List.set_cons_zero, List.set_cons_succ]
          refine Till.ready (rs := [0]) (by kernel_rfl) (by simp) (TillAll.cons rfl (fun K hK => ?_) TillAll.nil)
          replace hK := Lib.hid hK
          go_simp
          refine hK.out _ _ SOE.out (fun _ => ?_)
          clear hK K
          simp only [List.setIfInBounds_toArray, List.set_cons_zero]
          refine Till.ready (rs := [5]) (by kernel_rfl) (by simp) (TillAll.cons rfl (fun K hK => ?_) TillAll.nil)
          refine step_append_run rfl (.tmp 58) (.tmp 62) 24 rfl (.slice (some ⟨wd.heap.size + 1, 0, none⟩) 0 0) (.slice none 0 0) (by first | (simp [Act.eval]; done) | (simp [Act.eval, Act.put]; done)) (by first | (simp [Act.eval]; done) | (simp [Act.eval, Act.put]; done)) _ (app_own ap_tl _ NOE.out (show IsL TL _ (.slice none 0 0) (List.take 0 []) from IsL.nil _ none 0) (by first | (simp; done) | (simp; omega) | exact SOE.out.size) HN1.out) ?_
          rintro v1 w1 ⟨ho, hg⟩
          have S1 := Lib.hid (bel_own SOE.out NOE.out (Nat.le_succ _) hg)
          have O1 := Lib.hid (own_lo (B' := wd.heap.size) ho (Nat.le_succ _))
          have U1 := Lib.hid (isl_heap (Y := TL) (x := ⟨i, t⟩) ((hg.block wd.heap.size (by first | (simp; done) | (simp; omega)) (by simp [Value.ownBlock])).trans GOE.out) rfl trivial)
          refine hK _ _ S1.out (fun _ => ?_)
          clear hK K ho hg
          simp only [Act.put, List.setIfInBounds_toArray, List.set_cons_zero, List.set_cons_succ]
          refine Till.ready (rs := [8]) (by kernel_rfl) (by simp) (TillAll.cons rfl (fun K hK => ?_) TillAll.nil)
          refine step_append_run rfl (.tmp 63) (.tmp 65) 24 rfl (v1) (.slice (some ⟨wd.heap.size, 0, none⟩) 1 1) (by first | (simp [Act.eval]; done) | (simp [Act.eval, Act.put]; done)) (by first | (simp [Act.eval]; done) | (simp [Act.eval, Act.put]; done)) _ (app_own ap_tl _ O1.out U1.out (by first | (simp; done) | (simp; omega) | exact S1.out.size) HN2.out) ?_
          rintro v2 w2 ⟨ho, hg⟩
          have S2 := Lib.hid (bel_own S1.out O1.out (Nat.le_refl _) hg)
          have O2 := Lib.hid (own_lo (B' := wd.heap.size) ho (Nat.le_refl _))
          refine hK _ _ S2.out (fun _ => ?_)
          clear hK K ho hg
          simp only [Act.put, List.setIfInBounds_toArray, List.set_cons_zero, List.set_cons_succ]
          refine Till.ready (rs := [13]) (by kernel_rfl) (by simp) (TillAll.cons rfl (fun K hK => ?_) TillAll.nil)
          refine step_append_run rfl (.tmp 66) (.tmp 70) 24 rfl (v2) (.slice none 0 0) (by first | (simp [Act.eval]; done) | (simp [Act.eval, Act.put]; done)) (by first | (simp [Act.eval]; done) | (simp [Act.eval, Act.put]; done)) _ (app_own ap_tl _ O2.out (show IsL TL _ (.slice none 0 0) (List.drop 0 []) from IsL.nil _ none 0) (by first | (simp; done) | (simp; omega) | exact S2.out.size) HN3.out) ?_
          rintro v3 w3 ⟨ho, hg⟩
          have S3 := Lib.hid (bel_own S2.out O2.out (Nat.le_refl _) hg)
          have O3 := Lib.hid (own_lo (B' := wd.heap.size) ho (Nat.le_refl _))
          obtain ⟨a9, m9, c9, rfl⟩ := own_slice ho
          refine hK _ _ S3.out (fun _ => ?_)
          clear hK K ho hg
          simp only [Act.put, List.setIfInBounds_toArray, List.set_cons_zero, List.set_cons_succ]
          refine Till.take (i := 14) (v := .pointer (some ⟨w.heap.size, 1, none⟩)) rfl (by kernel_rfl) (by kernel_rfl) (by kernel_rfl) (by kernel_rfl) (fun _ _ _ h => h) (Or.inl ⟨by kernel_rfl, fun W' hS => ?_⟩) S3.out ?_
          · go_simp
          simp only [Act.put, List.setIfInBounds_toArray, List.set_cons_zero, List.set_cons_succ, List.getElem_toArray, List.getElem_cons_succ, List.getElem_cons_zero]
          refine Till.ready (rs := [15]) (by kernel_rfl) (by simp) (TillAll.last rfl (fun K hK => ?_))
          replace hK := Lib.hid hK
          have B9 := Lib.hid (BC.out.keep S3.out)
          obtain ⟨x0, x1⟩ := B9.out.at2 (b := w.heap.size) (.tail _ (.head _))
          obtain ⟨z0, z1⟩ := B9.out.fz2 (b := w.heap.size) (.tail _ (.head _))
          obtain ⟨y0, y1⟩ := B9.out.at2 (b := w.heap.size + 1) (.tail _ (.tail _ (.head _)))
          obtain ⟨u0, u1⟩ := B9.out.fz2 (b := w.heap.size + 1) (.tail _ (.tail _ (.head _)))
          go_simp
          refine hK.out _ _ ?_
          clear hK K
          simp only [List.setIfInBounds_toArray, List.set_cons_zero, List.set_cons_succ]
          refine Till.done (by kernel_rfl) ?_ _
          go_wp2_with fail
          refine bodyPost_ret (v := .agg #[.int .i64 now, .slice a9 m9 c9]) (by simp [results, Try.results8, go_sem, y0, y1]) rfl ?_
          refine FN.out _ _ (by rw [HINS.out]; exact own_put (own_put (own_put (own_lo (B' := w.heap.size + 2) O3.out (by have := LC.out; omega)) (by omega)) (by omega)) (by omega)) (bel_put (bel_put (bel_put B9.out.w (by omega)) (by omega)) (by omega))
      · have BC := Lib.hid (BC.out.keep (Below.refl _ _).drew)
        have IC := Lib.hid (IC.out.keep (Below.refl _ _).drew)
        have h0 : (fun W : World => Below wc.drew.heap.size wc.drew W) wc.drew := Below.refl _ _
        refine region_till (by kernel_rfl) (fun W : World => Below wc.drew.heap.size wc.drew W) 15 16 rfl #[false, false, false, false, false, false, false, false, false, false, false, false, false, false, false, false] rfl ?_
        generalize wc.drew = wd at BC IC h0 ⊢
        have hroom := IC.out.room
        have HV1 := Lib.hid fun (W : World) (h : Below wd.heap.size wd W) => (IC.out.keep h).take (k := k) hk
        obtain ⟨D, hD, hV2⟩ : ∃ D : Addr, (if vc = k then some (⟨g, 0, none⟩ : Addr) else some ⟨g, k * 2, none⟩) = some D ∧ ∀ (W : World), Below wd.heap.size wd W → IsL TL W (.slice (some D) (L.length - k) (vc - k)) (L.drop k) := by
          by_cases h : vc = k
          · exact ⟨_, by rw [if_pos h], fun W b => (IC.out.keep b).drop hk (vc - k) (by omega) (.inr (by omega))⟩
          · exact ⟨_, by rw [if_neg h], fun W b => (IC.out.keep b).drop (a := some ⟨g, k * 2, none⟩) hk (vc - k) (by omega) (.inl (by show _ = some (⟨g, 0 + k * 2, none⟩ : Addr); rw [Nat.zero_add]))⟩
        have HV2 := Lib.hid hV2
        have hk1 : k ≤ vc := by omega
        clear hV2
        obtain ⟨a0, a1⟩ := BC.out.at2 (b := A) (.head _)
        obtain ⟨x0, x1⟩ := BC.out.at2 (b := w.heap.size) (.tail _ (.head _))
        have LA := Lib.hid (BC.out.lt (b := A) (.head _))
        have LB := Lib.hid (BC.out.lt (b := w.heap.size) (.tail _ (.head _)))
        have LC := Lib.hid (BC.out.lt (b := w.heap.size + 1) (.tail _ (.tail _ (.head _))))
        refine Till.take (i := 1) (v := .pointer (some ⟨w.heap.size, 1, none⟩)) rfl (by kernel_rfl) (by kernel_rfl) (by kernel_rfl) (by kernel_rfl) (fun _ _ _ h => h) (Or.inl ⟨by kernel_rfl, fun W' hS => ?_⟩) h0 ?_
        · go_simp
        simp only [Act.put, List.setIfInBounds_toArray, List.set_cons_zero, List.set_cons_succ, List.getElem_toArray, List.getElem_cons_succ, List.getElem_cons_zero]
        refine Till.take (i := 2) (v := .slice (some ⟨g, 0, none⟩) L.length vc) rfl (by kernel_rfl) (by kernel_rfl) (by kernel_rfl) (by kernel_rfl) (fun _ _ _ h => h) (Or.inl ⟨by kernel_rfl, fun W' hS => ?_⟩) h0 ?_
        · have c := (hS.cell (p := ⟨w.heap.size, 1, none⟩) LB.out).trans x1; go_simp
        simp only [Act.put, List.setIfInBounds_toArray, List.set_cons_zero, List.set_cons_succ, List.getElem_toArray, List.getElem_cons_succ, List.getElem_cons_zero]
        refine Till.take (i := 3) (v := .int .i64 (k : Int)) rfl (by kernel_rfl) (by kernel_rfl) (by kernel_rfl) (by kernel_rfl) (fun _ _ _ h => h) (Or.inl ⟨by kernel_rfl, fun W' hS => ?_⟩) h0 ?_
        · go_simp
        simp only [Act.put, List.setIfInBounds_toArray, List.set_cons_zero, List.set_cons_succ, List.getElem_toArray, List.getElem_cons_succ, List.getElem_cons_zero]
        refine Till.take (i := 4) (v := .slice (some ⟨g, 0, none⟩) k vc) rfl (by kernel_rfl) (by kernel_rfl) (by kernel_rfl) (by kernel_rfl) (fun _ _ _ h => h) (Or.inl ⟨by kernel_rfl, fun W' hS => ?_⟩) h0 ?_
        · go_simp
        simp only [Act.put, List.setIfInBounds_toArray, List.set_cons_zero, List.set_cons_succ, List.getElem_toArray, List.getElem_cons_succ, List.getElem_cons_zero]
        refine Till.take (i := 6) (v := .agg #[.int .i64 i, .int .i64 t]) rfl (by kernel_rfl) (by kernel_rfl) (by kernel_rfl) (by kernel_rfl) (fun _ _ _ h => h) (Or.inl ⟨by kernel_rfl, fun W' hS => ?_⟩) h0 ?_
        · have c0 := (hS.cell (p := ⟨A, 0, none⟩) LA.out).trans a0; have c1 := (hS.cell (p := ⟨A, 1, none⟩) LA.out).trans a1; go_simp
        simp only [Act.put, List.setIfInBounds_toArray, List.set_cons_zero, List.set_cons_succ, List.getElem_toArray, List.getElem_cons_succ, List.getElem_cons_zero]
        refine Till.take (i := 9) (v := .pointer (some ⟨w.heap.size, 1, none⟩)) rfl (by kernel_rfl) (by kernel_rfl) (by kernel_rfl) (by kernel_rfl) (fun _ _ _ h => h) (Or.inl ⟨by kernel_rfl, fun W' hS => ?_⟩) h0 ?_
        · go_simp
        simp only [Act.put, List.setIfInBounds_toArray, List.set_cons_zero, List.set_cons_succ, List.getElem_toArray, List.getElem_cons_succ, List.getElem_cons_zero]
        refine Till.take (i := 10) (v := .slice (some ⟨g, 0, none⟩) L.length vc) rfl (by kernel_rfl) (by kernel_rfl) (by kernel_rfl) (by kernel_rfl) (fun _ _ _ h => h) (Or.inl ⟨by kernel_rfl, fun W' hS => ?_⟩) h0 ?_
        · have c := (hS.cell (p := ⟨w.heap.size, 1, none⟩) LB.out).trans x1; go_simp
        simp only [Act.put, List.setIfInBounds_toArray, List.set_cons_zero, List.set_cons_succ, List.getElem_toArray, List.getElem_cons_succ, List.getElem_cons_zero]
        refine Till.take (i := 11) (v := .int .i64 (k : Int)) rfl (by kernel_rfl) (by kernel_rfl) (by kernel_rfl) (by kernel_rfl) (fun _ _ _ h => h) (Or.inl ⟨by kernel_rfl, fun W' hS => ?_⟩) h0 ?_
        · go_simp
        simp only [Act.put, List.setIfInBounds_toArray, List.set_cons_zero, List.set_cons_succ, List.getElem_toArray, List.getElem_cons_succ, List.getElem_cons_zero]
        refine Till.take (i := 12) (v := .slice (some D) (L.length - k) (vc - k)) rfl (by kernel_rfl) (by kernel_rfl) (by kernel_rfl) (by kernel_rfl) (fun _ _ _ h => h) (Or.inl ⟨by kernel_rfl, fun W' hS => ?_⟩) h0 ?_
        · go_simp
        simp only [Act.put, List.setIfInBounds_toArray, List.set_cons_zero, List.set_cons_succ, List.getElem_toArray, List.getElem_cons_succ, List.getElem_cons_zero]
        clear a0 a1 x0 x1
        have NE := Lib.hid (own_zero TL wd)
        have SE := Lib.hid ((Below.refl wd.heap.size wd).alloc (Nat.le_refl _) (.cells #[] 44))
        have SO := Lib.hid ((Below.refl wd.heap.size wd).alloc (Nat.le_refl _) (.cells #[.int .i64 i, .int .i64 t] 44))
        have NEO := Lib.hid (NE.out.alloc (.cells #[.int .i64 i, .int .i64 t] 44))
        have SEO := Lib.hid (SE.out.alloc SE.out.size (.cells #[.int .i64 i, .int .i64 t] 44))
        have SOE := Lib.hid (SO.out.alloc SO.out.size (.cells #[] 44))
        have noe := own_zero TL (wd.alloc (.cells #[.int .i64 i, .int .i64 t] 44))
        rw [show (wd.alloc (.cells #[.int .i64 i, .int .i64 t] 44)).heap.size = wd.heap.size + 1 by simp] at noe
        have geo := heap_alloc_new (wd.alloc (.cells #[] 44)) (.cells #[.int .i64 i, .int .i64 t] 44)
        rw [show (wd.alloc (.cells #[] 44)).heap.size = wd.heap.size + 1 by simp] at geo
        have goe : ((wd.alloc (.cells #[.int .i64 i, .int .i64 t] 44)).alloc (.cells #[] 44)).heap[wd.heap.size]? = some (.cells #[.int .i64 i, .int .i64 t] 44 (0, 0)) := by rw [heap_alloc_old _ _ (by simp)]; exact heap_alloc_new wd _
        have NOE := Lib.hid noe
        have GEO := Lib.hid geo
        have GOE := Lib.hid goe
        clear noe geo goe
        refine Till.ready (rs := [0, 7]) (by kernel_rfl) (by simp) (TillAll.cons rfl (fun K hK => ?_) (TillAll.cons rfl (fun K hK => ?_) TillAll.nil))
        · replace hK := Lib.hid hK
          go_simp
          refine hK.out _ _ SE.out (fun _ => ?_)
          clear hK K
          simp only [List.setIfInBounds_toArray, List.set_cons_zero]
          refine Till.ready (rs := [5, 7]) (by kernel_rfl) (by simp) (TillAll.cons rfl (fun K hK => ?_) (TillAll.cons rfl (fun K hK => ?_) TillAll.nil))
          · refine step_append_run rfl (.tmp 58) (.tmp 62) 24 rfl (.slice (some ⟨wd.heap.size, 0, none⟩) 0 0) (.slice (some ⟨g, 0, none⟩) k vc) (by first | (simp [Act.eval]; done) | (simp [Act.eval, Act.put]; done)) (by first | (simp [Act.eval]; done) | (simp [Act.eval, Act.put]; done)) _ (app_own ap_tl _ NE.out (HV1.out _ SE.out) (by first | (simp; done) | (simp; omega) | exact SE.out.size) HN1.out) ?_
            rintro v1 w1 ⟨ho, hg⟩
            have S1 := Lib.hid (bel_own SE.out NE.out (Nat.le_refl _) hg)
            have O1 := Lib.hid (own_lo (B' := wd.heap.size) ho (Nat.le_refl _))
            refine hK _ _ S1.out (fun _ => ?_)
            clear hK K ho hg
            simp only [Act.put, List.setIfInBounds_toArray, List.set_cons_zero, List.set_cons_succ]
            refine Till.ready (rs := [7]) (by kernel_rfl) (by simp) (TillAll.cons rfl (fun K hK => ?_) TillAll.nil)
            replace hK := Lib.hid hK
            go_simp
            refine hK.out _ _ (S1.out.alloc S1.out.size _) (fun _ => ?_)
            clear hK K
            simp only [List.setIfInBounds_toArray, List.set_cons_zero, List.set_cons_succ]
            have OA := Lib.hid (O1.out.alloc (.cells #[.int .i64 i, .int .i64 t] 44))
            have UA := Lib.hid (isl_one (Y := TL) (W := w1) (x := ⟨i, t⟩) (cs := #[.int .i64 i, .int .i64 t]) rfl trivial)
            have SA := Lib.hid (S1.out.alloc S1.out.size (.cells #[.int .i64 i, .int .i64 t] 44))
            refine Till.ready (rs := [8]) (by kernel_rfl) (by simp) (TillAll.cons rfl (fun K hK => ?_) TillAll.nil)
            refine step_append_run rfl (.tmp 63) (.tmp 65) 24 rfl (v1) (.slice (some ⟨w1.heap.size, 0, none⟩) 1 1) (by first | (simp [Act.eval]; done) | (simp [Act.eval, Act.put]; done)) (by first | (simp [Act.eval]; done) | (simp [Act.eval, Act.put]; done)) _ (app_own ap_tl _ OA.out UA.out (by first | (simp; done) | (simp; omega) | exact SA.out.size) HN2.out) ?_
            rintro v2 w2 ⟨ho, hg⟩
            have S2 := Lib.hid (bel_own SA.out OA.out (Nat.le_refl _) hg)
            have O2 := Lib.hid (own_lo (B' := wd.heap.size) ho (Nat.le_refl _))
            refine hK _ _ S2.out (fun _ => ?_)
            clear hK K ho hg
            simp only [Act.put, List.setIfInBounds_toArray, List.set_cons_zero, List.set_cons_succ]
            refine Till.ready (rs := [13]) (by kernel_rfl) (by simp) (TillAll.cons rfl (fun K hK => ?_) TillAll.nil)
            refine step_append_run rfl (.tmp 66) (.tmp 70) 24 rfl (v2) (.slice (some D) (L.length - k) (vc - k)) (by first | (simp [Act.eval]; done) | (simp [Act.eval, Act.put]; done)) (by first | (simp [Act.eval]; done) | (simp [Act.eval, Act.put]; done)) _ (app_own ap_tl _ O2.out (HV2.out _ S2.out) (by first | (simp; done) | (simp; omega) | exact S2.out.size) HN3.out) ?_
            rintro v3 w3 ⟨ho, hg⟩
            have S3 := Lib.hid (bel_own S2.out O2.out (Nat.le_refl _) hg)
            have O3 := Lib.hid (own_lo (B' := wd.heap.size) ho (Nat.le_refl _))
            obtain ⟨a9, m9, c9, rfl⟩ := own_slice ho
            refine hK _ _ S3.out (fun _ => ?_)
            clear hK K ho hg
            simp only [Act.put, List.setIfInBounds_toArray, List.set_cons_zero, List.set_cons_succ]
            refine Till.take (i := 14) (v := .pointer (some ⟨w.heap.size, 1, none⟩)) rfl (by kernel_rfl) (by kernel_rfl) (by kernel_rfl) (by kernel_rfl) (fun _ _ _ h => h) (Or.inl ⟨by kernel_rfl, fun W' hS => ?_⟩) S3.out ?_
            · go_simp
            simp only [Act.put, List.setIfInBounds_toArray, List.set_cons_zero, List.set_cons_succ, List.getElem_toArray, List.getElem_cons_succ, List.getElem_cons_zero]
            refine Till.ready (rs := [15]) (by kernel_rfl) (by simp) (TillAll.last rfl (fun K hK => ?_))
            replace hK := Lib.hid hK
            have B9 := Lib.hid (BC.out.keep S3.out)
            obtain ⟨x0, x1⟩ := B9.out.at2 (b := w.heap.size) (.tail _ (.head _))
            obtain ⟨z0, z1⟩ := B9.out.fz2 (b := w.heap.size) (.tail _ (.head _))
            obtain ⟨y0, y1⟩ := B9.out.at2 (b := w.heap.size + 1) (.tail _ (.tail _ (.head _)))
            obtain ⟨u0, u1⟩ := B9.out.fz2 (b := w.heap.size + 1) (.tail _ (.tail _ (.head _)))
            go_simp
            refine hK.out _ _ ?_
            clear hK K
            simp only [List.setIfInBounds_toArray, List.set_cons_zero, List.set_cons_succ]
            refine Till.done (by kernel_rfl) ?_ _
            go_wp2_with fail
            refine bodyPost_ret (v := .agg #[.int .i64 now, .slice a9 m9 c9]) (by simp [results, Try.results8, go_sem, y0, y1]) rfl ?_
            refine FN.out _ _ (by rw [HINS.out]; exact own_put (own_put (own_put (own_lo (B' := w.heap.size + 2) O3.out (by have := LC.out; omega)) (by omega)) (by omega)) (by omega)) (bel_put (bel_put (bel_put B9.out.w (by omega)) (by omega)) (by omega))
          · replace hK := Lib.hid hK
            go_simp
            refine hK.out _ _ SEO.out (fun _ => ?_)
            clear hK K
            simp only [List.setIfInBounds_toArray, List.set_cons_zero, List.set_cons_succ]
            refine Till.ready (rs := [5]) (by kernel_rfl) (by simp) (TillAll.cons rfl (fun K hK => ?_) TillAll.nil)
            refine step_append_run rfl (.tmp 58) (.tmp 62) 24 rfl (.slice (some ⟨wd.heap.size, 0, none⟩) 0 0) (.slice (some ⟨g, 0, none⟩) k vc) (by first | (simp [Act.eval]; done) | (simp [Act.eval, Act.put]; done)) (by first | (simp [Act.eval]; done) | (simp [Act.eval, Act.put]; done)) _ (app_own ap_tl _ NEO.out (HV1.out _ SEO.out) (by first | (simp; done) | (simp; omega) | exact SEO.out.size) HN1.out) ?_
            rintro v1 w1 ⟨ho, hg⟩
            have S1 := Lib.hid (bel_own SEO.out NEO.out (Nat.le_refl _) hg)
            have O1 := Lib.hid (own_lo (B' := wd.heap.size) ho (Nat.le_refl _))
            have U1 := Lib.hid (isl_heap (Y := TL) (x := ⟨i, t⟩) ((hg.block (wd.heap.size + 1) (by simp) (by simp [Value.ownBlock])).trans GEO.out) rfl trivial)
            refine hK _ _ S1.out (fun _ => ?_)
            clear hK K ho hg
            simp only [Act.put, List.setIfInBounds_toArray, List.set_cons_zero, List.set_cons_succ]
            refine Till.ready (rs := [8]) (by kernel_rfl) (by simp) (TillAll.cons rfl (fun K hK => ?_) TillAll.nil)
            refine step_append_run rfl (.tmp 63) (.tmp 65) 24 rfl (v1) (.slice (some ⟨wd.heap.size + 1, 0, none⟩) 1 1) (by first | (simp [Act.eval]; done) | (simp [Act.eval, Act.put]; done)) (by first | (simp [Act.eval]; done) | (simp [Act.eval, Act.put]; done)) _ (app_own ap_tl _ O1.out U1.out (by first | (simp; done) | (simp; omega) | exact S1.out.size) HN2.out) ?_
            rintro v2 w2 ⟨ho, hg⟩
            have S2 := Lib.hid (bel_own S1.out O1.out (Nat.le_refl _) hg)
            have O2 := Lib.hid (own_lo (B' := wd.heap.size) ho (Nat.le_refl _))
            refine hK _ _ S2.out (fun _ => ?_)
            clear hK K ho hg
            simp only [Act.put, List.setIfInBounds_toArray, List.set_cons_zero, List.set_cons_succ]
            refine Till.ready (rs := [13]) (by kernel_rfl) (by simp) (TillAll.cons rfl (fun K hK => ?_) TillAll.nil)
            refine step_append_run rfl (.tmp 66) (.tmp 70) 24 rfl (v2) (.slice (some D) (L.length - k) (vc - k)) (by first | (simp [Act.eval]; done) | (simp [Act.eval, Act.put]; done)) (by first | (simp [Act.eval]; done) | (simp [Act.eval, Act.put]; done)) _ (app_own ap_tl _ O2.out (HV2.out _ S2.out) (by first | (simp; done) | (simp; omega) | exact S2.out.size) HN3.out) ?_
            rintro v3 w3 ⟨ho, hg⟩
            have S3 := Lib.hid (bel_own S2.out O2.out (Nat.le_refl _) hg)
            have O3 := Lib.hid (own_lo (B' := wd.heap.size) ho (Nat.le_refl _))
            obtain ⟨a9, m9, c9, rfl⟩ := own_slice ho
            refine hK _ _ S3.out (fun _ => ?_)
            clear hK K ho hg
            simp only [Act.put, List.setIfInBounds_toArray, List.set_cons_zero, List.set_cons_succ]
            refine Till.take (i := 14) (v := .pointer (some ⟨w.heap.size, 1, none⟩)) rfl (by kernel_rfl) (by kernel_rfl) (by kernel_rfl) (by kernel_rfl) (fun _ _ _ h => h) (Or.inl ⟨by kernel_rfl, fun W' hS => ?_⟩) S3.out ?_
            · go_simp
            simp only [Act.put, List.setIfInBounds_toArray, List.set_cons_zero, List.set_cons_succ, List.getElem_toArray, List.getElem_cons_succ, List.getElem_cons_zero]
            refine Till.ready (rs := [15]) (by kernel_rfl) (by simp) (TillAll.last rfl (fun K hK => ?_))
            replace hK := Lib.hid hK
            have B9 := Lib.hid (BC.out.keep S3.out)
            obtain ⟨x0, x1⟩ := B9.out.at2 (b := w.heap.size) (.tail _ (.head _))
            obtain ⟨z0, z1⟩ := B9.out.fz2 (b := w.heap.size) (.tail _ (.head _))
            obtain ⟨y0, y1⟩ := B9.out.at2 (b := w.heap.size + 1) (.tail _ (.tail _ (.head _)))
            obtain ⟨u0, u1⟩ := B9.out.fz2 (b := w.heap.size + 1) (.tail _ (.tail _ (.head _)))
            go_simp
            refine hK.out _ _ ?_
            clear hK K
            simp only [List.setIfInBounds_toArray, List.set_cons_zero, List.set_cons_succ]
            refine Till.done (by kernel_rfl) ?_ _
            go_wp2_with fail
            refine bodyPost_ret (v := .agg #[.int .i64 now, .slice a9 m9 c9]) (by simp [results, Try.results8, go_sem, y0, y1]) rfl ?_
            refine FN.out _ _ (by rw [HINS.out]; exact own_put (own_put (own_put (own_lo (B' := w.heap.size + 2) O3.out (by have := LC.out; omega)) (by omega)) (by omega)) (by omega)) (bel_put (bel_put (bel_put B9.out.w (by omega)) (by omega)) (by omega))
        · replace hK := Lib.hid hK
          go_simp
          refine hK.out _ _ SO.out (fun _ => ?_)
          clear hK K
          simp only [List.setIfInBounds_toArray, List.set_cons_zero, List.set_cons_succ]
          refine Till.ready (rs := [0]) (by kernel_rfl) (by simp) (TillAll.cons rfl (fun K hK => ?_) TillAll.nil)
          replace hK := Lib.hid hK
          go_simp
          refine hK.out _ _ SOE.out (fun _ => ?_)
          clear hK K
          simp only [List.setIfInBounds_toArray, List.set_cons_zero]
          refine Till.ready (rs := [5]) (by kernel_rfl) (by simp) (TillAll.cons rfl (fun K hK => ?_) TillAll.nil)
          refine step_append_run rfl (.tmp 58) (.tmp 62) 24 rfl (.slice (some ⟨wd.heap.size + 1, 0, none⟩) 0 0) (.slice (some ⟨g, 0, none⟩) k vc) (by first | (simp [Act.eval]; done) | (simp [Act.eval, Act.put]; done)) (by first | (simp [Act.eval]; done) | (simp [Act.eval, Act.put]; done)) _ (app_own ap_tl _ NOE.out (HV1.out _ SOE.out) (by first | (simp; done) | (simp; omega) | exact SOE.out.size) HN1.out) ?_
          rintro v1 w1 ⟨ho, hg⟩
          have S1 := Lib.hid (bel_own SOE.out NOE.out (Nat.le_succ _) hg)
          have O1 := Lib.hid (own_lo (B' := wd.heap.size) ho (Nat.le_succ _))
          have U1 := Lib.hid (isl_heap (Y := TL) (x := ⟨i, t⟩) ((hg.block wd.heap.size (by first | (simp; done) | (simp; omega)) (by simp [Value.ownBlock])).trans GOE.out) rfl trivial)
          refine hK _ _ S1.out (fun _ => ?_)
          clear hK K ho hg
          simp only [Act.put, List.setIfInBounds_toArray, List.set_cons_zero, List.set_cons_succ]
          refine Till.ready (rs := [8]) (by kernel_rfl) (by simp) (TillAll.cons rfl (fun K hK => ?_) TillAll.nil)
          refine step_append_run rfl (.tmp 63) (.tmp 65) 24 rfl (v1) (.slice (some ⟨wd.heap.size, 0, none⟩) 1 1) (by first | (simp [Act.eval]; done) | (simp [Act.eval, Act.put]; done)) (by first | (simp [Act.eval]; done) | (simp [Act.eval, Act.put]; done)) _ (app_own ap_tl _ O1.out U1.out (by first | (simp; done) | (simp; omega) | exact S1.out.size) HN2.out) ?_
          rintro v2 w2 ⟨ho, hg⟩
          have S2 := Lib.hid (bel_own S1.out O1.out (Nat.le_refl _) hg)
          have O2 := Lib.hid (own_lo (B' := wd.heap.size) ho (Nat.le_refl _))
          refine hK _ _ S2.out (fun _ => ?_)
          clear hK K ho hg
          simp only [Act.put, List.setIfInBounds_toArray, List.set_cons_zero, List.set_cons_succ]
          refine Till.ready (rs := [13]) (by kernel_rfl) (by simp) (TillAll.cons rfl (fun K hK => ?_) TillAll.nil)
          refine step_append_run rfl (.tmp 66) (.tmp 70) 24 rfl (v2) (.slice (some D) (L.length - k) (vc - k)) (by first | (simp [Act.eval]; done) | (simp [Act.eval, Act.put]; done)) (by first | (simp [Act.eval]; done) | (simp [Act.eval, Act.put]; done)) _ (app_own ap_tl _ O2.out (HV2.out _ S2.out) (by first | (simp; done) | (simp; omega) | exact S2.out.size) HN3.out) ?_
          rintro v3 w3 ⟨ho, hg⟩
          have S3 := Lib.hid (bel_own S2.out O2.out (Nat.le_refl _) hg)
          have O3 := Lib.hid (own_lo (B' := wd.heap.size) ho (Nat.le_refl _))
          obtain ⟨a9, m9, c9, rfl⟩ := own_slice ho
          refine hK _ _ S3.out (fun _ => ?_)
          clear hK K ho hg
          simp only [Act.put, List.setIfInBounds_toArray, List.set_cons_zero, List.set_cons_succ]
          refine Till.take (i := 14) (v := .pointer (some ⟨w.heap.size, 1, none⟩)) rfl (by kernel_rfl) (by kernel_rfl) (by kernel_rfl) (by kernel_rfl) (fun _ _ _ h => h) (Or.inl ⟨by kernel_rfl, fun W' hS => ?_⟩) S3.out ?_
          · go_simp
          simp only [Act.put, List.setIfInBounds_toArray, List.set_cons_zero, List.set_cons_succ, List.getElem_toArray, List.getElem_cons_succ, List.getElem_cons_zero]
          refine Till.ready (rs := [15]) (by kernel_rfl) (by simp) (TillAll.last rfl (fun K hK => ?_))
          replace hK := Lib.hid hK
          have B9 := Lib.hid (BC.out.keep S3.out)
          obtain ⟨x0, x1⟩ := B9.out.at2 (b := w.heap.size) (.tail _ (.head _))
          obtain ⟨z0, z1⟩ := B9.out.fz2 (b := w.heap.size) (.tail _ (.head _))
          obtain ⟨y0, y1⟩ := B9.out.at2 (b := w.heap.size + 1) (.tail _ (.tail _ (.head _)))
          obtain ⟨u0, u1⟩ := B9.out.fz2 (b := w.heap.size + 1) (.tail _ (.tail _ (.head _)))
          go_simp
          refine hK.out _ _ ?_
          clear hK K
          simp only [List.setIfInBounds_toArray, List.set_cons_zero, List.set_cons_succ]
          refine Till.done (by kernel_rfl) ?_ _
          go_wp2_with fail
          refine bodyPost_ret (v := .agg #[.int .i64 now, .slice a9 m9 c9]) (by simp [results, Try.results8, go_sem, y0, y1]) rfl ?_
          refine FN.out _ _ (by rw [HINS.out]; exact own_put (own_put (own_put (own_lo (B' := w.heap.size + 2) O3.out (by have := LC.out; omega)) (by omega)) (by omega)) (by omega)) (bel_put (bel_put (bel_put B9.out.w (by omega)) (by omega)) (by omega))

end Go.Proofs.Ytpbpkeifehobjaa.Tm
