/-
  What the document's Tick of layer 18 answers.
-/
import Derived.Test.YtpbpkeifehobjaaTimRef
namespace Go.Proofs.Ytpbpkeifehobjaa.Tm
open Go.RowKit Go.Proofs.Ytpbpkeifehobjaa.Tp Go.Proofs.Ytpbpkeifehobjaa.Aps

theorem tout_own {w W : World} {B : Nat} {v0 v u : Value} {now : Int} {l : List Al} {o : List Int} (h : OwnL TL W B v l) (k : OwnL NL W B u o) (hl : l.length ≤ 1000000) (ho : o.length ≤ 1000000) (hb : Below w.heap.size w W) (hB : w.heap.size ≤ B) : TOut w v0 now l o (.returned (.tuple #[.agg #[.int .i64 now, v], u])) W := by
  have hi := h.is (by unfold maxLen; omega) (fun _ _ => trivial)
  have ki := k.is (by unfold maxLen; omega) (fun _ _ => trivial)
  obtain ⟨a, n, c, rfl⟩ := isl_slice hi
  obtain ⟨x, m, d, rfl⟩ := isl_slice ki
  exact ⟨a, n, c, x, m, d, rfl, hi, own_nil h, Near.own h hB (Nat.le_refl _), ki, fun p n' c' e => (Near.own (v := .slice none 0 0) k hB (Nat.le_refl _) p n' c' e).elim (fun q => q.1) (fun ⟨_, _, _, e2, _⟩ => by injection e2 with e2; cases e2), hb⟩
theorem tn_ne : TL.T ≠ NL.T := by decide
theorem nt_ne : NL.T ≠ TL.T := by decide

set_option maxRecDepth 100000 in
set_option maxHeartbeats 1600000 in
theorem rtick18_any (now : Int) (v : Value) (l : List Al) (w : World) (hv : IsL TL w v l) (hl : l.length ≤ 100000) (hn0 : -9223372036854775808 ≤ now) (hn1 : now ≤ 9223372036854775806) :
    Calls Try.prog 12 #[.agg #[.int .i64 now, v]] w (TOut w v (now + 1) (rest l (now + 1)) (rings l (now + 1))) := by
  obtain ⟨fa, fn, fc, rfl⟩ := isl_slice hv
  have HFL := Lib.hid hv.len.1
  have hfn : fn ≤ 100000 := by rw [HFL.out]; exact hl
  have HS1 := Lib.hid fun (k : Nat) (h : k < fn) => rest_snoc (l := l) (k := k) (by rw [← HFL.out]; exact h) (now + 1)
  have HS2 := Lib.hid fun (k : Nat) (h : k < fn) => rings_snoc (l := l) (k := k) (by rw [← HFL.out]; exact h) (now + 1)
  have HC1 := Lib.hid fun (k : Nat) => (show (rest (l.take k) (now + 1)).length ≤ 100000 from Nat.le_trans (rest_len _ _) (by rw [List.length_take]; omega))
  have HC2 := Lib.hid fun (k : Nat) => (show (rings (l.take k) (now + 1)).length ≤ 100000 from Nat.le_trans (rings_len _ _) (by rw [List.length_take]; omega))
  have HT := Lib.hid (show l.take fn = l by rw [HFL.out]; exact List.take_length)
  have BX := two_new w now (.slice fa fn fc)
  obtain ⟨w2, hw2⟩ : ∃ w2, ((w.alloc (.cells #[.int .i64 now, .slice fa fn fc] 26)).alloc (.cells #[.int .i64 0, .slice none 0 0] 26)) = w2 := ⟨_, rfl⟩
  have hz2 : w2.heap.size = w.heap.size + 2 := by rw [← hw2]; simp
  rw [hw2] at BX
  obtain ⟨x0, x1⟩ := BX.at2 (b := w.heap.size) (.tail _ (.head _))
  obtain ⟨f0, f1⟩ := BX.fz2 (b := w.heap.size) (.tail _ (.head _))
  have B3 : Bs w [(w.heap.size, #[.int .i64 (now + 1), .slice fa fn fc], 26), (w.heap.size + 1, #[.int .i64 0, .slice none 0 0], 26)] (w2.setCell ⟨w.heap.size, 0, none⟩ (.int .i64 (now + 1))) :=
    BX.swap.set (Nat.le_refl _) (fun p hp => by rcases List.mem_singleton.1 hp with rfl; exact Nat.succ_ne_self _) 0 (.int .i64 (now + 1))
  have HV := Lib.hid (hv.keep B3.w)
  replace hw2 := Lib.hid hw2
  have FN := Lib.hid fun (W : World) (v' u' : Value) (h : OwnL TL W (w.heap.size + 2) v' (rest l (now + 1))) (k : OwnL NL W (w.heap.size + 2) u' (rings l (now + 1))) (hb : Below w.heap.size w W) => tout_own (v0 := .slice fa fn fc) (now := now + 1) h k (by have := HC1.out fn; rw [HT.out] at this; omega) (by have := HC2.out fn; rw [HT.out] at this; omega) hb (by omega)
  generalize hP : TOut w (.slice fa fn fc) (now + 1) (rest l (now + 1)) (rings l (now + 1)) = P at *
  have hz3 : (w2.setCell ⟨w.heap.size, 0, none⟩ (.int .i64 (now + 1))).heap.size = w.heap.size + 2 := by simp [hz2]
  replace B3 := Lib.hid B3
  clear hv hl hP hz2 BX
  go_enter Try.func12, Try.ntmps12
  go_wp2_with (rw [hw2.out])
  clear hw2 x0 x1 f0 f1
  generalize w2.setCell _ _ = w3 at B3 HV hz3 ⊢
  obtain ⟨B, hB⟩ : ∃ B, w.heap.size = B := ⟨_, rfl⟩
  rw [hB] at B3 FN hz3 ⊢
  have HB := Lib.hid hB
  have HZ := Lib.hid hz3
  clear hB hz3
  generalize ht : now + 1 = t at *
  clear ht
  go_loopw [4, 5, 6] (fun r o i W => ∃ k : Nat, k ≤ fn ∧ i = .int .i64 k ∧ OwnL TL W (B + 2) r (rest (l.take k) t) ∧ OwnL NL W (B + 2) o (rings (l.take k) t) ∧ Bs w [(B, #[.int .i64 t, .slice fa fn fc], 26), (B + 1, #[.int .i64 0, .slice none 0 0], 26)] W ∧ Below w3.heap.size w3 W) (fun _ _ i _ => fn - (intOf i).toNat)
  case atStart => exact ⟨0, Nat.zero_le _, rfl, OwnL.nil _ _, OwnL.nil _ _, B3.out, Below.refl _ _⟩
  case round =>
    obtain ⟨k, hk, rfl, ho, hp, hb, hw⟩ := hrel
    have HO := Lib.hid ho
    have HP := Lib.hid hp
    have BK := Lib.hid hb
    have HW := Lib.hid hw
    clear ho hp hb hw
    obtain ⟨x0, x1⟩ := BK.out.at2 (b := B) (.head _)
    by_cases hlt : k < fn
    · obtain ⟨g, off, rfl, c0, c1⟩ := tl_at (HV.out.keep HW.out) hlt
      have HSN := Lib.hid (HS1.out k hlt)
      have HSM := Lib.hid (HS2.out k hlt)
      generalize l.getD k azero = q at c0 c1 HSN HSM
      obtain ⟨qi, qt⟩ := q
      dsimp only at c0 c1 HSN HSM
      by_cases hi : qt ≤ t
      · have HM := Lib.hid fun (v1 : Value) (w1 : World) (h : OwnL NL w1 (B + 2) v1 (rings (l.take k) t ++ [qi])) => (show OwnL NL w1 (B + 2) v1 (rings (l.take (k + 1)) t) by rw [HSM.out, if_pos hi]; exact h)
        have HM2 := Lib.hid fun (w1 : World) (h : OwnL TL w1 (B + 2) u4 (rest (l.take k) t)) => (show OwnL TL w1 (B + 2) u4 (rest (l.take (k + 1)) t) by rw [HSN.out, if_pos hi, List.append_nil]; exact h)
        have d0 := c0
        have d1 := c1
        go_wp2_with fail
        go_quiet (fail)
        have KD := bel_drewN (w := wr) nq
        have OD := Lib.hid (HO.out.keep KD)
        have PD := Lib.hid (HP.out.keep KD)
        have BD := Lib.hid (BK.out.keep KD)
        have WD := Lib.hid (HW.out.trans (KD.mono HW.out.size))
        have hg := block_lt_of_cell c0
        replace c0 := (KD.cell (p := ⟨g, off + k * 2, none⟩) hg).trans c0
        replace c1 := (KD.cell (p := ⟨g, off + k * 2 + 1, none⟩) hg).trans c1
        clear d0 d1 hg KD x0 x1
        obtain ⟨x0, x1⟩ := BD.out.at2 (b := B) (.head _)
        generalize wr.drewN nq = wd at OD PD BD WD c0 c1 x0 x1 ⊢
        have HU := Lib.hid (isl_one (Y := NL) (W := wd) (x := qi) (cs := #[.int .i64 qi]) rfl trivial)
        have WA := Lib.hid (WD.out.alloc WD.out.size (.cells #[.int .i64 qi] 3))
        have OA := Lib.hid (PD.out.alloc (.cells #[.int .i64 qi] 3))
        have QA := Lib.hid (OD.out.alloc (.cells #[.int .i64 qi] 3))
        have HN := Lib.hid (show (rings (l.take k) t).length + [(qi : Int)].length ≤ 1000000 by have := HC2.out k; simp; omega)
        have HZ2 := Lib.hid (show B + 2 ≤ (wd.alloc (.cells #[.int .i64 qi] 3)).heap.size by have := WD.out.size; have := HZ.out; simp; omega)
        go_wp2_with (first | (at_builtin; refine wpl_run 31 (.tmp 27) (.tmp 34) _ _ rfl rfl rfl rfl _ (app_own ap_nl _ OA.out HU.out HZ2.out HN.out) ?_; rintro v1 w1 ⟨ho1, hg1⟩; have O2 := Lib.hid (HM.out _ _ ho1); have Q2 := Lib.hid (HM2.out _ (own_other QA.out OA.out tn_ne hg1)); have W2 := Lib.hid (bel_own WA.out OA.out (Nat.le_of_eq HZ.out) hg1); clear ho1 hg1) | fail)
        go_roundw
        case rel => exact ⟨k + 1, by omega, by go_num, Q2.out, O2.out, B3.out.keep W2.out, W2.out⟩
        case measure => simp [intOf]; omega
      · have HM := Lib.hid fun (v1 : Value) (w1 : World) (h : OwnL TL w1 (B + 2) v1 (rest (l.take k) t ++ [⟨qi, qt⟩])) => (show OwnL TL w1 (B + 2) v1 (rest (l.take (k + 1)) t) by rw [HSN.out, if_neg hi]; exact h)
        have HM2 := Lib.hid fun (w1 : World) (h : OwnL NL w1 (B + 2) u5 (rings (l.take k) t)) => (show OwnL NL w1 (B + 2) u5 (rings (l.take (k + 1)) t) by rw [HSM.out, if_neg hi, List.append_nil]; exact h)
        have d0 := c0
        have d1 := c1
        go_wp2_with fail
        go_quiet (fail)
        have KD := bel_drewN (w := wr) nq
        have OD := Lib.hid (HO.out.keep KD)
        have PD := Lib.hid (HP.out.keep KD)
        have BD := Lib.hid (BK.out.keep KD)
        have WD := Lib.hid (HW.out.trans (KD.mono HW.out.size))
        have hg := block_lt_of_cell c0
        replace c0 := (KD.cell (p := ⟨g, off + k * 2, none⟩) hg).trans c0
        replace c1 := (KD.cell (p := ⟨g, off + k * 2 + 1, none⟩) hg).trans c1
        clear d0 d1 hg KD x0 x1
        obtain ⟨x0, x1⟩ := BD.out.at2 (b := B) (.head _)
        generalize wr.drewN nq = wd at OD PD BD WD c0 c1 x0 x1 ⊢
        have HU := Lib.hid (isl_one (Y := TL) (W := wd) (x := ⟨qi, qt⟩) (cs := #[.int .i64 qi, .int .i64 qt]) rfl trivial)
        have WA := Lib.hid (WD.out.alloc WD.out.size (.cells #[.int .i64 qi, .int .i64 qt] 44))
        have OA := Lib.hid (OD.out.alloc (.cells #[.int .i64 qi, .int .i64 qt] 44))
        have QA := Lib.hid (PD.out.alloc (.cells #[.int .i64 qi, .int .i64 qt] 44))
        have HN := Lib.hid (show (rest (l.take k) t).length + [(⟨qi, qt⟩ : Al)].length ≤ 1000000 by have := HC1.out k; simp; omega)
        have HZ2 := Lib.hid (show B + 2 ≤ (wd.alloc (.cells #[.int .i64 qi, .int .i64 qt] 44)).heap.size by have := WD.out.size; have := HZ.out; simp; omega)
        go_wp2_with (first | (at_builtin; refine wpl_run 24 (.tmp 36) (.tmp 42) _ _ rfl rfl rfl rfl _ (app_own ap_tl _ OA.out HU.out HZ2.out HN.out) ?_; rintro v1 w1 ⟨ho1, hg1⟩; have O2 := Lib.hid (HM.out _ _ ho1); have Q2 := Lib.hid (HM2.out _ (own_other QA.out OA.out nt_ne hg1)); have W2 := Lib.hid (bel_own WA.out OA.out (Nat.le_of_eq HZ.out) hg1); clear ho1 hg1) | fail)
        go_roundw
        case rel => exact ⟨k + 1, by omega, by go_num, O2.out, Q2.out, B3.out.keep W2.out, W2.out⟩
        case measure => simp [intOf]; omega
    · obtain rfl : k = fn := by omega
      have HO2 := Lib.hid (show OwnL TL wr (B + 2) u4 (rest l t) by have := HO.out; rwa [HT.out] at this)
      have HP2 := Lib.hid (show OwnL NL wr (B + 2) u5 (rings l t) by have := HP.out; rwa [HT.out] at this)
      have BW := Lib.hid (show Below B w wr by rw [← HB.out]; exact BK.out.w)
      obtain ⟨a2, m2, c2, rfl⟩ := own_slice HO2.out
      obtain ⟨a3, m3, c3, rfl⟩ := own_slice HP2.out
      obtain ⟨f0, f1⟩ := BK.out.fz2 (b := B) (.head _)
      obtain ⟨y0, y1⟩ := BK.out.at2 (b := B + 1) (.tail _ (.head _))
      obtain ⟨g0, g1⟩ := BK.out.fz2 (b := B + 1) (.tail _ (.head _))
      go_wp2_with fail
      refine bodyPost_ret (v := .tuple #[.agg #[.int .i64 t, .slice a2 m2 c2], .slice a3 m3 c3]) (by simp [results, Try.results12, go_sem, y0, y1]) rfl ?_
      exact FN.out _ _ _ (own_put (own_put (own_put HO2.out (by omega)) (by omega)) (by omega)) (own_put (own_put (own_put HP2.out (by omega)) (by omega)) (by omega)) (((BW.out.setCell (p := ⟨B, 1, none⟩) (Nat.le_refl _) _).setCell (p := ⟨B + 1, 0, none⟩) (Nat.le_succ _) _).setCell (p := ⟨B + 1, 1, none⟩) (Nat.le_succ _) _)

end Go.Proofs.Ytpbpkeifehobjaa.Tm
