/-
  What the document's Same of layer 18, and the statements' same, answer.
-/
import Derived.Test.YtpbpkeifehobjaaTimVal
namespace Go.Proofs.Ytpbpkeifehobjaa.Tm
open Go.RowKit Go.Proofs.Ytpbpkeifehobjaa.Tp Go.Proofs.Ytpbpkeifehobjaa.Aps

theorem al_neq (w : World) (a b c d : Int) : (binOp .neq 44 (.agg #[.int .i64 a, .int .i64 b]) (.agg #[.int .i64 c, .int .i64 d])).run Try.prog w = .ok (.bool (!(a == c && b == d))) w := by
  by_cases h : a = c
  · have e1 : (a == c) = true := by simpa using h
    by_cases h2 : b = d
    · have e2 : (b == d) = true := by simpa using h2
      rw [e1, e2]
      simp [go_sem, e1, e2]
    · have e2 : (b == d) = false := by simpa using h2
      rw [e1, e2]
      simp [go_sem, e1, e2]
  · have e1 : (a == c) = false := by simpa using h
    rw [e1]
    simp [go_sem, e1]

set_option maxRecDepth 100000 in
set_option maxHeartbeats 1600000 in
theorem rsame18_any (now now' : Int) (v v' : Value) (l l' : List Al) (b : Bool) (w : World) (hv : IsL TL w v l) (hv' : IsL TL w v' l') (hb : b = true ↔ now = now' ∧ l = l') :
    Calls Try.prog 14 #[.agg #[.int .i64 now, v], .agg #[.int .i64 now', v']] w fun e w' => e = .returned (.bool b) ∧ Below w.heap.size w w' := by
  obtain ⟨fa, fn, fc, rfl⟩ := isl_slice hv
  obtain ⟨ga, gn, gc, rfl⟩ := isl_slice hv'
  have hfl := hv.len.1
  have hgl := hv'.len.1
  have H1 := Lib.hid (show now ≠ now' → b = false from fun h => by rw [← Bool.not_eq_true, hb]; exact fun hf => h hf.1)
  have H3 := Lib.hid (show fn ≠ gn → b = false from fun h => by rw [← Bool.not_eq_true, hb]; exact fun hf => h (by rw [hfl, hgl, hf.2]))
  have HJ := Lib.hid (show ∀ j, j < fn → l.getD j azero ≠ l'.getD j azero → b = false from fun j hj h => by rw [← Bool.not_eq_true, hb]; exact fun hf => h (by rw [hf.2]))
  have HY := Lib.hid (show now = now' → fn = gn → (∀ j, j < fn → l.getD j azero = l'.getD j azero) → b = true from fun h1 h3 k => hb.2 ⟨h1, List.ext_getElem (by omega) fun i hi hi' => by have := k i (by omega); rwa [getD_lt hi, getD_lt hi'] at this⟩)
  have BX := (((Bs.start w).new #[.int .i64 now, .slice fa fn fc] 26).new #[.int .i64 now', .slice ga gn gc] 26)
  have hz : (w.alloc (.cells #[.int .i64 now, .slice fa fn fc] 26)).heap.size = w.heap.size + 1 := by simp
  rw [hz] at BX
  replace BX := Lib.hid BX
  have HV := Lib.hid (hv.keep BX.out.w)
  have HV' := Lib.hid (hv'.keep BX.out.w)
  have hl2 : fn ≤ 9223372036854775807 := by have := hv.len.2; unfold maxLen at this; omega
  have hl3 : gn ≤ 9223372036854775807 := by have := hv'.len.2; unfold maxLen at this; omega
  clear hv hfl hb hv' hgl hz
  obtain ⟨x0, x1⟩ := BX.out.at2 (b := w.heap.size) (.tail _ (.head _))
  obtain ⟨y0, y1⟩ := BX.out.at2 (b := w.heap.size + 1) (.head _)
  obtain h1 | h1 : now ≠ now' ∨ now = now' := by omega
  · obtain rfl := H1.out h1
    go_enter Try.func14, Try.ntmps14
    go_wp2_with fail
    go_ret
    exact ⟨rfl, BX.out.w⟩
  obtain h3 | h3 : fn ≠ gn ∨ fn = gn := by omega
  · obtain rfl := H3.out h3
    subst h1
    go_enter Try.func14, Try.ntmps14
    go_wp2_with fail
    go_ret
    exact ⟨rfl, BX.out.w⟩
  subst h1 h3
  replace HY := Lib.hid (HY.out rfl rfl)
  clear H1 H3
  go_enter Try.func14, Try.ntmps14
  go_wp2_with fail
  generalize (World.alloc _ _).alloc _ = w0 at x0 x1 y0 y1 BX HV HV' ⊢
  go_loopw [5] (fun i W => ∃ k n : Nat, k ≤ fn ∧ i = .int .i64 k ∧ W = w0.drewN n ∧ ∀ j, j < k → l.getD j azero = l'.getD j azero) (fun i _ => fn - (intOf i).toNat)
  case atStart => exact ⟨0, 0, Nat.zero_le _, rfl, rfl, fun j hj => absurd hj (Nat.not_lt_zero j)⟩
  case round =>
    obtain ⟨k, n, hk, rfl, rfl, hall⟩ := hrel
    have BN := Lib.hid (BX.out.w.trans ((bel_drewN (w := w0) n).mono BX.out.w.size))
    have HALL := Lib.hid hall
    clear hall
    by_cases hlt : k < fn
    · obtain ⟨g, off, rfl, c0, c1⟩ := tl_at HV.out hlt
      obtain ⟨g', off', rfl, d0, d1⟩ := tl_at HV'.out hlt
      have HJK := Lib.hid (HJ.out k hlt)
      have HAL := Lib.hid (show l.getD k azero = l'.getD k azero → ∀ j, j < k + 1 → l.getD j azero = l'.getD j azero from fun h j hj => by rcases Nat.lt_succ_iff_lt_or_eq.1 hj with h' | h'; exact HALL.out j h'; subst h'; exact h)
      generalize l.getD k azero = s at c0 c1 HJK HAL
      generalize l'.getD k azero = s' at d0 d1 HJK HAL
      obtain ⟨s0, s1⟩ := s
      obtain ⟨t0, t1⟩ := s'
      dsimp only at c0 c1 d0 d1
      have hq := al_neq
      by_cases hs : s0 = t0 ∧ s1 = t1
      · obtain ⟨rfl, rfl⟩ := hs
        have HA2 := Lib.hid (HAL.out rfl)
        clear HAL HJK
        go_wp2_with fail
        go_quiet (fail)
        go_wp2_with fail
        go_roundw
        case rel => exact ⟨k + 1, _, by omega, by go_num, rfl, HA2.out⟩
        case measure => simp [intOf]; omega
      · have HBF := Lib.hid (HJK.out (fun e => hs (by injection e with e1 e2; exact ⟨e1, e2⟩)))
        have hb1 : (s0 == t0 && s1 == t1) = false := by
          rw [Bool.and_eq_false_iff, beq_eq_false_iff_ne, beq_eq_false_iff_ne]
          omega
        clear HAL HJK
        go_wp2_with fail
        go_quiet (fail)
        go_wp2_with fail
        go_ret
        exact ⟨by rw [HBF.out]; rfl, BN.out.trans ((bel_drewN nq).mono BN.out.size)⟩
    · obtain rfl : k = fn := by omega
      have HBT := Lib.hid (HY.out HALL.out)
      go_wp2_with fail
      go_ret
      exact ⟨by rw [HBT.out]; rfl, BN.out⟩

set_option maxRecDepth 100000 in
set_option maxHeartbeats 1600000 in
theorem same18_any (v v' : Value) (l l' : List Int) (b : Bool) (w : World) (hv : IsL NL w v l) (hv' : IsL NL w v' l') (hb : b = true ↔ l = l') :
    Calls Try.prog 13 #[v, v'] w fun e w' => e = .returned (.bool b) ∧ Below w.heap.size w w' := by
  obtain ⟨fa, fn, fc, rfl⟩ := isl_slice hv
  obtain ⟨ga, gn, gc, rfl⟩ := isl_slice hv'
  have hfl := hv.len.1
  have hgl := hv'.len.1
  have H3 := Lib.hid (show fn ≠ gn → b = false from fun h => by rw [← Bool.not_eq_true, hb]; exact fun hf => h (by rw [hfl, hgl, hf]))
  have HJ := Lib.hid (show ∀ j, j < fn → l.getD j 0 ≠ l'.getD j 0 → b = false from fun j hj h => by rw [← Bool.not_eq_true, hb]; exact fun hf => h (by rw [hf]))
  have HY := Lib.hid (show fn = gn → (∀ j, j < fn → l.getD j 0 = l'.getD j 0) → b = true from fun h3 k => hb.2 (List.ext_getElem (by omega) fun i hi hi' => by have := k i (by omega); rwa [getD_lt hi, getD_lt hi'] at this))
  have HV := Lib.hid hv
  have HV' := Lib.hid hv'
  have hl2 : fn ≤ 9223372036854775807 := by have := hv.len.2; unfold maxLen at this; omega
  have hl3 : gn ≤ 9223372036854775807 := by have := hv'.len.2; unfold maxLen at this; omega
  clear hv hfl hb hv' hgl
  obtain h3 | h3 : fn ≠ gn ∨ fn = gn := by omega
  · obtain rfl := H3.out h3
    go_enter Try.func13, Try.ntmps13
    go_wp2_with fail
    go_ret
    exact ⟨rfl, Below.refl _ _⟩
  subst h3
  replace HY := Lib.hid (HY.out rfl)
  clear H3
  go_enter Try.func13, Try.ntmps13
  go_wp2_with fail
  go_loopw [5] (fun i W => ∃ k n : Nat, k ≤ fn ∧ i = .int .i64 k ∧ W = w.drewN n ∧ ∀ j, j < k → l.getD j 0 = l'.getD j 0) (fun i _ => fn - (intOf i).toNat)
  case atStart => exact ⟨0, 0, Nat.zero_le _, rfl, rfl, fun j hj => absurd hj (Nat.not_lt_zero j)⟩
  case round =>
    obtain ⟨k, n, hk, rfl, rfl, hall⟩ := hrel
    have BN := Lib.hid (bel_drewN (w := w) n)
    have HALL := Lib.hid hall
    clear hall
    by_cases hlt : k < fn
    · obtain ⟨g, off, rfl, c0⟩ := nl_at HV.out hlt
      obtain ⟨g', off', rfl, d0⟩ := nl_at HV'.out hlt
      have HJK := Lib.hid (HJ.out k hlt)
      have HAL := Lib.hid (show l.getD k 0 = l'.getD k 0 → ∀ j, j < k + 1 → l.getD j 0 = l'.getD j 0 from fun h j hj => by rcases Nat.lt_succ_iff_lt_or_eq.1 hj with h' | h'; exact HALL.out j h'; subst h'; exact h)
      generalize l.getD k 0 = s at c0 HJK HAL
      generalize l'.getD k 0 = s' at d0 HJK HAL
      by_cases hs : s = s'
      · have HA2 := Lib.hid (HAL.out hs)
        subst hs
        clear HAL HJK
        go_wp2_with fail
        go_quiet (fail)
        go_wp2_with fail
        go_roundw
        case rel => exact ⟨k + 1, _, by omega, by go_num, rfl, HA2.out⟩
        case measure => simp [intOf]; omega
      · have HBF := Lib.hid (HJK.out hs)
        clear HAL HJK
        go_wp2_with fail
        go_quiet (fail)
        go_wp2_with fail
        go_ret
        exact ⟨by rw [HBF.out]; rfl, BN.out.trans ((bel_drewN nq).mono BN.out.size)⟩
    · obtain rfl : k = fn := by omega
      have HBT := Lib.hid (HY.out HALL.out)
      go_wp2_with fail
      go_ret
      exact ⟨by rw [HBT.out]; rfl, BN.out⟩

end Go.Proofs.Ytpbpkeifehobjaa.Tm
