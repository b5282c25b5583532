/-
  RetainTells and RetainLeast, walked.
-/
import Derived.Test.YtmbkgcmmajnidaaLaw11A
import Derived.BigQuiet
namespace Go.Proofs.Ytmbkgcmmajnidaa.Rts
open Go.RowKit Go.Proofs.Ytmbkgcmmajnidaa.Rt

set_option maxRecDepth 100000 in
set_option maxHeartbeats 800000 in
theorem tells11 (fa : Option Addr) (fn fc : Nat) (l : List Sg) (keep count : Int) (w : World) (hv : IsL SL w (.slice fa fn fc) l) (hc : fn ≤ fc) (h0 : -9223372036854775808 ≤ keep) (h1 : keep ≤ 9223372036854775807) (h2 : -9223372036854775808 ≤ count) (h3 : count ≤ 9223372036854775807) :
    Calls Try.prog 3 #[.slice fa fn fc, .int .i64 keep, .int .i64 count] w fun e w' => e = .returned (.bool true) ∧ Below w.heap.size w w' := by
  obtain ⟨b, hb⟩ := few_or l
  have MY := Lib.hid (may11_any fa fn fc l b w hv hb)
  have AW := Lib.hid fun W : World => awake11 W
  by_cases hf : Few l
  · obtain rfl := hb.2 hf
    obtain ⟨p, hp⟩ := pick_some l keep count
    have P := Lib.hid fun (W : World) (h : Below w.heap.size w W) => pick11_any fa fn fc l keep count p W (hv.keep h) hc hf.may hp h0 h1 h2 h3
    have RP := Lib.hid fun (W : World) (h : Below w.heap.size w W) => rpick11_any fa fn fc l keep count p W (hv.keep h) hc hf.may hp
    have Y := Lib.hid fun (W : World) (h : Below w.heap.size w W) => bytes11_any fa fn fc l W (hv.keep h) hc hf.may
    have RY := Lib.hid fun (W : World) (h : Below w.heap.size w W) => rbytes11_any (.slice fa fn fc) l W (hv.keep h) hf.may
    generalize sumZ l = S at *
    clear hv hb hf hp
    go_enter Try.func3, Try.ntmps3
    go_wp2_with fail
    refine MY.out.mono ?_
    rintro e w1 ⟨rfl, rfl⟩
    go_wp2_with fail
    refine (AW.out _).mono ?_
    rintro e w2 ⟨rfl, b2⟩
    have B2 := Lib.hid b2
    clear b2
    go_wp2_with fail
    refine (P.out _ B2.out).mono ?_
    rintro e w3 ⟨rfl, b3⟩
    have B3 := Lib.hid (B2.out.trans (b3.mono B2.out.size))
    clear b3
    go_wp2_with fail
    refine (RP.out _ B3.out).mono ?_
    rintro e w4 ⟨rfl, rfl⟩
    go_wp2_with fail
    refine (Y.out _ B3.out).mono ?_
    rintro e w5 ⟨rfl, b5⟩
    have B5 := Lib.hid (B3.out.trans (b5.mono B3.out.size))
    clear b5
    go_wp2_with fail
    refine (RY.out _ B5.out).mono ?_
    rintro e w6 ⟨rfl, rfl⟩
    go_wp2_with fail
    go_ret
    exact ⟨rfl, B5.out⟩
  · obtain rfl : b = false := by rw [← Bool.not_eq_true, hb]; exact hf
    clear hv hb hf
    go_enter Try.func3, Try.ntmps3
    go_wp2_with fail
    refine MY.out.mono ?_
    rintro e w1 ⟨rfl, rfl⟩
    go_wp2_with fail
    refine (AW.out _).mono ?_
    rintro e w2 ⟨rfl, b2⟩
    go_wp2_with fail
    go_ret
    exact ⟨rfl, b2⟩

set_option maxRecDepth 100000 in
set_option maxHeartbeats 1600000 in
theorem least11 (fa : Option Addr) (fn fc : Nat) (l : List Sg) (keep count : Int) (w : World) (hv : IsL SL w (.slice fa fn fc) l) (hc : fn ≤ fc) (h0 : -9223372036854775808 ≤ keep) (h1 : keep ≤ 9223372036854775807) (h2 : -9223372036854775808 ≤ count) (h3 : count ≤ 9223372036854775807) :
    Calls Try.prog 4 #[.slice fa fn fc, .int .i64 keep, .int .i64 count] w fun e w' => e = .returned (.bool true) ∧ Below w.heap.size w w' := by
  obtain ⟨b, hb⟩ := few_or l
  have MY := Lib.hid (may11_any fa fn fc l b w hv hb)
  have AW := Lib.hid fun W : World => awake11 W
  have hfl := hv.len.1
  by_cases hf : Few l
  · obtain rfl := hb.2 hf
    by_cases hz : fn = 0
    · subst hz
      clear hv hb hf hfl
      go_enter Try.func4, Try.ntmps4
      go_wp2_with fail
      refine MY.out.mono ?_
      rintro e w1 ⟨rfl, rfl⟩
      go_wp2_with fail
      refine (AW.out _).mono ?_
      rintro e w2 ⟨rfl, b2⟩
      go_wp2_with fail
      go_ret
      exact ⟨rfl, b2⟩
    · obtain ⟨p, hp⟩ := pick_some l keep count
      have P := Lib.hid fun (W : World) (h : Below w.heap.size w W) => pick11_any fa fn fc l keep count p W (hv.keep h) hc hf.may hp h0 h1 h2 h3
      have hpl := hp.lt.2 (by omega)
      rw [← hfl] at hpl
      have HM := Lib.hid hf.may
      have hfe : ((fn : Int) == 0) = false := by simp; omega
      have hpe : decide ((fn : Int) ≤ (p : Int)) = false := by simp; omega
      have hpn : decide ((p : Int) < 0) = false := by simp
      obtain ⟨m, rfl⟩ : ∃ m, fn = m + 1 := ⟨fn - 1, by omega⟩
      have hm4 : m ≤ 300 := by have := hf.1; omega
      -- what is told of the sums
      have HA := Lib.hid (show p < m → ¬ (keep < sumZ (l.take m) - sumZ (l.take p) ∨ count < sumN (l.take m) + (l.getD m zero).n - sumN (l.take p)) from fun hpm => by
        rcases hp with ⟨rfl, _⟩ | ⟨_, a2, _⟩
        · simp at hfl
        · have := fun h => a2 ((much_at (l := l) (keep := keep) (count := count) (k := p) (by omega)).2 h)
          rw [← hfl, Nat.add_sub_cancel] at this
          have e : sumN l = sumN (l.take m) + (l.getD m zero).n := by
            rw [← sumN_take (by omega), hfl, List.take_length]
          rwa [e] at this)
      have HD := Lib.hid (show ∀ j, p = j + 1 → (keep < sumZ (l.take m) - sumZ (l.take j) ∨ count < sumN (l.take m) + (l.getD m zero).n - sumN (l.take j)) ∧ sumZ (l.take p) = sumZ (l.take j) + (l.getD j zero).z ∧ sumN (l.take p) = sumN (l.take j) + (l.getD j zero).n from fun j hj => by
        rcases hp with ⟨rfl, _⟩ | ⟨_, _, a3⟩
        · simp at hfl
        · have := (much_at (l := l) (keep := keep) (count := count) (k := j) (by omega)).1 (a3 j (by omega))
          rw [← hfl, Nat.add_sub_cancel] at this
          have e : sumN l = sumN (l.take m) + (l.getD m zero).n := by
            rw [← sumN_take (by omega), hfl, List.take_length]
          rw [e] at this
          subst hj
          exact ⟨this, sumZ_take (by omega), sumN_take (by omega)⟩)
      have HV := Lib.hid hv
      have HL := Lib.hid hfl
      obtain ⟨g, off, rfl, _⟩ := sg_at hv (Nat.lt_succ_self m)
      clear hv hb hf hp hfl
      go_enter Try.func4, Try.ntmps4
      go_wp2_with fail
      refine MY.out.mono ?_
      rintro e w1 ⟨rfl, rfl⟩
      go_wp2_with fail
      refine (P.out _ (Below.refl _ w)).mono ?_
      rintro e w2 ⟨rfl, b2⟩
      have HV2 := Lib.hid (HV.out.keep b2)
      have B2 := Lib.hid b2
      obtain ⟨g', off', e, c0, c1, c2⟩ := sg_at HV2.out (Nat.lt_succ_self m)
      obtain ⟨rfl, rfl⟩ : g = g' ∧ off = off' := by simpa using e
      clear b2 e
      have hmw : IntKind.i64.wrap (((m + 1 : Nat) : Int) - 1) = (m : Int) := by
        rw [show ((m + 1 : Nat) : Int) - 1 = (m : Int) from by omega]
        exact IntWalk.i64_in _ ⟨by omega, by omega⟩
      have hmw2 : IntKind.i64.wrap (m : Int) = (m : Int) := IntWalk.i64_in _ ⟨by omega, by omega⟩
      go_wp2_with fail
      go_quiet (fail)
      go_wp2_with fail
      obtain ⟨s1, s2, s3, s4⟩ := (HM.out.take p).sums
      obtain ⟨t1, t2, t3, t4⟩ := HM.out.at_ m
      go_loop [8, 9, 10] (fun x y i => ∃ k : Nat, p ≤ k ∧ k ≤ m ∧ x = .int .i64 (sumZ (l.take k) - sumZ (l.take p)) ∧ y = .int .i64 ((l.getD m zero).n + sumN (l.take k) - sumN (l.take p)) ∧ i = .int .i64 k) (fun _ _ i => m - (intOf i).toNat)
      case atStart => exact ⟨p, Nat.le_refl _, by omega, by simp, by simp, rfl⟩
      case round =>
        obtain ⟨k, hk, hkm, rfl, rfl, rfl⟩ := hrel
        obtain ⟨r1, r2, r3, r4⟩ := (HM.out.take k).sums
        by_cases hlt : k < m
        · obtain ⟨g', off', e, d0, d1, d2⟩ := sg_at HV2.out (show k < m + 1 by omega)
          obtain ⟨rfl, rfl⟩ : g = g' ∧ off = off' := by simpa using e
          have HSZ := Lib.hid (sumZ_take (l := l) (k := k) (by rw [← HL.out]; omega))
          have HSN := Lib.hid (sumN_take (l := l) (k := k) (by rw [← HL.out]; omega))
          obtain ⟨f1, f2, f3, f4⟩ := HM.out.at_ k
          clear e HA HD
          generalize sumZ (l.take k) = Z at *
          generalize sumN (l.take k) = N at *
          generalize sumZ (l.take p) = Zp at *
          generalize sumN (l.take p) = Np at *
          generalize l.getD k zero = f at *
          generalize l.getD m zero = fm at *
          have hkm1 : k < m + 1 := by omega
          go_wp2_with fail
          go_round
          case rel => exact ⟨k + 1, by omega, by omega, by rw [HSZ.out]; exact congrArg (Value.int .i64) (by omega), by rw [HSN.out]; exact congrArg (Value.int .i64) (by omega), by go_num⟩
          case measure => simp [intOf]; omega
        · obtain rfl : k = m := by omega
          have hc0 : p < k → decide (keep < sumZ (l.take k) - sumZ (l.take p)) = false ∧ decide (count < (l.getD k zero).n + sumN (l.take k) - sumN (l.take p)) = false := fun h => by
            obtain ⟨u1, u2⟩ := not_or.1 (HA.out h)
            exact ⟨decide_eq_false (by omega), decide_eq_false (by omega)⟩
          have HV3 := HV2
          have AW2 := AW
          by_cases hp0 : p = 0
          · subst hp0
            clear HA HD
            generalize sumZ (l.take k) = Z at *
            generalize sumN (l.take k) = N at *
            generalize sumZ (l.take 0) = Zp at *
            generalize sumN (l.take 0) = Np at *
            generalize l.getD k zero = fm at *
            by_cases hpk : 0 < k
            · obtain ⟨d2, d3⟩ := hc0 hpk
              have d1 : decide (((0 : Nat) : Int) < (k : Int)) = true := by simp; omega
              clear hc0
              go_wp2_with fail
              refine (AW.out _).mono ?_
              rintro e w3 ⟨rfl, b3⟩
              replace b3 := bel_trans2 (bel_drewN _) b3
              have B3 := Lib.hid (B2.out.trans (b3.mono B2.out.size))
              clear b3
              go_wp2_with fail
              go_ret
              exact ⟨rfl, B3.out⟩
            · obtain rfl : k = 0 := by omega
              clear hc0
              go_wp2_with fail
              refine (AW.out _).mono ?_
              rintro e w3 ⟨rfl, b3⟩
              replace b3 := bel_trans2 (bel_drewN _) b3
              have B3 := Lib.hid (B2.out.trans (b3.mono B2.out.size))
              clear b3
              go_wp2_with fail
              go_ret
              exact ⟨rfl, B3.out⟩
          · obtain ⟨j, rfl⟩ : ∃ j, p = j + 1 := ⟨p - 1, by omega⟩
            obtain ⟨hd, ez, en⟩ := HD.out j rfl
            obtain ⟨f1, f2, f3, f4⟩ := HM.out.at_ j
            obtain ⟨q1, q2, q3, q4⟩ := (HM.out.take j).sums
            have hjw : IntKind.i64.wrap (((j + 1 : Nat) : Int) - 1) = (j : Int) := by
              rw [show ((j + 1 : Nat) : Int) - 1 = (j : Int) from by omega]
              exact IntWalk.i64_in _ ⟨by omega, by omega⟩
            have HVW := Lib.hid fun (W : World) (b : Below w2.heap.size w2 W) => sg_at (HV2.out.keep b) (show j < k + 1 by omega)
            have hjk : j < k + 1 := by omega
            have hj0 : ((((j + 1 : Nat) : Int)) == 0) = false := by simp; omega
            clear HA HD
            generalize sumZ (l.take k) = Z at *
            generalize sumN (l.take k) = N at *
            generalize sumZ (l.take (j + 1)) = Zp at *
            generalize sumN (l.take (j + 1)) = Np at *
            generalize sumZ (l.take j) = Zj at *
            generalize sumN (l.take j) = Nj at *
            generalize l.getD k zero = fm at *
            generalize l.getD j zero = fj at *
            have e4 : decide (keep < Z - Zp + fj.z) = true ∨ decide (keep < Z - Zp + fj.z) = false ∧ decide (count < fm.n + N - Np + fj.n) = true := by
              by_cases h : keep < Z - Zj
              · exact .inl (by simp; omega)
              · exact .inr ⟨by simp; omega, by simp; omega⟩
            have hz1 : -9223372036854775808 ≤ Z - Zp + fj.z ∧ Z - Zp + fj.z ≤ 9223372036854775807 := by omega
            have hz2 : -9223372036854775808 ≤ fm.n + N - Np + fj.n ∧ fm.n + N - Np + fj.n ≤ 9223372036854775807 := by omega
            have hz3 : IntKind.i64.wrap (Z - Zp + fj.z) = Z - Zp + fj.z := IntWalk.i64_in _ hz1
            have hz4 : IntKind.i64.wrap (fm.n + N - Np + fj.n) = fm.n + N - Np + fj.n := IntWalk.i64_in _ hz2
            clear ez en hd hz1 hz2
            by_cases hpk : j + 1 < k
            · obtain ⟨d2, d3⟩ := hc0 hpk
              have d1 : decide ((((j + 1 : Nat) : Int)) < (k : Int)) = true := by simp; omega
              clear hc0
              go_wp2_with fail
              refine (AW.out _).mono ?_
              rintro e w3 ⟨rfl, b3⟩
              replace b3 := bel_trans2 (bel_drewN _) b3
              obtain ⟨g', off', e, x0, x1, x2⟩ := HVW.out _ b3
              obtain ⟨rfl, rfl⟩ : g = g' ∧ off = off' := by simpa using e
              have B3 := Lib.hid (B2.out.trans (b3.mono B2.out.size))
              clear b3 e
              rcases e4 with e4 | ⟨e4, e5⟩
              · go_wp2_with fail
                go_ret
                exact ⟨rfl, B3.out⟩
              · go_wp2_with fail
                go_ret
                exact ⟨rfl, B3.out⟩
            · obtain rfl : k = j + 1 := by omega
              clear hc0
              go_wp2_with fail
              refine (AW.out _).mono ?_
              rintro e w3 ⟨rfl, b3⟩
              replace b3 := bel_trans2 (bel_drewN _) b3
              obtain ⟨g', off', e, x0, x1, x2⟩ := HVW.out _ b3
              obtain ⟨rfl, rfl⟩ : g = g' ∧ off = off' := by simpa using e
              have B3 := Lib.hid (B2.out.trans (b3.mono B2.out.size))
              clear b3 e
              rcases e4 with e4 | ⟨e4, e5⟩
              · go_wp2_with fail
                go_ret
                exact ⟨rfl, B3.out⟩
              · go_wp2_with fail
                go_ret
                exact ⟨rfl, B3.out⟩
  · obtain rfl : b = false := by rw [← Bool.not_eq_true, hb]; exact hf
    clear hv hb hf hfl
    go_enter Try.func4, Try.ntmps4
    go_wp2_with fail
    refine MY.out.mono ?_
    rintro e w1 ⟨rfl, rfl⟩
    go_wp2_with fail
    refine (AW.out _).mono ?_
    rintro e w2 ⟨rfl, b2⟩
    go_wp2_with fail
    go_ret
    exact ⟨rfl, b2⟩

end Go.Proofs.Ytmbkgcmmajnidaa.Rts
