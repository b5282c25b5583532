/-
  What SegmentCut answers: true, whatever it is given; nothing that was there is changed.
-/
import Derived.Test.YtfodcgipdhppmaaLaw09R
import Derived.Test.YtfodcgipdhppmaaLaw09A
import Derived.BigQuiet
import Derived.Deep.DeepCutAuto
namespace Go.Proofs.Ytfodcgipdhppmaa
open Go.RowKit Go.Proofs.Ytfodcgipdhppmaa.Mks Go.Proofs.Ytfodcgipdhppmaa.Gp

set_option maxRecDepth 100000 in
set_option maxHeartbeats 3200000 in
theorem cut9 (v : Value) (ss : List ByteArray) (base : Int) (m : Nat) (w : World) (hv : IsStrs w v ss) (hb0 : 0 ≤ base) (hb1 : base ≤ 65535) (hm16 : m ≤ 65535) :
    Calls Try.prog 5 #[.int .u16 base, v, .int .u16 (m : Int)] w fun e w' => e = .returned (.bool true) ∧ Below w.heap.size w w' := by
  obtain ⟨fa, fn, fc, rfl⟩ : ∃ a n c, v = .slice a n c := by obtain ⟨a, c, h, _⟩ := hv; exact ⟨a, _, c, h⟩
  have HV := Lib.hid hv
  have HFL := Lib.hid (strsV_len hv).1
  have RW := Lib.hid (row9_any _ ss base w hv hb0 hb1)
  have AW := Lib.hid fun W : World => awake09 W
  clear hv
  go_enter Try.func5, Try.ntmps5
  go_wp2_with fail
  refine RW.out.mono ?_
  rintro e w1 (⟨hfit, ve, rfl, hve, b1⟩ | ⟨hno, rfl, b1⟩)
  · have HB1 := Lib.hid b1
    have hlen : ss.length ≤ 20 := hfit.1
    have hall := fun i (hi : i < ss.length) => hfit.2 _ (getD_mem hi)
    have hn : fn ≤ 20 := by rw [HFL.out]; exact hlen
    have hle := endF_le hb0 hb1 (n := ss.length) (by omega) hall
    have HCUT := Lib.hid fun (k n : Nat) (hk : k ≤ ss.length) (h1 : endF base ss k ≤ n) (h2 : n ≤ endF base ss ss.length) (h3 : k < ss.length → n < endF base ss (k + 1)) => full_cut hb0 hb1 (n := ss.length) (k := k) (m := n) (by omega) hall hk h1 h2 h3
    obtain ⟨va, vn, vc, rfl⟩ : ∃ a n c, ve = .slice a n c := by obtain ⟨a, c, h, _⟩ := hve; exact ⟨a, _, c, h⟩
    have hvn : vn = fn + 1 := by have := hve.len.1; rw [ends_len] at this; rw [HFL.out]; exact this
    subst hvn
    have HE := Lib.hid hve
    obtain ⟨R, hR⟩ : ∃ R, Rp.rowB (recF base ss ss.length) = R := ⟨_, rfl⟩
    have HRL := Lib.hid (show endF base ss ss.length = R.length from by rw [← hR]; rfl)
    have hRl : R.length ≤ 2000 := by rw [← HRL.out]; omega
    rw [hR] at HCUT ⊢
    clear hR hle hfit hlen hve b1 RW hall
    go_wp2_with fail
    obtain ⟨n, hnn⟩ : ∃ n : Nat, m % (R.length + 1) = n := ⟨_, rfl⟩
    have hnR : n ≤ R.length := by rw [← hnn]; have := Nat.mod_lt m (show 0 < R.length + 1 by omega); omega
    rw [show (m : Int) % ((R.length : Int) + 1) = (n : Int) from by rw [← hnn]; simp]
    clear hnn
    go_loop [11] (fun i => ∃ k : Nat, k ≤ fn ∧ i = .int .i64 k ∧ endF base ss k ≤ n) (fun i => fn - (intOf i).toNat)
    case atStart => exact ⟨0, Nat.zero_le _, rfl, Nat.zero_le _⟩
    case round =>
      obtain ⟨k, hk, rfl, hle⟩ := hrel
      obtain ⟨g, off, rfl, ck⟩ := nl_at HE.out (show k < fn + 1 by omega)
      rw [ends_at base ss (show k < ss.length + 1 by rw [← HFL.out]; omega)] at ck
      have hgo : (k < fn ∧ w1.cell? ⟨g, off + (k + 1), none⟩ = some (.int .i64 (endF base ss (k + 1) : Nat)) ∧ endF base ss (k + 1) ≤ n) ∨
          ((k < fn ∧ w1.cell? ⟨g, off + (k + 1), none⟩ = some (.int .i64 (endF base ss (k + 1) : Nat)) ∧ n < endF base ss (k + 1)) ∨ k = fn) := by
        by_cases hlt : k < fn
        · obtain ⟨g', off', e, c0⟩ := nl_at HE.out (show k + 1 < fn + 1 by omega)
          obtain ⟨rfl, rfl⟩ : g = g' ∧ off = off' := by simpa using e
          rw [ends_at base ss (show k + 1 < ss.length + 1 by rw [← HFL.out]; omega)] at c0
          rcases Nat.lt_or_ge n (endF base ss (k + 1)) with h | h
          · exact .inr (.inl ⟨hlt, c0, h⟩)
          · exact .inl ⟨hlt, c0, h⟩
        · exact .inr (.inr (by omega))
      rcases hgo with ⟨hlt, c0, hgo⟩ | hstop
      · have i1 : (k : Int) + 1 < (fn : Int) + 1 := by omega
        have HLE := Lib.hid hgo
        have i3 : ((endF base ss (k + 1) : Nat) : Int) ≤ (n : Int) := by omega
        clear hle hgo
        generalize endF base ss (k + 1) = q at c0 i3
        go_wp2_with fail
        go_round
        case rel => exact ⟨k + 1, by omega, by go_num, HLE.out⟩
        case measure => simp [intOf]; omega
      · have hcu := HCUT.out k n (by rw [← HFL.out]; exact hk) hle (by rw [HRL.out]; exact hnR) (fun h => by
          rw [← HFL.out] at h
          rcases hstop with ⟨_, _, h1⟩ | h1
          · exact h1
          · omega)
        have SC := fun W : World => scan9_any ⟨(R.take n).toArray⟩ base W (by rw [size_mk_list, List.length_take]; omega) (by omega) (by omega)
        rw [show (⟨(R.take n).toArray⟩ : ByteArray).data.toList = R.take n from rfl, hcu] at SC
        unfold ScanOut at SC
        dsimp only at SC
        rw [withAt_fst] at SC
        have hX := ext_take R n
        obtain ⟨T, hT⟩ : ∃ T : ByteArray, (⟨(R.take n).toArray⟩ : ByteArray) = T := ⟨_, rfl⟩
        rw [hT] at SC hX
        have HX := Lib.hid hX
        clear hX hT hcu
        have hq1 : ((endF base ss k : Nat) : Int) ≤ (n : Int) := by omega
        have hkl : (k : Int) < (fn : Int) + 1 := by omega
        clear hle
        have hg2 : (k < fn ∧ ∃ q2 : Nat, w1.cell? ⟨g, off + (k + 1), none⟩ = some (.int .i64 (q2 : Nat)) ∧ n < q2) ∨ fn ≤ k := by
          rcases hstop with ⟨h1, h2, h3⟩ | h1
          · exact .inl ⟨h1, _, h2, h3⟩
          · exact .inr (by omega)
        have HRI := Lib.hid fun (i : Nat) (hi : i < k) => recF_at base ss hi
        have HRN := Lib.hid (recF_len base ss k)
        clear hstop
        generalize endF base ss k = q at *
        generalize recF base ss k = rs at *
        have hgl := block_lt_of_cell ck
        by_cases heq : n = q
        · subst heq
          rw [if_pos rfl] at SC
          replace SC := Lib.hid SC
          rcases hg2 with ⟨hlt, q2, c0, hgt⟩ | hkf
          · skip
            have i1 : (k : Int) + 1 < (fn : Int) + 1 := by omega
            have i3 : decide ((q2 : Int) ≤ (n : Int)) = false := by simp; omega
            have i4 : (n : Int) < (q2 : Int) := by omega
            clear hgt
            go_wp2_with fail
            rw [HX.out]
            refine (SC.out _).mono ?_
            rintro e w2 ⟨v2, rfl, hv2, b2⟩
            obtain ⟨ra, rn, rp, rfl⟩ : ∃ a n c, v2 = .slice a n c := by obtain ⟨a, c, h, _⟩ := hv2; exact ⟨a, _, c, h⟩
            obtain rfl : rn = k := by rw [(recs_len hv2).1, HRN.out]
            have HR2 := Lib.hid hv2
            have B2 := Lib.hid (HB1.out.trans (b2.mono HB1.out.size))
            have ck2 := (b2.cell (p := ⟨g, off + rn, none⟩) hgl).trans ck
            clear b2 hv2 SC
            dsimp only
            go_wp2_with fail
            go_loopw [15] (fun j wi => ∃ i q : Nat, i ≤ rn ∧ j = .int .i64 i ∧ wi = w2.drewN q) (fun j _ => rn - (intOf j).toNat)
            case atStart => exact ⟨0, 0, Nat.zero_le _, rfl, rfl⟩
            case round =>
              obtain ⟨i, q0, hi, rfl, rfl⟩ := hrel
              by_cases hil : i < rn
              · obtain ⟨hfe, g2, o2, rfl, d0, d1, d2⟩ := rec_at HR2.out hil
                rw [HRI.out i hil] at d0 d1 d2
                obtain ⟨hfe2, g3, o3, rfl, d3⟩ := str_at (HV.out.below B2.out (Nat.le_refl _)) (show i < fn by omega)
                unfold rc at d0 d1 d2
                dsimp only at d0 d1 d2
                clear hfe hfe2
                generalize ss.getD i ByteArray.empty = s at *
                go_wp2_with fail
                go_quiet (fail)
                go_wp2_with fail
                go_roundw
                case rel => exact ⟨i + 1, _, by omega, by go_num, rfl⟩
                case measure => simp [intOf]; omega
              · go_wp2_with fail
                refine (AW.out _).mono ?_
                rintro e w9 ⟨rfl, b9⟩
                go_wp2_with fail
                go_ret
                exact ⟨rfl, B2.out.trans ((bel_trans2 (bel_drewN q0) b9).mono B2.out.size)⟩
          · skip
            have i1 : decide ((k : Int) + 1 < (fn : Int) + 1) = false := by simp; omega
            have i2 : (fn : Int) ≤ (k : Int) := by omega
            go_wp2_with fail
            rw [HX.out]
            refine (SC.out _).mono ?_
            rintro e w2 ⟨v2, rfl, hv2, b2⟩
            obtain ⟨ra, rn, rp, rfl⟩ : ∃ a n c, v2 = .slice a n c := by obtain ⟨a, c, h, _⟩ := hv2; exact ⟨a, _, c, h⟩
            obtain rfl : rn = k := by rw [(recs_len hv2).1, HRN.out]
            have HR2 := Lib.hid hv2
            have B2 := Lib.hid (HB1.out.trans (b2.mono HB1.out.size))
            have ck2 := (b2.cell (p := ⟨g, off + rn, none⟩) hgl).trans ck
            clear b2 hv2 SC
            dsimp only
            go_wp2_with fail
            go_loopw [15] (fun j wi => ∃ i q : Nat, i ≤ rn ∧ j = .int .i64 i ∧ wi = w2.drewN q) (fun j _ => rn - (intOf j).toNat)
            case atStart => exact ⟨0, 0, Nat.zero_le _, rfl, rfl⟩
            case round =>
              obtain ⟨i, q0, hi, rfl, rfl⟩ := hrel
              by_cases hil : i < rn
              · obtain ⟨hfe, g2, o2, rfl, d0, d1, d2⟩ := rec_at HR2.out hil
                rw [HRI.out i hil] at d0 d1 d2
                obtain ⟨hfe2, g3, o3, rfl, d3⟩ := str_at (HV.out.below B2.out (Nat.le_refl _)) (show i < fn by omega)
                unfold rc at d0 d1 d2
                dsimp only at d0 d1 d2
                clear hfe hfe2
                generalize ss.getD i ByteArray.empty = s at *
                go_wp2_with fail
                go_quiet (fail)
                go_wp2_with fail
                go_roundw
                case rel => exact ⟨i + 1, _, by omega, by go_num, rfl⟩
                case measure => simp [intOf]; omega
              · go_wp2_with fail
                refine (AW.out _).mono ?_
                rintro e w9 ⟨rfl, b9⟩
                go_wp2_with fail
                go_ret
                exact ⟨rfl, B2.out.trans ((bel_trans2 (bel_drewN q0) b9).mono B2.out.size)⟩
        · rw [if_neg heq] at SC
          replace SC := Lib.hid SC
          have hne : ((q : Int) == (n : Int)) = false := by simp; omega
          clear heq
          rcases hg2 with ⟨hlt, q2, c0, hgt⟩ | hkf
          · skip
            have i1 : (k : Int) + 1 < (fn : Int) + 1 := by omega
            have i3 : decide ((q2 : Int) ≤ (n : Int)) = false := by simp; omega
            have i4 : (n : Int) < (q2 : Int) := by omega
            clear hgt
            go_wp2_with fail
            rw [HX.out]
            refine (SC.out _).mono ?_
            rintro e w2 ⟨v2, rfl, hv2, b2⟩
            obtain ⟨ra, rn, rp, rfl⟩ : ∃ a n c, v2 = .slice a n c := by obtain ⟨a, c, h, _⟩ := hv2; exact ⟨a, _, c, h⟩
            obtain rfl : rn = k := by rw [(recs_len hv2).1, HRN.out]
            have HR2 := Lib.hid hv2
            have B2 := Lib.hid (HB1.out.trans (b2.mono HB1.out.size))
            have ck2 := (b2.cell (p := ⟨g, off + rn, none⟩) hgl).trans ck
            clear b2 hv2 SC
            dsimp only
            go_wp2_with fail
            go_loopw [15] (fun j wi => ∃ i q : Nat, i ≤ rn ∧ j = .int .i64 i ∧ wi = w2.drewN q) (fun j _ => rn - (intOf j).toNat)
            case atStart => exact ⟨0, 0, Nat.zero_le _, rfl, rfl⟩
            case round =>
              obtain ⟨i, q0, hi, rfl, rfl⟩ := hrel
              by_cases hil : i < rn
              · obtain ⟨hfe, g2, o2, rfl, d0, d1, d2⟩ := rec_at HR2.out hil
                rw [HRI.out i hil] at d0 d1 d2
                obtain ⟨hfe2, g3, o3, rfl, d3⟩ := str_at (HV.out.below B2.out (Nat.le_refl _)) (show i < fn by omega)
                unfold rc at d0 d1 d2
                dsimp only at d0 d1 d2
                clear hfe hfe2
                generalize ss.getD i ByteArray.empty = s at *
                go_wp2_with fail
                go_quiet (fail)
                go_wp2_with fail
                go_roundw
                case rel => exact ⟨i + 1, _, by omega, by go_num, rfl⟩
                case measure => simp [intOf]; omega
              · go_wp2_with fail
                refine (AW.out _).mono ?_
                rintro e w9 ⟨rfl, b9⟩
                go_wp2_with fail
                go_ret
                exact ⟨rfl, B2.out.trans ((bel_trans2 (bel_drewN q0) b9).mono B2.out.size)⟩
          · skip
            have i1 : decide ((k : Int) + 1 < (fn : Int) + 1) = false := by simp; omega
            have i2 : (fn : Int) ≤ (k : Int) := by omega
            go_wp2_with fail
            rw [HX.out]
            refine (SC.out _).mono ?_
            rintro e w2 ⟨v2, rfl, hv2, b2⟩
            obtain ⟨ra, rn, rp, rfl⟩ : ∃ a n c, v2 = .slice a n c := by obtain ⟨a, c, h, _⟩ := hv2; exact ⟨a, _, c, h⟩
            obtain rfl : rn = k := by rw [(recs_len hv2).1, HRN.out]
            have HR2 := Lib.hid hv2
            have B2 := Lib.hid (HB1.out.trans (b2.mono HB1.out.size))
            have ck2 := (b2.cell (p := ⟨g, off + rn, none⟩) hgl).trans ck
            clear b2 hv2 SC
            dsimp only
            go_wp2_with fail
            go_loopw [15] (fun j wi => ∃ i q : Nat, i ≤ rn ∧ j = .int .i64 i ∧ wi = w2.drewN q) (fun j _ => rn - (intOf j).toNat)
            case atStart => exact ⟨0, 0, Nat.zero_le _, rfl, rfl⟩
            case round =>
              obtain ⟨i, q0, hi, rfl, rfl⟩ := hrel
              by_cases hil : i < rn
              · obtain ⟨hfe, g2, o2, rfl, d0, d1, d2⟩ := rec_at HR2.out hil
                rw [HRI.out i hil] at d0 d1 d2
                obtain ⟨hfe2, g3, o3, rfl, d3⟩ := str_at (HV.out.below B2.out (Nat.le_refl _)) (show i < fn by omega)
                unfold rc at d0 d1 d2
                dsimp only at d0 d1 d2
                clear hfe hfe2
                generalize ss.getD i ByteArray.empty = s at *
                go_wp2_with fail
                go_quiet (fail)
                go_wp2_with fail
                go_roundw
                case rel => exact ⟨i + 1, _, by omega, by go_num, rfl⟩
                case measure => simp [intOf]; omega
              · go_wp2_with fail
                refine (AW.out _).mono ?_
                rintro e w9 ⟨rfl, b9⟩
                go_wp2_with fail
                go_ret
                exact ⟨rfl, B2.out.trans ((bel_trans2 (bel_drewN q0) b9).mono B2.out.size)⟩
  · have B1 := Lib.hid b1
    clear b1 hno
    go_wp2_with fail
    refine (AW.out _).mono ?_
    rintro e w2 ⟨rfl, b2⟩
    go_wp2_with fail
    go_ret
    exact ⟨rfl, B1.out.trans (b2.mono B1.out.size)⟩

end Go.Proofs.Ytfodcgipdhppmaa
