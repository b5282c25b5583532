/-
  What the program's Pick of layer 11 answers.
-/
import Derived.Test.YtmbkgcmmajnidaaRetSums
namespace Go.Proofs.Ytmbkgcmmajnidaa.Rts
open Go.RowKit Go.Proofs.Ytmbkgcmmajnidaa.Rt

theorem sumZ_mono {l : List Sg} (hm : May l) {j k : Nat} (h : j ≤ k) : sumZ (l.take j) ≤ sumZ (l.take k) := by
  have e := sumZ_append ((l.take k).take j) ((l.take k).drop j)
  rw [List.take_append_drop, List.take_take, Nat.min_eq_left h] at e
  have := ((hm.take k).drop j).sums
  omega
theorem sumN_mono {l : List Sg} (hm : May l) {j k : Nat} (h : j ≤ k) : sumN (l.take j) ≤ sumN (l.take k) := by
  have e := sumN_append ((l.take k).take j) ((l.take k).drop j)
  rw [List.take_append_drop, List.take_take, Nat.min_eq_left h] at e
  have := ((hm.take k).drop j).sums
  omega
/-- One segment more from the last one back: too much, then all ahead of it go; not too much, then it may stay. -/
theorem pick_step {l : List Sg} {keep count : Int} {p j : Nat} (hm : May l) (hp : IsPick l keep count p) (hj : j + 1 < l.length) (hpj : p ≤ j + 1) {b : Bool} (hb : b = true ↔ (keep < sumZ (l.take (l.length - 1)) - sumZ (l.take j) ∨ count < sumN l - sumN (l.take j))) :
    (b = true → p = j + 1) ∧ (b = false → p ≤ j) := by
  rcases hp with ⟨rfl, rfl⟩ | ⟨a1, a2, a3⟩
  · simp at hj
  · constructor
    · intro e
      have h := hb.1 e
      refine Nat.le_antisymm hpj (Nat.lt_of_not_le fun hle => a2 ?_)
      rw [much_at (by omega)]
      have := sumZ_mono hm hle
      have := sumN_mono hm hle
      omega
    · intro e
      refine Nat.le_of_not_lt fun hlt => ?_
      have h := a3 j hlt
      rw [much_at hj, ← hb] at h
      rw [e] at h
      cases h
/-- Sums from the last one back, one more; the last one's bytes don't count. -/
theorem pick_sums {l : List Sg} (hm : May l) {j m : Nat} (hj : j < m) (hl : m < l.length) :
    sumZ (l.take m) - sumZ (l.take j) = sumZ (l.take m) - sumZ (l.take (j + 1)) + (l.getD j zero).z ∧ sumN l - sumN (l.take j) = sumN l - sumN (l.take (j + 1)) + (l.getD j zero).n ∧
    -9223372036854775808 ≤ sumZ (l.take m) - sumZ (l.take (j + 1)) + (l.getD j zero).z ∧ sumZ (l.take m) - sumZ (l.take (j + 1)) + (l.getD j zero).z ≤ 9223372036854775807 ∧
    -9223372036854775808 ≤ sumN l - sumN (l.take (j + 1)) + (l.getD j zero).n ∧ sumN l - sumN (l.take (j + 1)) + (l.getD j zero).n ≤ 9223372036854775807 := by
  have e1 := sumZ_take (l := l) (k := j) (by omega)
  have e2 := sumN_take (l := l) (k := j) (by omega)
  obtain ⟨a1, a2, a3, a4⟩ := hm.sums
  obtain ⟨a5, a6, a7, a8⟩ := (hm.take m).sums
  obtain ⟨b1, b2, b3, b4⟩ := (hm.take (j + 1)).sums
  obtain ⟨c1, c2, c3, c4⟩ := hm.at_ j
  exact ⟨by omega, by omega, by omega, by omega, by omega, by omega⟩

set_option maxRecDepth 100000 in
set_option maxHeartbeats 1600000 in
theorem pick11_any (fa : Option Addr) (fn fc : Nat) (l : List Sg) (keep count : Int) (p : Nat) (w : World) (hv : IsL SL w (.slice fa fn fc) l) (_ : fn ≤ fc) (hm : May l) (hp : IsPick l keep count p) (_ : -9223372036854775808 ≤ keep) (_ : keep ≤ 9223372036854775807) (_ : -9223372036854775808 ≤ count) (_ : count ≤ 9223372036854775807) :
    Calls Try.prog 8 #[.slice fa fn fc, .int .i64 keep, .int .i64 count] w fun e w' => e = .returned (.int .i64 (p : Int)) ∧ Below w.heap.size w w' := by
  have hfl := hv.len.1
  have hl4 : fn ≤ 4096 := by rw [hfl]; exact hm.1
  have hpl := hp.lt
  rw [← hfl] at hpl
  by_cases hn : fn ≤ 1
  · obtain rfl : p = 0 := by omega
    have e1 : decide ((fn : Int) - 1 < 1) = true := by simp; omega
    clear hv hm hp hpl hfl
    go_enter Try.func8, Try.ntmps8
    go_wp2_with fail
    go_ret
    exact ⟨rfl, Below.refl _ _⟩
  · obtain ⟨m, hmm⟩ : ∃ m, fn - 1 = m := ⟨_, rfl⟩
    have hsub : (fn : Int) - 1 = (m : Int) := by omega
    have hm1 : m + 1 = fn := by omega
    have hmn : m < fn := by omega
    have hpm : p ≤ m := by omega
    have e1 : decide ((m : Int) < 1) = false := by simp; omega
    have ST := Lib.hid (show ∀ (j : Nat), j + 1 < fn → p ≤ j + 1 → ∀ b : Bool, (b = true ↔ (keep < sumZ (l.take m) - sumZ (l.take j) ∨ count < sumN l - sumN (l.take j))) → (b = true → p = j + 1) ∧ (b = false → p ≤ j) from fun j hj hpj b hb => by
      rw [← hmm, hfl] at hb
      exact pick_step hm hp (by omega) hpj hb)
    have SU := Lib.hid (show ∀ j, j < m → _ from fun j hj => pick_sums hm (j := j) (m := m) hj (by omega))
    have GB := Lib.hid (show ∀ j : Nat, _ from fun j => hm.at_ j)
    obtain ⟨g, off, rfl, c0, c1, c2⟩ := sg_at hv hmn
    have HL := Lib.hid (show sumN l - sumN (l.take m) = (l.getD m zero).n by
      have e := sumN_take (l := l) (k := m) (by omega)
      rw [List.take_of_length_le (by omega)] at e
      omega)
    obtain ⟨q1, q2, _, _⟩ := GB.out m
    have HV := Lib.hid hv
    have WI := Lib.hid with_any
    have AB := Lib.hid above_any
    unfold sgV at WI
    have N0 := Lib.hid (Sb.new w 0 (l.getD m zero).n)
    clear hv hm hp hpl hfl hmm hn
    generalize l.getD m zero = f0 at *
    go_enter Try.func8, Try.ntmps8
    go_upto_region 5 with (fail)
    generalize w.alloc _ = w1 at N0 ⊢
    clear c0 c1 c2
    go_wp2_with fail
    go_loopw [9] (fun i W => ∃ k : Nat, k ≤ m ∧ p ≤ k ∧ i = .int .i64 ((k : Int) - 1) ∧ Sb w (sumZ (l.take m) - sumZ (l.take k)) (sumN l - sumN (l.take k)) W) (fun i _ => (intOf i + 1).toNat)
    case atStart =>
      refine ⟨m, Nat.le_refl _, hpm, by go_num, ?_⟩
      rw [Int.sub_self, HL.out]
      exact N0.out
    case round =>
      obtain ⟨k, hk, hpk, rfl, hS⟩ := hrel
      rcases k with _ | j
      · obtain rfl : p = 0 := by omega
        have hw := Lib.hid hS.w
        clear hS
        go_wp2_with fail
        go_ret
        exact ⟨rfl, hw.out⟩
      · have hj1 : j < fn := by omega
        obtain ⟨g', off', e, c0, c1, c2⟩ := sg_at (HV.out.keep hS.w) hj1
        obtain ⟨rfl, rfl⟩ : g = g' ∧ off = off' := by simpa using e
        obtain ⟨e1, e2, p1, p2, p3, p4⟩ := SU.out j (by omega)
        rw [show (((j + 1 : Nat) : Int) - 1) = (j : Int) by omega]
        have hj0 : (0 : Int) ≤ (j : Int) := by omega
        obtain ⟨b0, b1, f0, f1⟩ := hS.b.cells
        have HS := Lib.hid hS
        have HZ := Lib.hid e1
        have HN := Lib.hid e2
        obtain ⟨x, hx⟩ : ∃ x : Bool, x = true ↔ (keep < sumZ (l.take m) - sumZ (l.take j) ∨ count < sumN l - sumN (l.take j)) := by
          classical exact ⟨decide _, decide_eq_true_iff⟩
        have SJ := Lib.hid (ST.out j (by omega) hpk x hx)
        rw [e1, e2] at hx
        have HX := Lib.hid hx
        clear hS e1 e2 e hx
        generalize sumZ (l.take m) - sumZ (l.take (j + 1)) = z at *
        generalize sumN l - sumN (l.take (j + 1)) = n at *
        generalize l.getD j zero = f at *
        go_wp2_with fail
        go_region_with (go_at_call 12; refine (WI.out _ _ _ _ p1 p2 p3 p4).mono ?_; rintro e w4 ⟨rfl, b4⟩; have K4 := Lib.hid (HS.out.drew.set b4 (z + f.z) (n + f.n)); obtain ⟨d0, d1, g0, g1⟩ := (HS.out.drew.keep b4).b.cells)
        all_goals
          clear c0 c1 c2 b0 b1 f0 f1
          generalize (World.setCell _ _ _).setCell _ _ = w5 at K4 ⊢
          obtain ⟨b0, b1, f0, f1⟩ := K4.out.b.cells
          go_wp2_with fail
          refine (AB.out _ _ _ _ x _ HX.out).mono ?_
          rintro e w6 ⟨rfl, b6⟩
          have K6 := Lib.hid (K4.out.keep b6)
          cases x with
          | true =>
            obtain rfl := SJ.out.1 rfl
            go_wp2_with fail
            go_ret
            exact ⟨by go_num, K6.out.w⟩
          | false =>
            have hpj := SJ.out.2 rfl
            go_wp2_with fail
            go_round
            case rel => exact ⟨j, by omega, hpj, rfl, by rw [HZ.out, HN.out]; exact K6.out⟩
            case measure => (simp [intOf]; done)

end Go.Proofs.Ytmbkgcmmajnidaa.Rts
