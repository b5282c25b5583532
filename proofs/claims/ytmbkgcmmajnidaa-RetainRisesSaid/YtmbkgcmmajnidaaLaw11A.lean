/-
  Layer 11's example, and which segments may be asked of.
-/
import Derived.Test.YtmbkgcmmajnidaaRetProg
namespace Go.Proofs.Ytmbkgcmmajnidaa.Rts
open Go.RowKit Go.Proofs.Ytmbkgcmmajnidaa.Rt

def exL : List Sg := [⟨0, 1, 10⟩, ⟨0, 1, 20⟩, ⟨0, 1, 30⟩, ⟨0, 1, 5⟩]
theorem exL_all {p : Sg → Prop} (h1 : p ⟨0, 1, 10⟩) (h2 : p ⟨0, 1, 20⟩) (h3 : p ⟨0, 1, 30⟩) (h4 : p ⟨0, 1, 5⟩) : ∀ x ∈ exL, p x := by
  intro x hx
  simp [exL] at hx
  rcases hx with rfl | rfl | rfl | rfl
  · exact h1
  · exact h2
  · exact h3
  · exact h4
theorem exL_may : May exL := ⟨by decide, exL_all ⟨by decide, by decide, by decide, by decide⟩ ⟨by decide, by decide, by decide, by decide⟩ ⟨by decide, by decide, by decide, by decide⟩ ⟨by decide, by decide, by decide, by decide⟩⟩
theorem exL_pick : IsPick exL 50 9 1 := .inr ⟨by decide, by unfold Much; decide, fun j hj => by
  obtain rfl : j = 0 := by omega
  unfold Much
  decide⟩
theorem exL_is (w : World) : IsL SL (w.alloc (.cells #[.int .i64 0, .int .i64 1, .int .i64 10, .int .i64 0, .int .i64 1, .int .i64 20, .int .i64 0, .int .i64 1, .int .i64 30, .int .i64 0, .int .i64 1, .int .i64 5] 29)) (.slice (some ⟨w.heap.size, 0, none⟩) 4 4) exL := by
  refine ⟨_, 4, rfl, by decide, exL_all ⟨by decide, by decide, by decide⟩ ⟨by decide, by decide, by decide⟩ ⟨by decide, by decide, by decide⟩ ⟨by decide, by decide, by decide⟩, .inr ⟨w.heap.size, 0, rfl, fun j u hj => ?_⟩⟩
  have := news_new w w.heap.size (SL.vals exL) 29 rfl j u hj
  rw [addr_plain] at this
  exact this

set_option maxRecDepth 100000 in
set_option maxHeartbeats 800000 in
theorem awake11 (w : World) : Calls Try.prog 7 #[] w fun e w' => e = .returned (.bool true) ∧ Below w.heap.size w w' := by
  have HB := Lib.hid ((Below.refl w.heap.size w).alloc (Nat.le_refl _) (.cells #[.int .i64 0, .int .i64 1, .int .i64 10, .int .i64 0, .int .i64 1, .int .i64 20, .int .i64 0, .int .i64 1, .int .i64 30, .int .i64 0, .int .i64 1, .int .i64 5] 29))
  have PK := Lib.hid fun (W : World) (h : IsL SL W (.slice (some ⟨w.heap.size, 0, none⟩) 4 4) exL) => pick11_any (some ⟨w.heap.size, 0, none⟩) 4 4 exL 50 9 1 W h (by decide) exL_may exL_pick (by decide) (by decide) (by decide) (by decide)
  have BY := Lib.hid fun (W : World) (h : IsL SL W (.slice (some ⟨w.heap.size, 0, none⟩) 4 4) exL) => bytes11_any (some ⟨w.heap.size, 0, none⟩) 4 4 exL W h (by decide) exL_may
  rw [show sumZ exL = 65 by decide] at BY
  have HI := Lib.hid (exL_is w)
  go_enter Try.func7, Try.ntmps7
  go_wp2_with fail
  refine (PK.out _ HI.out).mono ?_
  rintro e w1 ⟨rfl, b1⟩
  have HI1 := Lib.hid (HI.out.keep b1)
  have HB1 := Lib.hid (HB.out.trans (b1.mono HB.out.size))
  clear b1
  go_wp2_with fail
  refine (BY.out _ HI1.out).mono ?_
  rintro e w2 ⟨rfl, b2⟩
  have HB2 := Lib.hid (HB1.out.trans (b2.mono HB1.out.size))
  clear b2
  go_wp2_with fail
  go_ret
  exact ⟨rfl, HB2.out⟩

/-- Which are asked of: 300 at most. -/
def Few (l : List Sg) : Prop := l.length ≤ 300 ∧ ∀ x ∈ l, Fit x
theorem Few.may {l : List Sg} (h : Few l) : May l := ⟨by have := h.1; omega, h.2⟩
theorem fit_cases (x : Sg) : Fit x ∨ ¬ Fit x ∧ (x.n < 0 ∨ (0 ≤ x.n ∧ 1099511627776 < x.n) ∨ ((0 ≤ x.n ∧ x.n ≤ 1099511627776) ∧ x.z < 0) ∨ ((0 ≤ x.n ∧ x.n ≤ 1099511627776) ∧ 0 ≤ x.z ∧ 1099511627776 < x.z)) := by
  unfold Fit
  omega
theorem few_or (l : List Sg) : ∃ b : Bool, b = true ↔ Few l := by classical exact ⟨decide (Few l), decide_eq_true_iff⟩

set_option maxRecDepth 100000 in
set_option maxHeartbeats 1600000 in
theorem may11_any (fa : Option Addr) (fn fc : Nat) (l : List Sg) (b : Bool) (w : World) (hv : IsL SL w (.slice fa fn fc) l) (hb : b = true ↔ Few l) :
    Calls Try.prog 6 #[.slice fa fn fc] w fun e w' => e = .returned (.bool b) ∧ w = w' := by
  have hfl := hv.len.1
  have HV := Lib.hid hv
  by_cases h3 : 300 < fn
  · obtain rfl : b = false := by
      rw [← Bool.not_eq_true, hb]
      exact fun h => by have := h.1; omega
    have e1 : decide ((300 : Int) < (fn : Int)) = true := by simp; omega
    have hf2 : fn ≤ 9223372036854775807 := by have := hv.len; unfold maxLen at this; omega
    clear hb hv hfl
    go_enter Try.func6, Try.ntmps6
    go_wp2_with fail
    go_ret
    exact ⟨rfl, rfl⟩
  · have e1 : decide ((300 : Int) < (fn : Int)) = false := by simp; omega
    have HN := Lib.hid (show ∀ k, k < fn → ¬ Fit (l.getD k zero) → b = false from fun k hk hn => by
      rw [← Bool.not_eq_true, hb]
      exact fun h => hn (h.may.at_ k))
    have HY := Lib.hid (show (∀ k, k < fn → Fit (l.getD k zero)) → b = true from fun h => hb.2 ⟨by omega, fun x hx => by
      obtain ⟨i, hi, rfl⟩ := List.getElem_of_mem hx
      have := h i (by omega)
      rwa [show l.getD i zero = l[i] by simp [List.getD_eq_getElem?_getD, hi]] at this⟩)
    clear hb hv hfl
    go_enter Try.func6, Try.ntmps6
    go_wp2_with fail
    go_loop [3] (fun i => ∃ k : Nat, k ≤ fn ∧ i = .int .i64 k ∧ ∀ j, j < k → Fit (l.getD j zero)) (fun i => fn - (intOf i).toNat)
    case atStart => exact ⟨0, Nat.zero_le _, rfl, fun j hj => absurd hj (Nat.not_lt_zero j)⟩
    case round =>
      obtain ⟨k, hk, rfl, hall⟩ := hrel
      have HALL := Lib.hid hall
      clear hall
      by_cases hlt : k < fn
      · obtain ⟨g, off, rfl, c0, c1, c2⟩ := sg_at HV.out hlt
        rcases fit_cases (l.getD k zero) with hf | ⟨hnf, hw⟩
        · have HA := Lib.hid (show ∀ j, j < k + 1 → Fit (l.getD j zero) from fun j hj => by
            by_cases e : j = k
            · subst e; exact hf
            · exact HALL.out j (by omega))
          obtain ⟨f1, f2, f3, f4⟩ := hf
          generalize l.getD k zero = f at *
          have d1 : decide (f.n < 0) = false := by simp; omega
          have d2 : decide (1099511627776 < f.n) = false := by simp; omega
          have d3 : decide (f.z < 0) = false := by simp; omega
          have d4 : decide (1099511627776 < f.z) = false := by simp; omega
          go_wp2_with fail
          go_round
          case rel => exact ⟨k + 1, by omega, by go_num, HA.out⟩
          case measure => simp [intOf]; omega
        · have HB := Lib.hid (HN.out k hlt hnf)
          clear hnf
          generalize l.getD k zero = f at *
          rcases hw with h | ⟨h, h'⟩ | ⟨⟨h, h'⟩, h4⟩ | ⟨⟨h, h'⟩, h4, h5⟩
          · have d1 : decide (f.n < 0) = true := by simp; omega
            go_wp2_with fail
            go_ret
            exact ⟨by rw [HB.out]; rfl, rfl⟩
          · have d1 : decide (f.n < 0) = false := by simp; omega
            have d2 : decide (1099511627776 < f.n) = true := by simp; omega
            go_wp2_with fail
            go_ret
            exact ⟨by rw [HB.out]; rfl, rfl⟩
          · have d1 : decide (f.n < 0) = false := by simp; omega
            have d2 : decide (1099511627776 < f.n) = false := by simp; omega
            have d3 : decide (f.z < 0) = true := by simp; omega
            go_wp2_with fail
            go_ret
            exact ⟨by rw [HB.out]; rfl, rfl⟩
          · have d1 : decide (f.n < 0) = false := by simp; omega
            have d2 : decide (1099511627776 < f.n) = false := by simp; omega
            have d3 : decide (f.z < 0) = false := by simp; omega
            have d4 : decide (1099511627776 < f.z) = true := by simp; omega
            go_wp2_with fail
            go_ret
            exact ⟨by rw [HB.out]; rfl, rfl⟩
      · have HB := Lib.hid (HY.out fun j hj => HALL.out j (by omega))
        go_wp2_with fail
        go_ret
        exact ⟨by rw [HB.out]; rfl, rfl⟩

end Go.Proofs.Ytmbkgcmmajnidaa.Rts
