/-
  What the program's Right of layer 10 answers.
-/
import Derived.Test.YtcogeflljcefjaaManVal
namespace Go.Proofs.Ytcogeflljcefjaa.Mfs
open Go.RowKit Go.Proofs.Ytcogeflljcefjaa.Qm

/-- May a manifest have these offsets? -/
def HaveOk (l : List Int) : Prop := 1 ≤ l.length ∧ l.length ≤ 64 ∧ ∀ i, i < l.length → AtOk l i
/-- May a snapshot be? -/
def SnapOk (f z c : Int) : Prop := (f = 0 ∧ z = 0 ∧ c = 0) ∨ (f ≠ 0 ∧ 1 ≤ z ∧ z ≤ 65536)
instance (f z c : Int) : Decidable (SnapOk f z c) := by unfold SnapOk; infer_instance
/-- The one ahead. -/
def lastOf (l : List Int) : Nat → Int
  | 0 => -1
  | k + 1 => l.getD k 0
/-- What a round finds. -/
theorem have_cases (l : List Int) (k : Nat) (h : ∀ j, j < k → AtOk l j) :
    (¬ AtOk l k ∧ (l.getD k 0 ≤ lastOf l k ∨ (lastOf l k < l.getD k 0 ∧ 1099511627776 < l.getD k 0))) ∨ (AtOk l k ∧ lastOf l k < l.getD k 0 ∧ l.getD k 0 ≤ 1099511627776) := by
  have hlast : -1 ≤ lastOf l k ∧ (0 < k → lastOf l k = l.getD (k - 1) 0) ∧ (k = 0 → lastOf l k = -1) := by
    cases k with
    | zero => exact ⟨by show (-1 : Int) ≤ -1; omega, by omega, fun _ => rfl⟩
    | succ k => exact ⟨by have := (h k (by omega)).1; show (-1 : Int) ≤ l.getD k 0; omega, fun _ => rfl, by omega⟩
  obtain ⟨h0, h1, h2⟩ := hlast
  by_cases c1 : l.getD k 0 ≤ lastOf l k
  · refine .inl ⟨fun ⟨a0, _, a2⟩ => ?_, .inl c1⟩
    by_cases hk : k = 0
    · have := h2 hk; omega
    · have := a2 (by omega); have := h1 (by omega); omega
  · by_cases c2 : 1099511627776 < l.getD k 0
    · exact .inl ⟨fun ⟨_, a1, _⟩ => by omega, .inr ⟨by omega, c2⟩⟩
    · exact .inr ⟨⟨by omega, by omega, fun hk => by have := h1 hk; omega⟩, by omega, by omega⟩

set_option maxRecDepth 100000 in
set_option maxHeartbeats 1600000 in
theorem mayHave_any (fa : Option Addr) (fn fc : Nat) (l : List Int) (b : Bool) (w : World) (hv : IsL IL w (.slice fa fn fc) l) (hb : b = true ↔ HaveOk l) :
    Calls Try.prog 24 #[.slice fa fn fc] w fun e w' => e = .returned (.bool b) ∧ w = w' := by
  have HV := Lib.hid hv
  have HFL := Lib.hid hv.len.1
  have HN := Lib.hid (show ¬ HaveOk l → b = false from fun h => by rw [← Bool.not_eq_true, hb]; exact h)
  have HY := Lib.hid (show HaveOk l → b = true from hb.2)
  clear hv hb
  by_cases g3 : (fn : Int) < 1
  · have HF := Lib.hid (HN.out fun h => by have := h.1; rw [← HFL.out] at this; omega)
    go_enter Try.func24, Try.ntmps24
    go_wp2_with fail
    go_ret
    exact ⟨by rw [HF.out]; rfl, rfl⟩
  have e3 : decide ((fn : Int) < 1) = false := by simp; omega
  by_cases g4 : (64 : Int) < (fn : Int)
  · have HF := Lib.hid (HN.out fun h => by have := h.2.1; rw [← HFL.out] at this; omega)
    go_enter Try.func24, Try.ntmps24
    go_wp2_with fail
    go_ret
    exact ⟨by rw [HF.out]; rfl, rfl⟩
  have e4 : decide ((64 : Int) < (fn : Int)) = false := by simp; omega
  go_enter Try.func24, Try.ntmps24
  go_wp2_with fail
  go_loop [3, 16] (fun z i => ∃ k : Nat, k ≤ fn ∧ i = .int .i64 k ∧ z = .int .i64 (lastOf l k) ∧ ∀ j, j < k → AtOk l j) (fun _ i => fn - (intOf i).toNat)
  case atStart => exact ⟨0, Nat.zero_le _, rfl, rfl, fun j hj => absurd hj (Nat.not_lt_zero j)⟩
  case round =>
    obtain ⟨k, hk, rfl, rfl, hall⟩ := hrel
    have HALL := Lib.hid hall
    by_cases hlt : k < fn
    · obtain ⟨g, off, rfl, y0⟩ := il_at HV.out hlt
      have HLS := Lib.hid (show lastOf l (k + 1) = l.getD k 0 from rfl)
      rcases have_cases l k hall with ⟨hno, hbad⟩ | ⟨hyes, i1, i2⟩
      · have HF := Lib.hid (HN.out fun h => hno (h.2.2 k (by rw [← HFL.out]; exact hlt)))
        clear hno hall
        generalize l.getD k 0 = f at *
        generalize lastOf l k = la at *
        rcases hbad with i1 | ⟨i1, i2⟩
        · go_wp2_with fail
          go_ret
          exact ⟨by rw [HF.out]; rfl, rfl⟩
        · have q1 : decide (f ≤ la) = false := by simpa using i1
          go_wp2_with fail
          go_ret
          exact ⟨by rw [HF.out]; rfl, rfl⟩
      · have GY := Lib.hid (all_next hall hyes)
        clear hyes hall
        generalize l.getD k 0 = f at *
        generalize lastOf l k = la at *
        have q1 : decide (f ≤ la) = false := by simpa using i1
        have q2 : decide ((1099511627776 : Int) < f) = false := by simpa using i2
        go_wp2_with fail
        go_round
        case rel => exact ⟨k + 1, by omega, by go_num, by rw [HLS.out], GY.out⟩
        case measure => simp [intOf]; omega
    · have HF := Lib.hid (HY.out ⟨by rw [← HFL.out]; omega, by rw [← HFL.out]; omega, fun i hi => HALL.out i (by rw [← HFL.out] at hi; omega)⟩)
      clear hall
      go_wp2_with fail
      go_ret
      exact ⟨by rw [HF.out]; rfl, rfl⟩

set_option maxRecDepth 100000 in
set_option maxHeartbeats 800000 in
theorem maySnap_any (f z c : Int) (w : World) :
    Calls Try.prog 25 #[.int .i64 f, .int .i64 z, .int .u32 c] w fun e w' => e = .returned (.bool (decide (SnapOk f z c))) ∧ w = w' := by
  by_cases h0 : f = 0
  · subst h0
    have HV := Lib.hid (show decide (SnapOk 0 z c) = (decide (z = 0) && decide (c = 0)) by unfold SnapOk; simp)
    by_cases h1 : z = 0
    · subst h1
      have HW := Lib.hid (show (decide (c = 0)) = (c == 0) from by cases h : decide (c = 0) <;> simp_all)
      go_enter Try.func25, Try.ntmps25
      go_wp2_with fail
      go_ret
      refine ⟨?_, rfl⟩
      rw [HV.out, HW.out]
      rfl
    · have q1 : (z == 0) = false := by simpa using h1
      have HW := Lib.hid (show decide (SnapOk 0 z c) = false by rw [HV.out]; simp [h1])
      clear h1
      go_enter Try.func25, Try.ntmps25
      go_wp2_with fail
      go_ret
      exact ⟨by rw [HW.out]; rfl, rfl⟩
  · have q0 : (f == 0) = false := by simpa using h0
    have HV := Lib.hid (show decide (SnapOk f z c) = (decide (1 ≤ z) && decide (z ≤ 65536)) by unfold SnapOk; simp [h0])
    clear h0
    by_cases h1 : 1 ≤ z
    · have HW := Lib.hid (show decide (SnapOk f z c) = decide (z ≤ 65536) by rw [HV.out]; simp [h1])
      go_enter Try.func25, Try.ntmps25
      go_wp2_with fail
      go_ret
      exact ⟨by rw [HW.out]; rfl, rfl⟩
    · have q1 : decide (1 ≤ z) = false := by simpa using h1
      have HW := Lib.hid (show decide (SnapOk f z c) = false by rw [HV.out]; simp [h1])
      clear h1
      go_enter Try.func25, Try.ntmps25
      go_wp2_with fail
      go_ret
      exact ⟨by rw [HW.out]; rfl, rfl⟩

theorem ok_parts (m : Mn) : Ok m ↔ 1 ≤ m.v ∧ m.v ≤ 1099511627776 ∧ HaveOk m.l ∧ SnapOk (m.l.getD 0 0) m.z m.c ∧ 0 ≤ m.c ∧ m.c < 4294967296 :=
  ⟨fun h => ⟨h.v0, h.v1, ⟨h.n0, h.n1, h.at_⟩, h.z, h.c⟩, fun ⟨a, b, ⟨c, d, e⟩, f, g⟩ => ⟨a, b, c, d, e, f, g⟩⟩

set_option maxRecDepth 100000 in
set_option maxHeartbeats 1600000 in
theorem right10_any (fa : Option Addr) (fn fc : Nat) (m : Mn) (b : Bool) (w : World) (hv : IsL IL w (.slice fa fn fc) m.l) (hB : MnB m) (hb : b = true ↔ Ok m) :
    Calls Try.prog 11 #[mnVal fa fn fc m] w fun e w' => e = .returned (.bool b) ∧ Below w.heap.size w w' := by
  obtain ⟨_, _, c0, c1⟩ := hB
  have HFL := Lib.hid hv.len.1
  have HN := Lib.hid (show ¬ Ok m → b = false from fun h => by rw [← Bool.not_eq_true, hb]; exact h)
  have HY := Lib.hid (show Ok m → b = true from hb.2)
  clear hb
  have HA := Lib.hid ((Below.refl w.heap.size w).alloc (Nat.le_refl _) (.cells #[.int .i64 m.v, .slice fa fn fc, .int .i64 m.z, .int .u32 m.c] 25))
  obtain ⟨x0, x1, x2, x3⟩ := cells4 (heap_alloc_new w (.cells #[.int .i64 m.v, .slice fa fn fc, .int .i64 m.z, .int .u32 m.c] 25))
  have HVA := Lib.hid (hv.keep HA.out)
  have HOP := Lib.hid (ok_parts m)
  obtain ⟨mv, ml, mz, mc⟩ := m
  unfold mnVal
  dsimp only at *
  by_cases g1 : 1 ≤ mv
  case neg =>
    have HF := Lib.hid (HN.out fun h => g1 h.v0)
    have e1 : decide (1 ≤ mv) = false := by simpa using g1
    clear hv g1
    go_enter Try.func11, Try.ntmps11
    go_wp2_with fail
    go_quiet (fail)
    go_wp2_with fail
    go_ret
    exact ⟨by rw [HF.out]; rfl, HA.out.trans ((bel_drewN _).mono HA.out.size)⟩
  by_cases g2 : mv ≤ 1099511627776
  case neg =>
    have HF := Lib.hid (HN.out fun h => g2 h.v1)
    have e2 : decide (mv ≤ 1099511627776) = false := by simpa using g2
    clear hv g2
    go_enter Try.func11, Try.ntmps11
    go_wp2_with fail
    go_quiet (fail)
    go_wp2_with fail
    go_ret
    exact ⟨by rw [HF.out]; rfl, HA.out.trans ((bel_drewN _).mono HA.out.size)⟩
  by_cases g3 : HaveOk ml
  case neg =>
    have HF := Lib.hid (HN.out fun h => g3 (HOP.out.1 h).2.2.1)
    have C := Lib.hid fun (W : World) (hW : IsL IL W (.slice fa fn fc) ml) => mayHave_any fa fn fc ml false W hW ⟨(fun h => by cases h), fun h => absurd h g3⟩
    clear hv g3
    go_enter Try.func11, Try.ntmps11
    go_wp2_with fail
    go_quiet ((go_at_call 24; exact Calls.quiet_of_same ((C.out _ (HVA.out.keep (bel_drewN _))).mono fun _ _ ⟨he, hw⟩ => ⟨he, hw.symm⟩)))
    go_wp2_with fail
    go_ret
    exact ⟨by rw [HF.out]; rfl, HA.out.trans ((bel_drewN _).mono HA.out.size)⟩
  have C := Lib.hid fun (W : World) (hW : IsL IL W (.slice fa fn fc) ml) => mayHave_any fa fn fc ml true W hW ⟨fun _ => g3, fun _ => rfl⟩
  obtain ⟨g, off, rfl, y0⟩ := il_at HVA.out (show 0 < fn by rw [HFL.out]; exact g3.1)
  rw [Nat.add_zero] at y0
  have D := Lib.hid fun W : World => maySnap_any (ml.getD 0 0) mz mc W
  have HD := Lib.hid (show decide (SnapOk (ml.getD 0 0) mz mc) = b by
    by_cases h : SnapOk (ml.getD 0 0) mz mc
    · rw [HY.out (HOP.out.2 ⟨g1, g2, g3, h, c0, c1⟩)]; simpa using h
    · rw [HN.out fun hk => h (HOP.out.1 hk).2.2.2.1]; simpa using h)
  rw [HD.out] at D
  have hfn : 0 < fn := by rw [HFL.out]; exact g3.1
  generalize ml.getD 0 0 = f at *
  clear hv g3 HD
  go_enter Try.func11, Try.ntmps11
  go_wp2_with fail
  go_quiet (first | (go_at_call 24; exact Calls.quiet_of_same ((C.out _ (HVA.out.keep (bel_drewN _))).mono fun _ _ ⟨he, hw⟩ => ⟨he, hw.symm⟩)) | (go_at_call 25; exact Calls.quiet_of_same ((D.out _).mono fun _ _ ⟨he, hw⟩ => ⟨he, hw.symm⟩)))
  go_wp2_with fail
  go_ret
  exact ⟨rfl, HA.out.trans ((bel_drewN _).mono HA.out.size)⟩

end Go.Proofs.Ytcogeflljcefjaa.Mfs
