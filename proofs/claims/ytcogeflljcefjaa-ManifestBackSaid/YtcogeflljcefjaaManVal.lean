/-
  Manifests in memory; what the document's Right of layer 10 answers.
-/
import Derived.Test.YtcogeflljcefjaaManPlain
import Derived.Test.YtcogeflljcefjaaList
import Derived.BigQuiet
import Derived.IntWalk
import Derived.Lib.Hide
namespace Go.Proofs.Ytcogeflljcefjaa.Mfs
open Go.RowKit Go.Proofs.Ytcogeflljcefjaa.Qm

/-- How ints lie in memory. -/
def IL : Lay Int where
  enc := fun n => [.int .i64 n]
  k := 1
  len := fun _ => rfl
  one := by intro f u hu; rw [List.mem_singleton] at hu; subst hu; rfl
  pos := by decide
  T := 3
  ok := fun n => -9223372036854775808 ≤ n ∧ n ≤ 9223372036854775807
  z := 0
theorem il_at {w : World} {fa : Option Addr} {fn fc : Nat} {l : List Int} (h : IsL IL w (.slice fa fn fc) l) {i : Nat} (hi : i < fn) :
    ∃ b off, fa = some ⟨b, off, none⟩ ∧ w.cell? ⟨b, off + i, none⟩ = some (.int .i64 (l.getD i 0)) := by
  have h' := h
  obtain ⟨a', cap', e, _, _, h3⟩ := h
  injection e with e1 e2 e3
  rcases h3 with h3 | ⟨b, off, h4, _⟩
  · rw [h3] at e2; simp at e2; omega
  · subst e1
    subst h4
    have := h'.at_ hi 0 _ rfl
    rw [show off + i * IL.k + 0 = off + i from by show off + i * 1 + 0 = _; omega] at this
    exact ⟨b, off, rfl, this⟩
theorem drewN_two (w : World) (a b : Nat) : (w.drewN a).drewN b = w.drewN (a + b) := by unfold World.drewN; simp [Nat.add_assoc]
def mnVal (fa : Option Addr) (fn fc : Nat) (m : Mn) : Value := .agg #[.int .i64 m.v, .slice fa fn fc, .int .i64 m.z, .int .u32 m.c]
/-- A manifest that memory holds. -/
structure MnB (m : Mn) : Prop where
  v : -9223372036854775808 ≤ m.v ∧ m.v ≤ 9223372036854775807
  z : -9223372036854775808 ≤ m.z ∧ m.z ≤ 9223372036854775807
  c : 0 ≤ m.c ∧ m.c < 4294967296
theorem cells4 {W : World} {k : Nat} {T : TypeId} {x y z u : Value} (h : W.heap[k]? = some (.cells #[x, y, z, u] T (0, 0))) : W.cell? ⟨k, 0, none⟩ = some x ∧ W.cell? ⟨k, 1, none⟩ = some y ∧ W.cell? ⟨k, 2, none⟩ = some z ∧ W.cell? ⟨k, 3, none⟩ = some u :=
  ⟨by rw [cell_of_row _ _ 0 _ _ _ h]; rfl, by rw [cell_of_row _ _ 1 _ _ _ h]; rfl, by rw [cell_of_row _ _ 2 _ _ _ h]; rfl, by rw [cell_of_row _ _ 3 _ _ _ h]; rfl⟩

/-- What a round finds. -/
theorem at_cases (l : List Int) (k : Nat) :
    (¬ AtOk l k ∧ (l.getD k 0 < 0 ∨ (0 ≤ l.getD k 0 ∧ 1099511627776 < l.getD k 0) ∨ (0 ≤ l.getD k 0 ∧ l.getD k 0 ≤ 1099511627776 ∧ ∃ j, k = j + 1 ∧ l.getD k 0 ≤ l.getD j 0))) ∨
    (AtOk l k ∧ 0 ≤ l.getD k 0 ∧ l.getD k 0 ≤ 1099511627776 ∧ (k = 0 ∨ ∃ j, k = j + 1 ∧ l.getD j 0 < l.getD k 0)) := by
  by_cases h1 : l.getD k 0 < 0
  · exact .inl ⟨fun h => by have := h.1; omega, .inl h1⟩
  · by_cases h2 : 1099511627776 < l.getD k 0
    · exact .inl ⟨fun h => by have := h.2.1; omega, .inr (.inl ⟨by omega, h2⟩)⟩
    · cases k with
      | zero => exact .inr ⟨⟨by omega, by omega, fun h => absurd h (Nat.lt_irrefl 0)⟩, by omega, by omega, .inl rfl⟩
      | succ j =>
        by_cases h3 : l.getD j 0 < l.getD (j + 1) 0
        · exact .inr ⟨⟨by omega, by omega, fun _ => h3⟩, by omega, by omega, .inr ⟨j, rfl, h3⟩⟩
        · exact .inl ⟨fun h => h3 (h.2.2 (by omega)), .inr (.inr ⟨by omega, by omega, j, rfl, by omega⟩)⟩
theorem all_next {l : List Int} {k : Nat} (h : ∀ j, j < k → AtOk l j) (hk : AtOk l k) : ∀ j, j < k + 1 → AtOk l j := by
  intro j hj
  by_cases e : j = k
  · subst e; exact hk
  · exact h j (by omega)

set_option maxRecDepth 100000 in
set_option maxHeartbeats 3200000 in
theorem rright10_any (fa : Option Addr) (fn fc : Nat) (m : Mn) (b : Bool) (w : World) (hv : IsL IL w (.slice fa fn fc) m.l) (hB : MnB m) (hb : b = true ↔ Ok m) :
    Calls Try.prog 12 #[mnVal fa fn fc m] w fun e w' => e = .returned (.bool b) ∧ Below w.heap.size w w' := by
  have HV := Lib.hid hv
  have hfl := hv.len.1
  have hfm : fn ≤ 9223372036854775807 := by have := hv.len.2; unfold maxLen at this; omega
  have HN := Lib.hid (show ¬ Ok m → b = false from fun h => by rw [← Bool.not_eq_true, hb]; exact h)
  have HY := Lib.hid (show Ok m → b = true from hb.2)
  have HFL := Lib.hid hfl
  obtain ⟨⟨v0, v1⟩, ⟨z0, z1⟩, c0, c1⟩ := hB
  obtain ⟨mv, ml, mz, mc⟩ := m
  unfold mnVal
  dsimp only at *
  have HA := Lib.hid ((Below.refl w.heap.size w).alloc (Nat.le_refl _) (.cells #[.int .i64 mv, .slice fa fn fc, .int .i64 mz, .int .u32 mc] 25))
  obtain ⟨x0, x1, x2, x3⟩ := cells4 (heap_alloc_new w (.cells #[.int .i64 mv, .slice fa fn fc, .int .i64 mz, .int .u32 mc] 25))
  clear hv hb hfl
  by_cases g1 : mv < 1
  · have HF := Lib.hid (HN.out fun h => by have := h.v0; dsimp only at this; omega)
    go_enter Try.func12, Try.ntmps12
    go_wp2_with fail
    go_ret
    exact ⟨by rw [HF.out]; rfl, HA.out⟩
  have e1 : decide (mv < 1) = false := by simpa using g1
  by_cases g2 : 1099511627776 < mv
  · have HF := Lib.hid (HN.out fun h => by have := h.v1; dsimp only at this; omega)
    go_enter Try.func12, Try.ntmps12
    go_wp2_with fail
    go_ret
    exact ⟨by rw [HF.out]; rfl, HA.out⟩
  have e2 : decide ((1099511627776 : Int) < mv) = false := by simpa using g2
  by_cases g3 : (fn : Int) < 1
  · have HF := Lib.hid (HN.out fun h => by have := h.n0; dsimp only at this; rw [← HFL.out] at this; omega)
    go_enter Try.func12, Try.ntmps12
    go_wp2_with fail
    go_ret
    exact ⟨by rw [HF.out]; rfl, HA.out⟩
  have e3 : decide ((fn : Int) < 1) = false := by simp; omega
  by_cases g4 : (64 : Int) < (fn : Int)
  · have HF := Lib.hid (HN.out fun h => by have := h.n1; dsimp only at this; rw [← HFL.out] at this; omega)
    go_enter Try.func12, Try.ntmps12
    go_wp2_with fail
    go_ret
    exact ⟨by rw [HF.out]; rfl, HA.out⟩
  have e4 : decide ((64 : Int) < (fn : Int)) = false := by simp; omega
  go_enter Try.func12, Try.ntmps12
  go_wp2_with fail
  generalize World.alloc w _ = w0 at HA x0 x1 x2 x3 ⊢
  go_loopw [3] (fun i wr => ∃ k n : Nat, k ≤ fn ∧ i = .int .i64 k ∧ (∀ j, j < k → AtOk ml j) ∧ wr = w0.drewN n) (fun i _ => fn - (intOf i).toNat)
  case atStart => exact ⟨0, 0, Nat.zero_le _, rfl, fun j hj => absurd hj (Nat.not_lt_zero j), rfl⟩
  case round =>
    obtain ⟨k, n, hk, rfl, hall, rfl⟩ := hrel
    have HALL := Lib.hid hall
    have HBn := Lib.hid fun q : Nat => HA.out.trans ((bel_drewN (w := w0) q).mono HA.out.size)
    clear hall
    by_cases hlt : k < fn
    · obtain ⟨g, off, rfl, y0⟩ := il_at (HV.out.keep HA.out) hlt
      rcases at_cases ml k with ⟨hno, hbad⟩ | ⟨hyes, i1, i2, hy⟩
      · have HF := Lib.hid (HN.out fun h => hno (h.at_ k (by dsimp only; rw [← HFL.out]; exact hlt)))
        clear hno
        rcases hbad with i1 | ⟨i1, i2⟩ | ⟨i1, i2, j, rfl, i3⟩
        · generalize ml.getD k 0 = f at *
          go_wp2_with fail
          go_quiet (fail)
          go_wp2_with fail
          go_ret
          exact ⟨by rw [HF.out]; rfl, by rw [drewN_two]; exact HBn.out _⟩
        · generalize ml.getD k 0 = f at *
          have q1 : decide (f < 0) = false := by simpa using i1
          go_wp2_with fail
          go_quiet (fail)
          go_wp2_with fail
          go_ret
          exact ⟨by rw [HF.out]; rfl, by rw [drewN_two]; exact HBn.out _⟩
        · obtain ⟨g', off', e, u0⟩ := il_at (HV.out.keep HA.out) (show j < fn by omega)
          obtain ⟨rfl, rfl⟩ : g = g' ∧ off = off' := by simpa using e
          generalize ml.getD (j + 1) 0 = f at *
          generalize ml.getD j 0 = f' at *
          have q1 : decide (f < 0) = false := by simpa using i1
          have q2 : decide ((1099511627776 : Int) < f) = false := by simpa using i2
          have q4 : decide (0 < j + 1) = true := by simp
          have hjn : j < fn := by omega
          have hwr : IntKind.i64.wrap (j : Int) = (j : Int) := IntWalk.i64_in _ ⟨by omega, by omega⟩
          clear e
          go_wp2_with fail
          go_quiet (fail)
          go_wp2_with fail
          go_ret
          exact ⟨by rw [HF.out]; rfl, by rw [drewN_two]; exact HBn.out _⟩
      · have GY := Lib.hid (all_next HALL.out hyes)
        clear hyes
        rcases hy with rfl | ⟨j, rfl, i3⟩
        · rw [Nat.add_zero] at y0
          generalize ml.getD 0 0 = f at *
          have q1 : decide (f < 0) = false := by simpa using i1
          have q2 : decide ((1099511627776 : Int) < f) = false := by simpa using i2
          go_wp2_with fail
          go_quiet (fail)
          go_wp2_with fail
          go_roundw
          case rel => exact ⟨_, _, by omega, by go_num, GY.out, rfl⟩
          case measure => simp [intOf]; omega
        · obtain ⟨g', off', e, u0⟩ := il_at (HV.out.keep HA.out) (show j < fn by omega)
          obtain ⟨rfl, rfl⟩ : g = g' ∧ off = off' := by simpa using e
          generalize ml.getD (j + 1) 0 = f at *
          generalize ml.getD j 0 = f' at *
          have q1 : decide (f < 0) = false := by simpa using i1
          have q2 : decide ((1099511627776 : Int) < f) = false := by simpa using i2
          have q4 : decide (0 < j + 1) = true := by simp
          have q3 : decide (f ≤ f') = false := by simpa using i3
          have hjn : j < fn := by omega
          have hwr : IntKind.i64.wrap (j : Int) = (j : Int) := IntWalk.i64_in _ ⟨by omega, by omega⟩
          clear e
          go_wp2_with fail
          go_quiet (fail)
          go_wp2_with fail
          go_roundw
          case rel => exact ⟨_, _, by first | (clear hwr; omega) | omega, by go_num, GY.out, rfl⟩
          case measure => first | (clear hwr; simp [intOf]; omega) | (simp [intOf]; omega)
    · obtain ⟨g, off, rfl, y0⟩ := il_at (HV.out.keep HA.out) (show 0 < fn by omega)
      rw [Nat.add_zero] at y0
      have HOK := Lib.hid (show ((ml.getD 0 0 = 0 ∧ mz = 0 ∧ mc = 0) ∨ (ml.getD 0 0 ≠ 0 ∧ 1 ≤ mz ∧ mz ≤ 65536)) → b = true from fun h => HY.out ⟨by dsimp only; omega, by dsimp only; omega, by dsimp only; rw [← HFL.out]; omega, by dsimp only; rw [← HFL.out]; omega, fun i hi => HALL.out i (by dsimp only at hi; rw [← HFL.out] at hi; omega), h, ⟨c0, c1⟩⟩)
      have HNO := Lib.hid (show ¬ ((ml.getD 0 0 = 0 ∧ mz = 0 ∧ mc = 0) ∨ (ml.getD 0 0 ≠ 0 ∧ 1 ≤ mz ∧ mz ≤ 65536)) → b = false from fun h => HN.out fun hk => h hk.z)
      generalize ml.getD 0 0 = f at *
      have hk2 : ¬ (k : Int) < (fn : Int) := by omega
      by_cases h0 : f = 0
      · subst h0
        have HV2 := Lib.hid (show (decide (mz = 0) && decide (mc = 0)) = b by
          by_cases h1 : mz = 0 ∧ mc = 0
          · rw [HOK.out (.inl ⟨rfl, h1⟩)]; simp [h1.1, h1.2]
          · rw [HNO.out fun h => by rcases h with h | h; exact h1 h.2; exact h.1 rfl]
            simp; exact fun a c => h1 ⟨a, c⟩)
        by_cases h1 : mz = 0
        · subst h1
          by_cases h2 : mc = 0
          · subst h2
            go_wp2_with fail
            go_ret
            exact ⟨by rw [← HV2.out]; rfl, HBn.out _⟩
          · have q1 : (mc == 0) = false := by simpa using h2
            have HF := Lib.hid (show b = false by rw [← HV2.out]; simp [h2])
            clear h2
            go_wp2_with fail
            go_ret
            exact ⟨by rw [HF.out]; rfl, HBn.out _⟩
        · have q1 : (mz == 0) = false := by simpa using h1
          have HF := Lib.hid (show b = false by rw [← HV2.out]; simp [h1])
          clear h1
          go_wp2_with fail
          go_ret
          exact ⟨by rw [HF.out]; rfl, HBn.out _⟩
      · have q0 : (f == 0) = false := by simpa using h0
        have HOK2 := Lib.hid (fun h => HOK.out (.inr ⟨h0, h⟩))
        have HNO2 := Lib.hid (show ¬ (1 ≤ mz ∧ mz ≤ 65536) → b = false from fun h => HNO.out fun h' => by
          rcases h' with h' | h'
          · exact h0 h'.1
          · exact h h'.2)
        clear h0
        by_cases h1 : 1 ≤ mz
        · by_cases h2 : mz ≤ 65536
          · have HF := Lib.hid (HOK2.out ⟨h1, h2⟩)
            go_wp2_with fail
            go_ret
            exact ⟨by rw [HF.out]; rfl, HBn.out _⟩
          · have HF := Lib.hid (HNO2.out fun h => h2 h.2)
            have q2 : decide (mz ≤ 65536) = false := by simpa using h2
            go_wp2_with fail
            go_ret
            exact ⟨by rw [HF.out]; rfl, HBn.out _⟩
        · have HF := Lib.hid (HNO2.out fun h => h1 h.1)
          have q1 : decide (1 ≤ mz) = false := by simpa using h1
          go_wp2_with fail
          go_ret
          exact ⟨by rw [HF.out]; rfl, HBn.out _⟩

end Go.Proofs.Ytcogeflljcefjaa.Mfs
