/-
  What the law's short, its awake and its do answer.
-/
import Derived.Test.YtbkiecjbjehaoaaDiskActs
import Derived.Test.YtbkiecjbjehaoaaDiskApp
namespace Go.Proofs.Ytbkiecjbjehaoaa.Dsk
open Go.RowKit Go.Proofs.Ytbkiecjbjehaoaa.Dp

/-- Are they few acts, of few bytes? -/
def Short (l : List Ra) : Prop := l.length ≤ 60 ∧ ∀ r ∈ l, r.x.n.size ≤ 100 ∧ r.x.t.size ≤ 100
instance (l : List Ra) : Decidable (Short l) := inferInstanceAs (Decidable (_ ∧ _))
theorem getD_ra {l : List Ra} {k : Nat} {z : Ra} (h : k < l.length) : l.getD k z = l[k] := by simp [List.getD_eq_getElem?_getD, h]

set_option maxRecDepth 100000 in
set_option maxHeartbeats 1600000 in
theorem short_any (v : Value) (l : List Ra) (w : World) (h : IsL AL w v l) :
    Calls Try.prog 7 #[v] w fun e w' => e = .returned (.bool (decide (Short l))) ∧ w = w' := by
  obtain ⟨fa, fn, fc, rfl⟩ : ∃ a n c, v = .slice a n c := by obtain ⟨a, c, h, _⟩ := h; exact ⟨a, _, c, h⟩
  have H := Lib.hid h
  have hl := h.len
  unfold maxLen at hl
  have hok := h.ok
  clear h
  by_cases h60 : 60 < fn
  · rw [decide_eq_false (fun h : Short l => by have := h.1; omega)]
    have h1 : (60 : Int) < (fn : Int) := by omega
    clear hok
    go_enter Try.func7, Try.ntmps7
    go_wp2_with fail
    go_ret
    exact ⟨by simp_all, rfl⟩
  · have h1 : ¬ ((60 : Int) < (fn : Int)) := by omega
    have HB := Lib.hid (show ∀ k, k < fn → RaB (l.getD k rzero) from fun k hk => by rw [getD_ra (by omega)]; exact hok _ (List.getElem_mem _))
    have HT := Lib.hid (show (∀ k, k < fn → (l.getD k rzero).x.n.size ≤ 100 ∧ (l.getD k rzero).x.t.size ≤ 100) → decide (Short l) = true from fun h => decide_eq_true ⟨by omega, fun r hr => by
      obtain ⟨k, hk, rfl⟩ := List.getElem_of_mem hr
      have := h k (by omega)
      rwa [getD_ra hk] at this⟩)
    have HF := Lib.hid (show ∀ k, k < fn → ¬ ((l.getD k rzero).x.n.size ≤ 100 ∧ (l.getD k rzero).x.t.size ≤ 100) → decide (Short l) = false from fun k hk h => decide_eq_false fun hs => h (by
      rw [getD_ra (by omega)]
      exact hs.2 _ (List.getElem_mem _)))
    obtain ⟨R, hR⟩ : ∃ R, decide (Short l) = R := ⟨_, rfl⟩
    rw [hR] at HT HF ⊢
    clear hR hok hl
    go_enter Try.func7, Try.ntmps7
    go_wp2_with fail
    go_loopw [3] (fun i wr => ∃ k : Nat, k ≤ fn ∧ i = .int .i64 k ∧ (∀ j, j < k → (l.getD j rzero).x.n.size ≤ 100 ∧ (l.getD j rzero).x.t.size ≤ 100) ∧ wr = w) (fun i _ => fn - (intOf i).toNat)
    case atStart => exact ⟨0, Nat.zero_le _, rfl, fun j hj => absurd hj (Nat.not_lt_zero _), rfl⟩
    case round =>
      obtain ⟨k, hk, rfl, hall, rfl⟩ := hrel
      by_cases hlt : k < fn
      · obtain ⟨b, off, rfl, _, _, c2, c3, _⟩ := isA_at H.out hlt
        obtain ⟨_, _, hn, ht⟩ := HB.out k hlt
        have HFk := HF.out k hlt
        have HN : Hid ((l.getD k rzero).x.n.size ≤ 100 ∧ (l.getD k rzero).x.t.size ≤ 100 → ∀ j, j < k + 1 → (l.getD j rzero).x.n.size ≤ 100 ∧ (l.getD j rzero).x.t.size ≤ 100) := fun hh j hj => by
          by_cases h : j = k
          · rw [h]; exact hh
          · exact hall j (by omega)
        clear hall
        generalize (l.getD k rzero).x.n = nm at *
        generalize (l.getD k rzero).x.t = tm at *
        by_cases hn1 : nm.size ≤ 100
        · have i1 : ¬ ((100 : Int) < (nm.size : Int)) := by omega
          by_cases ht1 : tm.size ≤ 100
          · have i2 : ¬ ((100 : Int) < (tm.size : Int)) := by omega
            have HN2 := Lib.hid (HN.out ⟨hn1, ht1⟩)
            clear HFk HN
            go_wp2_with fail
            go_roundw
            case rel => exact ⟨k + 1, by omega, by go_num, HN2.out, by first | rfl | trivial⟩
            case measure => simp [intOf]; omega
          · have i2 : (100 : Int) < (tm.size : Int) := by omega
            obtain rfl := HFk (fun h => ht1 h.2)
            clear HN
            go_wp2_with fail
            go_ret
            exact ⟨by simp_all, rfl⟩
        · have i1 : (100 : Int) < (nm.size : Int) := by omega
          obtain rfl := HFk (fun h => hn1 h.1)
          clear HN
          go_wp2_with fail
          go_ret
          exact ⟨by simp_all, rfl⟩
      · obtain rfl := HT.out fun j hj => hall j (by omega)
        clear hall HF
        go_wp2_with fail
        go_ret
        exact ⟨by simp_all, rfl⟩

/-- What an act answers, of disks that were there or new ones. -/
def DoOut (w : World) (fv : Value) (l0 : List Fl) (R : Dk × Int) (e : Ending) (w' : World) : Prop := ∃ v, e = .returned (.tuple #[dkVal v R.1, .int .i64 R.2]) ∧ KeptOr w' w.heap.size fv l0 v R.1.f ∧ Below w.heap.size w w'
theorem DkOut.do {w w' : World} {fv : Value} {l0 : List Fl} {R : Dk × Int} {e : Ending} (h : DkOut w fv l0 R e w') : DoOut w fv l0 R e w' := by
  obtain ⟨v, h1, h2⟩ := h
  exact ⟨v, h1, h2.k, h2.w⟩

/-- What an act leaves is of no great bulk, for as few acts as there may be. -/
structure Bd (D : Dk) (k : Nat) : Prop where
  b : DkB D
  r : Right D
  n : D.f.length ≤ k
  u : used D.f ≤ k * 3000
theorem Bd.sm {D : Dk} {k : Nat} (h : Bd D k) (hk : k ≤ 1000) : Sm D := ⟨h.b, h.r, by have := h.n; omega, by have := h.u; omega⟩

end Go.Proofs.Ytbkiecjbjehaoaa.Dsk
