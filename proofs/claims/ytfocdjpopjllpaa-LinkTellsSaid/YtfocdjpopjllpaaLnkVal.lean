/-
  A link's messages in memory; what the document's Few and Same of layer 17 answer.
-/
import Derived.Test.YtfocdjpopjllpaaList
import Derived.BigQuiet
import Derived.Lib.Strings
namespace Go.Proofs.Ytfocdjpopjllpaa.Lk
open Go.RowKit

/-- How texts lie in memory. -/
def LS : Lay ByteArray where
  enc := fun s => [.string s]
  k := 1
  len := fun _ => rfl
  one := by intro f u hu; simp at hu; rw [hu]; rfl
  pos := by decide
  T := 9
  ok := fun _ => True
  z := ⟨#[]⟩
theorem info_ls : (Try.prog.info? 9).map (fun i => (i.zero, i.size, i.bytes)) = some (some (.string ByteArray.empty), 1, 16) := by kernel_rfl
theorem ls_at {w : World} {a : Option Addr} {n cap : Nat} {l : List ByteArray} (h : IsL LS w (.slice a n cap) l) {i : Nat} (hi : i < n) : ∃ b off, a = some ⟨b, off, none⟩ ∧ w.cell? ⟨b, off + i, none⟩ = some (.string (l.getD i ⟨#[]⟩)) := by
  have h' := h
  obtain ⟨a', cap', e, _, _, h3⟩ := h
  injection e with e1 e2 e3
  rcases h3 with h3 | ⟨b, off, h4, _⟩
  · rw [h3] at e2; simp at e2; omega
  · subst e1
    subst h4
    refine ⟨b, off, rfl, ?_⟩
    have := h'.at_ hi 0 _ rfl
    simpa [LS] using this
theorem lk_slice {w : World} {v : Value} {l : List ByteArray} (h : IsL LS w v l) : ∃ a n c, v = .slice a n c := by obtain ⟨a, c, e, _⟩ := h; exact ⟨a, _, c, e⟩

theorem text_ne {a b : ByteArray} (h : ¬ a = b) : (a.toList == b.toList) = false := by
  rw [Lib.toList_data, Lib.toList_data, beq_eq_false_iff_ne]
  exact fun e => h (ByteArray.ext (Array.ext' e))
/-- Few messages of few bytes. -/
def Few (l : List ByteArray) : Prop := l.length ≤ 100 ∧ ∀ s ∈ l, s.size ≤ 300
theorem few_of {l : List ByteArray} (h : l.length ≤ 100) (k : ∀ j, j < l.length → (l.getD j ⟨#[]⟩).size ≤ 300) : Few l := by
  refine ⟨h, fun s hs => ?_⟩
  obtain ⟨i, hi, rfl⟩ := List.getElem_of_mem hs
  have := k i hi
  rwa [getD_lt hi] at this
theorem few_at {l : List ByteArray} (h : Few l) {j : Nat} (hj : j < l.length) : (l.getD j ⟨#[]⟩).size ≤ 300 := by
  rw [getD_lt hj]
  exact h.2 _ (List.getElem_mem hj)

set_option maxRecDepth 100000 in
set_option maxHeartbeats 1600000 in
theorem rfew17_any (f t : Int) (v : Value) (l : List ByteArray) (b : Bool) (w : World) (hv : IsL LS w v l) (hb : b = true ↔ Few l) :
    Calls Try.prog 5 #[.agg #[.int .i64 f, .int .i64 t, v]] w fun e w' => e = .returned (.bool b) ∧ Below w.heap.size w w' := by
  obtain ⟨fa, fn, fc, rfl⟩ := lk_slice hv
  have hfl := hv.len.1
  have HN := Lib.hid (show ¬ fn ≤ 100 → b = false from fun h => by rw [← Bool.not_eq_true, hb]; exact fun hf => h (by rw [hfl]; exact hf.1))
  have HJ := Lib.hid (show ∀ j, j < fn → ¬ (l.getD j ⟨#[]⟩).size ≤ 300 → b = false from fun j hj h => by rw [← Bool.not_eq_true, hb]; exact fun hf => h (few_at hf (by omega)))
  have HY := Lib.hid (show fn ≤ 100 → (∀ j, j < fn → (l.getD j ⟨#[]⟩).size ≤ 300) → b = true from fun h k => hb.2 (few_of (by omega) (fun j hj => k j (by omega))))
  obtain ⟨x0, x1, x2, hB⟩ := box_new w (.int .i64 f) (.int .i64 t) (.slice fa fn fc) 24
  have BW := Lib.hid hB
  have HV := Lib.hid (hv.keep hB)
  have hl2 : fn ≤ 9223372036854775807 := by have := hv.len.2; unfold maxLen at this; omega
  clear hv hfl hb hB
  by_cases h100 : fn ≤ 100
  · go_enter Try.func5, Try.ntmps5
    go_wp2_with fail
    generalize World.alloc w _ = w0 at x0 x1 x2 BW HV ⊢
    go_loop [3] (fun i => ∃ k : Nat, k ≤ fn ∧ i = .int .i64 k ∧ ∀ j, j < k → (l.getD j ⟨#[]⟩).size ≤ 300) (fun i => fn - (intOf i).toNat)
    case atStart => exact ⟨0, Nat.zero_le _, rfl, fun j hj => absurd hj (Nat.not_lt_zero j)⟩
    case round =>
      obtain ⟨k, hk, rfl, hall⟩ := hrel
      have HALL := Lib.hid hall
      clear hall
      by_cases hlt : k < fn
      · obtain ⟨g, off, rfl, c0⟩ := ls_at HV.out hlt
        obtain ⟨s, hs⟩ : ∃ s, l.getD k ⟨#[]⟩ = s := ⟨_, rfl⟩
        rw [hs] at c0
        have HS := Lib.hid hs
        clear hs
        by_cases h300 : s.size ≤ 300
        · have e1 : decide (300 < (s.size : Int)) = false := by simp; omega
          go_wp2_with fail
          go_round
          case rel => exact ⟨k + 1, by omega, by go_num, fun j hj => by rcases Nat.lt_succ_iff_lt_or_eq.1 hj with h | h; exact HALL.out j h; subst h; rw [HS.out]; exact h300⟩
          case measure => simp [intOf]; omega
        · have e1 : decide (300 < (s.size : Int)) = true := by simp; omega
          have HBF := Lib.hid (HJ.out k hlt (by rw [HS.out]; exact h300))
          go_wp2_with fail
          go_ret
          exact ⟨by rw [HBF.out]; rfl, BW.out⟩
      · obtain rfl : k = fn := by omega
        have HBT := Lib.hid (HY.out h100 HALL.out)
        go_wp2_with fail
        go_ret
        exact ⟨by rw [HBT.out]; rfl, BW.out⟩
  · obtain rfl := HN.out h100
    have e1 : decide (100 < (fn : Int)) = true := by simp; omega
    go_enter Try.func5, Try.ntmps5
    go_wp2_with fail
    go_ret
    exact ⟨rfl, BW.out⟩

set_option maxRecDepth 100000 in
set_option maxHeartbeats 1600000 in
theorem rsame17_any (f t f' t' : Int) (v v' : Value) (l l' : List ByteArray) (b : Bool) (w : World) (hv : IsL LS w v l) (hv' : IsL LS w v' l') (hb : b = true ↔ f = f' ∧ t = t' ∧ l = l') :
    Calls Try.prog 13 #[.agg #[.int .i64 f, .int .i64 t, v], .agg #[.int .i64 f', .int .i64 t', v']] w fun e w' => e = .returned (.bool b) ∧ Below w.heap.size w w' := by
  obtain ⟨fa, fn, fc, rfl⟩ := lk_slice hv
  obtain ⟨ga, gn, gc, rfl⟩ := lk_slice hv'
  have hfl := hv.len.1
  have hgl := hv'.len.1
  have H1 := Lib.hid (show f ≠ f' → b = false from fun h => by rw [← Bool.not_eq_true, hb]; exact fun hf => h hf.1)
  have H2 := Lib.hid (show t ≠ t' → b = false from fun h => by rw [← Bool.not_eq_true, hb]; exact fun hf => h hf.2.1)
  have H3 := Lib.hid (show fn ≠ gn → b = false from fun h => by rw [← Bool.not_eq_true, hb]; exact fun hf => h (by rw [hfl, hgl, hf.2.2]))
  have HJ := Lib.hid (show ∀ j, j < fn → l.getD j ⟨#[]⟩ ≠ l'.getD j ⟨#[]⟩ → b = false from fun j hj h => by rw [← Bool.not_eq_true, hb]; exact fun hf => h (by rw [hf.2.2]))
  have HY := Lib.hid (show f = f' → t = t' → fn = gn → (∀ j, j < fn → l.getD j ⟨#[]⟩ = l'.getD j ⟨#[]⟩) → b = true from fun h1 h2 h3 k => hb.2 ⟨h1, h2, List.ext_getElem (by omega) fun i hi hi' => by have := k i (by omega); rwa [getD_lt hi, getD_lt hi'] at this⟩)
  obtain ⟨x0, x1, x2, hB⟩ := box_new w (.int .i64 f) (.int .i64 t) (.slice fa fn fc) 24
  obtain ⟨y0, y1, y2, hC⟩ := box_new (w.alloc (.cells #[.int .i64 f, .int .i64 t, .slice fa fn fc] 24)) (.int .i64 f') (.int .i64 t') (.slice ga gn gc) 24
  have hz : (w.alloc (.cells #[.int .i64 f, .int .i64 t, .slice fa fn fc] 24)).heap.size = w.heap.size + 1 := by simp
  rw [hz] at y0 y1 y2
  clear hz
  obtain ⟨x0, x1, x2, hB2⟩ := box_keep ⟨x0, x1, x2, hB⟩ hC
  have BW := Lib.hid hB2
  have HV := Lib.hid (hv.keep hB2)
  have HV' := Lib.hid (hv'.keep hB2)
  have hl2 : fn ≤ 9223372036854775807 := by have := hv.len.2; unfold maxLen at this; omega
  have hl3 : gn ≤ 9223372036854775807 := by have := hv'.len.2; unfold maxLen at this; omega
  clear hv hfl hb hB hv' hgl hC hB2
  obtain h1 | h1 : f ≠ f' ∨ f = f' := by omega
  · obtain rfl := H1.out h1
    go_enter Try.func13, Try.ntmps13
    go_wp2_with fail
    go_ret
    exact ⟨rfl, BW.out⟩
  obtain h2 | h2 : t ≠ t' ∨ t = t' := by omega
  · obtain rfl := H2.out h2
    subst h1
    go_enter Try.func13, Try.ntmps13
    go_wp2_with fail
    go_ret
    exact ⟨rfl, BW.out⟩
  obtain h3 | h3 : fn ≠ gn ∨ fn = gn := by omega
  · obtain rfl := H3.out h3
    subst h1 h2
    go_enter Try.func13, Try.ntmps13
    go_wp2_with fail
    go_ret
    exact ⟨rfl, BW.out⟩
  subst h1 h2 h3
  replace HY := Lib.hid (HY.out rfl rfl rfl)
  clear H1 H2 H3
  go_enter Try.func13, Try.ntmps13
  go_wp2_with fail
  generalize (World.alloc _ _).alloc _ = w0 at x0 x1 x2 y0 y1 y2 BW HV HV' ⊢
  go_loopw [5] (fun i W => ∃ k n : Nat, k ≤ fn ∧ i = .int .i64 k ∧ W = w0.drewN n ∧ ∀ j, j < k → l.getD j ⟨#[]⟩ = l'.getD j ⟨#[]⟩) (fun i _ => fn - (intOf i).toNat)
  case atStart => exact ⟨0, 0, Nat.zero_le _, rfl, rfl, fun j hj => absurd hj (Nat.not_lt_zero j)⟩
  case round =>
    obtain ⟨k, n, hk, rfl, rfl, hall⟩ := hrel
    have BN := Lib.hid (BW.out.trans ((bel_drewN (w := w0) n).mono BW.out.size))
    have HALL := Lib.hid hall
    clear hall
    by_cases hlt : k < fn
    · obtain ⟨g, off, rfl, c0⟩ := ls_at HV.out hlt
      obtain ⟨g', off', rfl, d0⟩ := ls_at HV'.out hlt
      have HJK := Lib.hid (HJ.out k hlt)
      have HAL := Lib.hid (show l.getD k ⟨#[]⟩ = l'.getD k ⟨#[]⟩ → ∀ j, j < k + 1 → l.getD j ⟨#[]⟩ = l'.getD j ⟨#[]⟩ from fun h j hj => by rcases Nat.lt_succ_iff_lt_or_eq.1 hj with h' | h'; exact HALL.out j h'; subst h'; exact h)
      generalize l.getD k ⟨#[]⟩ = s at c0 HJK HAL
      generalize l'.getD k ⟨#[]⟩ = s' at d0 HJK HAL
      by_cases hs : s = s'
      · have HA2 := Lib.hid (HAL.out hs)
        subst hs
        clear HAL HJK
        go_wp2_with fail
        go_quiet (fail)
        go_wp2_with fail
        go_roundw
        case rel => exact ⟨k + 1, _, by omega, by go_num, rfl, HA2.out⟩
        case measure => simp [intOf]; omega
      · have HBF := Lib.hid (HJK.out hs)
        have hb1 := text_ne hs
        clear HAL HJK
        go_wp2_with fail
        go_quiet (fail)
        go_wp2_with fail
        go_ret
        exact ⟨by rw [HBF.out]; rfl, BN.out.trans ((bel_drewN nq).mono BN.out.size)⟩
    · obtain rfl : k = fn := by omega
      have HBT := Lib.hid (HY.out HALL.out)
      go_wp2_with fail
      go_ret
      exact ⟨by rw [HBT.out]; rfl, BN.out⟩

end Go.Proofs.Ytfocdjpopjllpaa.Lk
