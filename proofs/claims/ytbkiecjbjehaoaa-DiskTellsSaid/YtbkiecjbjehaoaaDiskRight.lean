/-
  What the two Right functions answer of any disk.
-/
import Derived.Test.YtbkiecjbjehaoaaDiskTwo
import Derived.Test.YtbkiecjbjehaoaaDiskRef3
import Derived.BigQuiet
import Derived.IntWalk
import Derived.Laws.Cover1
import Derived.IntWalk
namespace Go.Proofs.Ytbkiecjbjehaoaa.Dp

/-- Is the file at a place as it may be, and behind the one ahead of it? -/
def AtOk (l : List Fl) (k : Nat) : Prop := FOk (l.getD k Dsk.zero) ∧ (0 < k → Lt (l.getD (k - 1) Dsk.zero).n (l.getD k Dsk.zero).n)
theorem up_adj {l : List Fl} (h : ∀ k, k + 1 < l.length → Lt (l.getD k Dsk.zero).n (l.getD (k + 1) Dsk.zero).n) : Up l := by
  unfold Up
  rw [List.pairwise_iff_getElem]
  intro i j hi hj hij
  obtain ⟨d, rfl⟩ : ∃ d, j = i + d + 1 := ⟨j - i - 1, by omega⟩
  induction d with
  | zero =>
    have := h i hj
    rw [getD_fl hi, getD_fl hj] at this
    exact this
  | succ d ih =>
    have h1 := ih (by omega) (by omega)
    have h2 := h (i + d + 1) hj
    rw [getD_fl (show i + d + 1 < l.length by omega), getD_fl (show i + d + 1 + 1 < l.length from hj)] at h2
    exact h1.trans h2
theorem right_at {l : List Fl} : ((∀ f ∈ l, FOk f) → Up l → ∀ k, k < l.length → AtOk l k) ∧ ((∀ k, k < l.length → AtOk l k) → (∀ f ∈ l, FOk f) ∧ Up l) := by
  constructor
  · intro h1 h2 k hk
    refine ⟨by rw [getD_fl hk]; exact h1 _ (List.getElem_mem hk), fun h0 => ?_⟩
    rw [getD_fl hk, getD_fl (by omega : k - 1 < l.length)]
    exact List.pairwise_iff_getElem.1 h2 (k - 1) k (by omega) hk (by omega)
  · intro h
    refine ⟨fun f hf => ?_, up_adj fun k hk => ?_⟩
    · obtain ⟨k, hk, rfl⟩ := List.getElem_of_mem hf
      have := (h k hk).1
      rw [getD_fl hk] at this
      exact this
    · exact (h (k + 1) hk).2 (by omega)
theorem less_no {a b : ByteArray} (h : Op.bytesLess a.toList b.toList = false) : (Op.bytesLess b.toList a.toList = true) ∨ (Op.bytesLess b.toList a.toList = false ∧ (b.toList == a.toList) = true) := by
  rw [Dsk.less_eq] at h
  have h1 : ¬ Lt a b := by simpa using h
  by_cases h2 : Lt b a
  · exact .inl (by rw [Dsk.less_eq, decide_eq_true h2])
  · refine .inr ⟨by rw [Dsk.less_eq, decide_eq_false h2], ?_⟩
    rcases lt_tri a b with h | h | h
    · exact absurd h h1
    · rw [h]; simp
    · exact absurd h h2
theorem less_yes {a b : ByteArray} (h : Op.bytesLess a.toList b.toList = true) : Op.bytesLess b.toList a.toList = false ∧ (b.toList == a.toList) = false := by
  rw [Dsk.less_eq] at h
  have h1 : Lt a b := by simpa using h
  exact ⟨by rw [Dsk.less_eq, decide_eq_false h1.asymm], Dsk.str_ne fun e => h1.ne e.symm⟩
/-- What a round finds. -/
theorem at_cases (l : List Fl) (k : Nat) :
    (¬ AtOk l k ∧ (decide (Named (l.getD k Dsk.zero).n) = false ∨ (decide (Named (l.getD k Dsk.zero).n) = true ∧ (l.getD k Dsk.zero).s < 0) ∨ (decide (Named (l.getD k Dsk.zero).n) = true ∧ 0 ≤ (l.getD k Dsk.zero).s ∧ ((l.getD k Dsk.zero).d.size : Int) < (l.getD k Dsk.zero).s) ∨
      (decide (Named (l.getD k Dsk.zero).n) = true ∧ 0 ≤ (l.getD k Dsk.zero).s ∧ (l.getD k Dsk.zero).s ≤ ((l.getD k Dsk.zero).d.size : Int) ∧ ∃ j, k = j + 1 ∧ Op.bytesLess (l.getD j Dsk.zero).n.toList (l.getD k Dsk.zero).n.toList = false))) ∨
    (AtOk l k ∧ decide (Named (l.getD k Dsk.zero).n) = true ∧ 0 ≤ (l.getD k Dsk.zero).s ∧ (l.getD k Dsk.zero).s ≤ ((l.getD k Dsk.zero).d.size : Int) ∧ (k = 0 ∨ ∃ j, k = j + 1 ∧ Op.bytesLess (l.getD j Dsk.zero).n.toList (l.getD k Dsk.zero).n.toList = true)) := by
  by_cases h1 : Named (l.getD k Dsk.zero).n
  · by_cases h2 : (l.getD k Dsk.zero).s < 0
    · exact .inl ⟨fun h => by have := h.1.2.1; omega, .inr (.inl ⟨decide_eq_true h1, h2⟩)⟩
    · by_cases h3 : ((l.getD k Dsk.zero).d.size : Int) < (l.getD k Dsk.zero).s
      · exact .inl ⟨fun h => by have := h.1.2.2; omega, .inr (.inr (.inl ⟨decide_eq_true h1, by omega, h3⟩))⟩
      · cases k with
        | zero => exact .inr ⟨⟨⟨h1, by omega, by omega⟩, fun h => absurd h (Nat.lt_irrefl 0)⟩, decide_eq_true h1, by omega, by omega, .inl rfl⟩
        | succ j =>
          by_cases h4 : Lt (l.getD j Dsk.zero).n (l.getD (j + 1) Dsk.zero).n
          · exact .inr ⟨⟨⟨h1, by omega, by omega⟩, fun _ => h4⟩, decide_eq_true h1, by omega, by omega, .inr ⟨j, rfl, by rw [Dsk.less_eq, decide_eq_true h4]⟩⟩
          · exact .inl ⟨fun h => h4 (h.2 (by omega)), .inr (.inr (.inr ⟨decide_eq_true h1, by omega, by omega, j, rfl, by rw [Dsk.less_eq, decide_eq_false h4]⟩))⟩
  · exact .inl ⟨fun h => h1 h.1.1, .inl (decide_eq_false h1)⟩
theorem all_next {l : List Fl} {k : Nat} (h : ∀ j, j < k → AtOk l j) (hk : AtOk l k) : ∀ j, j < k + 1 → AtOk l j := by
  intro j hj
  by_cases e : j = k
  · subst e; exact hk
  · exact h j (by omega)

end Go.Proofs.Ytbkiecjbjehaoaa.Dp
namespace Go.Proofs.Ytbkiecjbjehaoaa.Dsk
open Go.RowKit Go.Proofs.Ytbkiecjbjehaoaa.Dp

set_option maxRecDepth 100000 in
set_option maxHeartbeats 6400000 in
theorem rright_any (fv : Value) (D : Dk) (b : Bool) (w : World) (hv : IsL FL w fv D.f) (hb : b = true ↔ Right D) :
    Calls Try.prog 9 #[dkVal fv D] w fun e w' => e = .returned (.bool b) ∧ Below w.heap.size w w' := by
  obtain ⟨fa, fn, fc, rfl⟩ : ∃ a n c, fv = .slice a n c := by obtain ⟨a, c, h, _⟩ := hv; exact ⟨a, _, c, h⟩
  have HV := Lib.hid hv
  have hl := hv.len.2
  have hfl := hv.len.1
  unfold maxLen at hl
  have hl2 : D.f.length ≤ 9223372036854775807 := by omega
  clear hl
  have HOK := Lib.hid hv.ok
  have HRN := Lib.hid (show ∀ k, k < D.f.length → ¬ AtOk D.f k → b = false from fun k hk hn => by
    rw [← Bool.not_eq_true, hb]
    exact fun hr => hn (right_at.1 hr.1 hr.2.1 k hk))
  have HRY := Lib.hid (show (∀ k, k < D.f.length → AtOk D.f k) → b = (decide (0 ≤ D.c) && decide (0 ≤ D.l)) from fun h => by
    obtain ⟨h1, h2⟩ := right_at.2 h
    rw [Bool.eq_iff_iff, hb]
    simp only [Right, Bool.and_eq_true, decide_eq_true_eq]
    exact ⟨fun h => h.2.2, fun h => ⟨h1, h2, h⟩⟩)
  rw [← hfl] at hl2 HRN HRY
  have HFL := Lib.hid hfl
  have G0 := Lib.hid (heap_alloc_new w (.cells #[.slice fa fn fc, .int .i64 D.c, .bool D.a, .int .i64 D.l, .bool D.x] 24))
  have B0 := Lib.hid ((Below.refl w.heap.size w).alloc (Nat.le_refl _) (.cells #[.slice fa fn fc, .int .i64 D.c, .bool D.a, .int .i64 D.l, .bool D.x] 24))
  have S0 := Lib.hid (show (w.alloc (.cells #[.slice fa fn fc, .int .i64 D.c, .bool D.a, .int .i64 D.l, .bool D.x] 24)).heap.size = w.heap.size + 1 by simp)
  obtain ⟨fl, dc, da, dl, dx⟩ := D
  dsimp only at *
  clear hv hb hfl
  unfold dkVal
  dsimp only
  obtain ⟨q0, q1, q2, q3, q4⟩ := cells5 G0.out
  go_enter Try.func9, Try.ntmps9
  go_wp2_with fail
  generalize World.alloc w _ = w0 at G0 B0 S0 q0 q1 q2 q3 q4 ⊢
  go_loopw [3] (fun i wr => ∃ k : Nat, k ≤ fn ∧ i = .int .i64 k ∧ (∀ j, j < k → AtOk fl j) ∧ Below w0.heap.size w0 wr) (fun i _ => fn - (intOf i).toNat)
  case atStart => exact ⟨0, Nat.zero_le _, rfl, fun j hj => absurd hj (Nat.not_lt_zero j), Below.refl _ _⟩
  case round =>
    clear q0 q1 q2 q3 q4
    obtain ⟨k, hk, rfl, hall, hB⟩ := hrel
    have HALL := Lib.hid hall
    have HB := Lib.hid hB
    have HBW := Lib.hid (B0.out.trans (hB.mono B0.out.size))
    have hh := hkeep G0.out hB
    obtain ⟨p0, p1, p2, p3, p4⟩ := cells5 hh
    have hwl := (Array.getElem?_eq_some_iff.1 hh).1
    clear hall hB hh
    by_cases hlt : k < fn
    · have HIS := Lib.hid (HV.out.keep HBW.out)
      obtain ⟨g, off, rfl, c0, c1, c2⟩ := isL_at HIS.out hlt
      have hfb := HOK.out _ (show fl.getD k zero ∈ fl by rw [getD_fl (by rw [← HFL.out]; exact hlt)]; exact List.getElem_mem _)
      have NM := fun W : World => named_any (fl.getD k zero).n W hfb.1
      have hgl := block_lt_of_cell c0
      have hz2 := hfb.2.1
      have hz1 := hfb.1
      clear hfb
      have BFw := Lib.hid ((Below.refl _ wr).alloc (Nat.le_refl _) (.cells #[.string (fl.getD k zero).n, .string (fl.getD k zero).d, .int .i64 (fl.getD k zero).s] 43))
      rcases at_cases fl k with ⟨hno, hbad⟩ | ⟨hyes, y1, y2, y3, hy⟩
      · have HBF := Lib.hid (HRN.out k hlt hno)
        clear hno
        rcases hbad with i1 | ⟨i1, i2⟩ | ⟨i1, i2, i3⟩ | ⟨i1, i2, i3, j, rfl, i4⟩
        · rw [i1] at NM
          replace NM := Lib.hid NM
          generalize fl.getD k zero = f at *
          clear i1
          go_wp2_with fail
          go_quiet ((go_at_call 22; exact Calls.quiet_of_same ((NM.out _).mono fun _ _ ⟨he, hw⟩ => ⟨he, hw.symm⟩)))
          go_wp2_with fail
          go_ret
          first | exact ⟨by rw [HBF.out]; rfl, HBW.out.trans (BFw.out.mono HBW.out.size)⟩ | exact ⟨by rw [HBF.out]; rfl, HBW.out.trans ((BFw.out.trans ((bel_drewN _).mono BFw.out.size)).mono HBW.out.size)⟩
        · rw [i1] at NM
          replace NM := Lib.hid NM
          generalize fl.getD k zero = f at *
          clear i1
          go_wp2_with fail
          go_quiet ((go_at_call 22; exact Calls.quiet_of_same ((NM.out _).mono fun _ _ ⟨he, hw⟩ => ⟨he, hw.symm⟩)))
          go_wp2_with fail
          go_ret
          first | exact ⟨by rw [HBF.out]; rfl, HBW.out.trans (BFw.out.mono HBW.out.size)⟩ | exact ⟨by rw [HBF.out]; rfl, HBW.out.trans ((BFw.out.trans ((bel_drewN _).mono BFw.out.size)).mono HBW.out.size)⟩
        · rw [i1] at NM
          replace NM := Lib.hid NM
          generalize fl.getD k zero = f at *
          have e2 : decide (f.s < 0) = false := by simpa using i2
          clear i1
          go_wp2_with fail
          go_quiet ((go_at_call 22; exact Calls.quiet_of_same ((NM.out _).mono fun _ _ ⟨he, hw⟩ => ⟨he, hw.symm⟩)))
          go_wp2_with fail
          go_ret
          first | exact ⟨by rw [HBF.out]; rfl, HBW.out.trans (BFw.out.mono HBW.out.size)⟩ | exact ⟨by rw [HBF.out]; rfl, HBW.out.trans ((BFw.out.trans ((bel_drewN _).mono BFw.out.size)).mono HBW.out.size)⟩
        · rw [i1] at NM
          replace NM := Lib.hid NM
          obtain ⟨g', off', e, u0, u1, u2⟩ := isL_at HIS.out (show j < fn by omega)
          obtain ⟨rfl, rfl⟩ : g = g' ∧ off = off' := by simpa using e
          generalize fl.getD (j + 1) zero = f at *
          generalize fl.getD j zero = f' at *
          have e2 : decide (f.s < 0) = false := by simpa using i2
          have e3 : decide ((f.d.size : Int) < f.s) = false := by simpa using i3
          have e4 : decide (0 < j + 1) = true := by simp
          have hjn : j < fn := by omega
          have hwr : IntKind.i64.wrap (j : Int) = (j : Int) := IntWalk.i64_in _ ⟨by omega, by omega⟩
          clear i1 e u1 u2
          rcases less_no i4 with i5 | ⟨i5, i6⟩
          all_goals
            go_wp2_with fail
            go_quiet ((go_at_call 22; exact Calls.quiet_of_same ((NM.out _).mono fun _ _ ⟨he, hw⟩ => ⟨he, hw.symm⟩)))
            go_wp2_with fail
            go_ret
            first | exact ⟨by rw [HBF.out]; rfl, HBW.out.trans (BFw.out.mono HBW.out.size)⟩ | exact ⟨by rw [HBF.out]; rfl, HBW.out.trans ((BFw.out.trans ((bel_drewN _).mono BFw.out.size)).mono HBW.out.size)⟩
      · have GY := Lib.hid (all_next HALL.out hyes)
        clear hyes
        rcases hy with rfl | ⟨j, rfl, i4⟩
        · rw [y1] at NM
          replace NM := Lib.hid NM
          simp only [Nat.zero_mul, Nat.add_zero] at c0 c1 c2
          generalize fl.getD 0 zero = f at *
          have e2 : decide (f.s < 0) = false := by simpa using y2
          have e3 : decide ((f.d.size : Int) < f.s) = false := by simpa using y3
          clear y1
          go_wp2_with fail
          go_quiet ((go_at_call 22; exact Calls.quiet_of_same ((NM.out _).mono fun _ _ ⟨he, hw⟩ => ⟨he, hw.symm⟩)))
          go_wp2_with fail
          go_roundw
          case rel => first | exact ⟨_, by first | (clear hwr; omega) | omega, by go_num, GY.out, HB.out.trans ((BFw.out.trans ((bel_drewN _).mono BFw.out.size)).mono HB.out.size)⟩ | exact ⟨_, by first | (clear hwr; omega) | omega, by go_num, GY.out, HB.out.trans (BFw.out.mono HB.out.size)⟩
          case measure => first | (clear hwr; simp [intOf]; omega) | (simp [intOf]; omega)
        · rw [y1] at NM
          replace NM := Lib.hid NM
          obtain ⟨g', off', e, u0, u1, u2⟩ := isL_at HIS.out (show j < fn by omega)
          obtain ⟨rfl, rfl⟩ : g = g' ∧ off = off' := by simpa using e
          generalize fl.getD (j + 1) zero = f at *
          generalize fl.getD j zero = f' at *
          have e2 : decide (f.s < 0) = false := by simpa using y2
          have e3 : decide ((f.d.size : Int) < f.s) = false := by simpa using y3
          have e4 : decide (0 < j + 1) = true := by simp
          have hjn : j < fn := by omega
          have hwr : IntKind.i64.wrap (j : Int) = (j : Int) := IntWalk.i64_in _ ⟨by omega, by omega⟩
          clear y1 e u1 u2
          obtain ⟨i5, i6⟩ := less_yes i4
          go_wp2_with fail
          go_quiet ((go_at_call 22; exact Calls.quiet_of_same ((NM.out _).mono fun _ _ ⟨he, hw⟩ => ⟨he, hw.symm⟩)))
          go_wp2_with fail
          go_roundw
          case rel => first | exact ⟨_, by first | (clear hwr; omega) | omega, by go_num, GY.out, HB.out.trans ((BFw.out.trans ((bel_drewN _).mono BFw.out.size)).mono HB.out.size)⟩ | exact ⟨_, by first | (clear hwr; omega) | omega, by go_num, GY.out, HB.out.trans (BFw.out.mono HB.out.size)⟩
          case measure => first | (clear hwr; simp [intOf]; omega) | (simp [intOf]; omega)
    · have HBF := HRY.out (fun j hj => HALL.out j (by omega))
      replace HBF := Lib.hid HBF
      by_cases g1 : 0 ≤ dc
      · by_cases g2 : 0 ≤ dl
        · rw [decide_eq_true g1, decide_eq_true g2] at HBF
          go_wp2_with fail
          go_ret
          exact ⟨by rw [HBF.out]; rfl, HBW.out⟩
        · have g3 : dl < 0 := by omega
          rw [decide_eq_true g1, decide_eq_false g2] at HBF
          go_wp2_with fail
          go_ret
          exact ⟨by rw [HBF.out]; rfl, HBW.out⟩
      · have g3 : dc < 0 := by omega
        rw [decide_eq_false g1] at HBF
        go_wp2_with fail
        go_ret
        exact ⟨by rw [HBF.out]; rfl, HBW.out⟩

set_option maxRecDepth 100000 in
set_option maxHeartbeats 6400000 in
theorem right_any (fv : Value) (D : Dk) (b : Bool) (w : World) (hv : IsL FL w fv D.f) (hb : b = true ↔ Right D) :
    Calls Try.prog 8 #[dkVal fv D] w fun e w' => e = .returned (.bool b) ∧ Below w.heap.size w w' := by
  obtain ⟨fa, fn, fc, rfl⟩ : ∃ a n c, fv = .slice a n c := by obtain ⟨a, c, h, _⟩ := hv; exact ⟨a, _, c, h⟩
  have HV := Lib.hid hv
  have hl := hv.len.2
  have hfl := hv.len.1
  unfold maxLen at hl
  have hl2 : D.f.length ≤ 9223372036854775807 := by omega
  clear hl
  have HOK := Lib.hid hv.ok
  have HRN := Lib.hid (show ∀ k, k < D.f.length → ¬ AtOk D.f k → b = false from fun k hk hn => by
    rw [← Bool.not_eq_true, hb]
    exact fun hr => hn (right_at.1 hr.1 hr.2.1 k hk))
  have HRY := Lib.hid (show (∀ k, k < D.f.length → AtOk D.f k) → b = (decide (0 ≤ D.c) && decide (0 ≤ D.l)) from fun h => by
    obtain ⟨h1, h2⟩ := right_at.2 h
    rw [Bool.eq_iff_iff, hb]
    simp only [Right, Bool.and_eq_true, decide_eq_true_eq]
    exact ⟨fun h => h.2.2, fun h => ⟨h1, h2, h⟩⟩)
  rw [← hfl] at hl2 HRN HRY
  have HFL := Lib.hid hfl
  have G0 := Lib.hid (heap_alloc_new w (.cells #[.slice fa fn fc, .int .i64 D.c, .bool D.a, .int .i64 D.l, .bool D.x] 24))
  have B0 := Lib.hid ((Below.refl w.heap.size w).alloc (Nat.le_refl _) (.cells #[.slice fa fn fc, .int .i64 D.c, .bool D.a, .int .i64 D.l, .bool D.x] 24))
  have S0 := Lib.hid (show (w.alloc (.cells #[.slice fa fn fc, .int .i64 D.c, .bool D.a, .int .i64 D.l, .bool D.x] 24)).heap.size = w.heap.size + 1 by simp)
  obtain ⟨fl, dc, da, dl, dx⟩ := D
  dsimp only at *
  clear hv hb hfl
  unfold dkVal
  dsimp only
  obtain ⟨q0, q1, q2, q3, q4⟩ := cells5 G0.out
  go_enter Try.func8, Try.ntmps8
  go_wp2_with fail
  generalize World.alloc w _ = w0 at G0 B0 S0 q0 q1 q2 q3 q4 ⊢
  go_loopw [8] (fun i wr => ∃ k : Nat, k ≤ fn ∧ i = .int .i64 k ∧ (∀ j, j < k → AtOk fl j) ∧ Below w0.heap.size w0 wr) (fun i _ => fn - (intOf i).toNat)
  case atStart => exact ⟨0, Nat.zero_le _, rfl, fun j hj => absurd hj (Nat.not_lt_zero j), Below.refl _ _⟩
  case round =>
    clear q0 q1 q2 q3 q4
    obtain ⟨k, hk, rfl, hall, hB⟩ := hrel
    have HALL := Lib.hid hall
    have HB := Lib.hid hB
    have HBW := Lib.hid (B0.out.trans (hB.mono B0.out.size))
    have hh := hkeep G0.out hB
    obtain ⟨p0, p1, p2, p3, p4⟩ := cells5 hh
    have hwl := (Array.getElem?_eq_some_iff.1 hh).1
    clear hall hB hh
    by_cases hlt : k < fn
    · have HIS := Lib.hid (HV.out.keep HBW.out)
      obtain ⟨g, off, rfl, c0, c1, c2⟩ := isL_at HIS.out hlt
      have hfb := HOK.out _ (show fl.getD k zero ∈ fl by rw [getD_fl (by rw [← HFL.out]; exact hlt)]; exact List.getElem_mem _)
      have NM := fun W : World => mayName_any (fl.getD k zero).n W hfb.1
      have hgl := block_lt_of_cell c0
      have hz2 := hfb.2.1
      have hz1 := hfb.1
      clear hfb
      have BFw := Lib.hid ((Below.refl _ wr).alloc (Nat.le_refl _) (.cells #[.string (fl.getD k zero).n, .string (fl.getD k zero).d, .int .i64 (fl.getD k zero).s] 43))
      rcases at_cases fl k with ⟨hno, hbad⟩ | ⟨hyes, y1, y2, y3, hy⟩
      · have HBF := Lib.hid (HRN.out k hlt hno)
        clear hno
        rcases hbad with i1 | ⟨i1, i2⟩ | ⟨i1, i2, i3⟩ | ⟨i1, i2, i3, j, rfl, i4⟩
        · rw [i1] at NM
          replace NM := Lib.hid NM
          generalize fl.getD k zero = f at *
          clear i1
          go_wp2_with fail
          refine (NM.out _).mono ?_
          rintro e w4 ⟨rfl, rfl⟩
          go_wp2_with fail
          go_ret
          first | exact ⟨by rw [HBF.out]; rfl, HBW.out.trans (BFw.out.mono HBW.out.size)⟩ | exact ⟨by rw [HBF.out]; rfl, HBW.out.trans ((BFw.out.trans ((bel_drewN _).mono BFw.out.size)).mono HBW.out.size)⟩
        · rw [i1] at NM
          replace NM := Lib.hid NM
          generalize fl.getD k zero = f at *
          clear i1
          go_wp2_with fail
          refine (NM.out _).mono ?_
          rintro e w4 ⟨rfl, rfl⟩
          go_wp2_with fail
          go_ret
          first | exact ⟨by rw [HBF.out]; rfl, HBW.out.trans (BFw.out.mono HBW.out.size)⟩ | exact ⟨by rw [HBF.out]; rfl, HBW.out.trans ((BFw.out.trans ((bel_drewN _).mono BFw.out.size)).mono HBW.out.size)⟩
        · rw [i1] at NM
          replace NM := Lib.hid NM
          generalize fl.getD k zero = f at *
          have e2 : decide (f.s < 0) = false := by simpa using i2
          clear i1
          go_wp2_with fail
          refine (NM.out _).mono ?_
          rintro e w4 ⟨rfl, rfl⟩
          go_wp2_with fail
          go_ret
          first | exact ⟨by rw [HBF.out]; rfl, HBW.out.trans (BFw.out.mono HBW.out.size)⟩ | exact ⟨by rw [HBF.out]; rfl, HBW.out.trans ((BFw.out.trans ((bel_drewN _).mono BFw.out.size)).mono HBW.out.size)⟩
        · rw [i1] at NM
          replace NM := Lib.hid NM
          obtain ⟨g', off', e, u0, u1, u2⟩ := isL_at HIS.out (show j < fn by omega)
          obtain ⟨rfl, rfl⟩ : g = g' ∧ off = off' := by simpa using e
          generalize fl.getD (j + 1) zero = f at *
          generalize fl.getD j zero = f' at *
          have e2 : decide (f.s < 0) = false := by simpa using i2
          have e3 : decide ((f.d.size : Int) < f.s) = false := by simpa using i3
          have e4 : decide (0 < j + 1) = true := by simp
          have hjn : j < fn := by omega
          have hwr : IntKind.i64.wrap (j : Int) = (j : Int) := IntWalk.i64_in _ ⟨by omega, by omega⟩
          clear i1 e u1 u2
          go_wp2_with fail
          refine (NM.out _).mono ?_
          rintro e w4 ⟨rfl, rfl⟩
          go_wp2_with fail
          go_quiet (fail)
          go_wp2_with fail
          go_ret
          first | exact ⟨by rw [HBF.out]; rfl, HBW.out.trans (BFw.out.mono HBW.out.size)⟩ | exact ⟨by rw [HBF.out]; rfl, HBW.out.trans ((BFw.out.trans ((bel_drewN _).mono BFw.out.size)).mono HBW.out.size)⟩
      · have GY := Lib.hid (all_next HALL.out hyes)
        clear hyes
        rcases hy with rfl | ⟨j, rfl, i4⟩
        · rw [y1] at NM
          replace NM := Lib.hid NM
          simp only [Nat.zero_mul, Nat.add_zero] at c0 c1 c2
          generalize fl.getD 0 zero = f at *
          have e2 : decide (f.s < 0) = false := by simpa using y2
          have e3 : decide ((f.d.size : Int) < f.s) = false := by simpa using y3
          clear y1
          go_wp2_with fail
          refine (NM.out _).mono ?_
          rintro e w4 ⟨rfl, rfl⟩
          go_wp2_with fail
          go_quiet (fail)
          go_wp2_with fail
          go_roundw
          case rel => first | exact ⟨_, by first | (clear hwr; omega) | omega, by go_num, GY.out, HB.out.trans ((BFw.out.trans ((bel_drewN _).mono BFw.out.size)).mono HB.out.size)⟩ | exact ⟨_, by first | (clear hwr; omega) | omega, by go_num, GY.out, HB.out.trans (BFw.out.mono HB.out.size)⟩
          case measure => first | (clear hwr; simp [intOf]; omega) | (simp [intOf]; omega)
        · rw [y1] at NM
          replace NM := Lib.hid NM
          obtain ⟨g', off', e, u0, u1, u2⟩ := isL_at HIS.out (show j < fn by omega)
          obtain ⟨rfl, rfl⟩ : g = g' ∧ off = off' := by simpa using e
          generalize fl.getD (j + 1) zero = f at *
          generalize fl.getD j zero = f' at *
          have e2 : decide (f.s < 0) = false := by simpa using y2
          have e3 : decide ((f.d.size : Int) < f.s) = false := by simpa using y3
          have e4 : decide (0 < j + 1) = true := by simp
          have hjn : j < fn := by omega
          have hwr : IntKind.i64.wrap (j : Int) = (j : Int) := IntWalk.i64_in _ ⟨by omega, by omega⟩
          clear y1 e u1 u2
          go_wp2_with fail
          refine (NM.out _).mono ?_
          rintro e w4 ⟨rfl, rfl⟩
          go_wp2_with fail
          go_quiet (fail)
          go_wp2_with fail
          go_roundw
          case rel => first | exact ⟨_, by first | (clear hwr; omega) | omega, by go_num, GY.out, HB.out.trans ((BFw.out.trans ((bel_drewN _).mono BFw.out.size)).mono HB.out.size)⟩ | exact ⟨_, by first | (clear hwr; omega) | omega, by go_num, GY.out, HB.out.trans (BFw.out.mono HB.out.size)⟩
          case measure => first | (clear hwr; simp [intOf]; omega) | (simp [intOf]; omega)
    · have HBF := HRY.out (fun j hj => HALL.out j (by omega))
      replace HBF := Lib.hid HBF
      by_cases g1 : 0 ≤ dc
      · by_cases g2 : 0 ≤ dl
        · rw [decide_eq_true g1, decide_eq_true g2] at HBF
          go_wp2_with fail
          go_ret
          exact ⟨by rw [HBF.out]; rfl, HBW.out⟩
        · have g3 : dl < 0 := by omega
          rw [decide_eq_true g1, decide_eq_false g2] at HBF
          go_wp2_with fail
          go_ret
          exact ⟨by rw [HBF.out]; rfl, HBW.out⟩
      · have g3 : dc < 0 := by omega
        rw [decide_eq_false g1] at HBF
        go_wp2_with fail
        go_ret
        exact ⟨by rw [HBF.out]; rfl, HBW.out⟩

end Go.Proofs.Ytbkiecjbjehaoaa.Dsk
