/-
  Parts of what the laws of this seat stand on: DiskRight, Law12C, DiskOpen, DiskOpen2, ManOpen, StoKeep.
-/
import Derived.BigQuiet
import Derived.ChangeArms
import Derived.ChangeSame
import Derived.Deep.Fields
import Derived.Deep.Slices
import Derived.Deep.Strs
import Derived.IntWalk
import Derived.Laws.Cover1
import Derived.Lib.SmallJoins
import Derived.Test.YthhhocgpoenigaaGreatBu10
import Derived.Test.YthhhocgpoenigaaGreatBu13
import Derived.Test.YthhhocgpoenigaaGreatBu20
import Derived.Test.YthhhocgpoenigaaGreatBu22
import Derived.Test.YthhhocgpoenigaaGreatBu32
import Derived.Test.YthhhocgpoenigaaGreatBu33
import Derived.Test.YthhhocgpoenigaaGreatBu6
namespace Go.Proofs.YthhhocgpoenigaaGreat.Dp

/-- Is the file at a place as it may be, and behind the one ahead of it? -/
def AtOk (l : List Fl) (k : Nat) : Prop := FOk (l.getD k Dsk.zero) ∧ (0 < k → Lt (l.getD (k - 1) Dsk.zero).n (l.getD k Dsk.zero).n)
theorem up_adj {l : List Fl} (h : ∀ k, k + 1 < l.length → Lt (l.getD k Dsk.zero).n (l.getD (k + 1) Dsk.zero).n) : Up l := by
  unfold Up
  rw [List.pairwise_iff_getElem]
  intro i j hi hj hij
  obtain ⟨d, rfl⟩ : ∃ d, j = i + d + 1 := ⟨j - i - 1, by omega⟩
  induction d with
  | zero =>
    have := h i hj
    rw [getD_fl hi, getD_fl hj] at this
    exact this
  | succ d ih =>
    have h1 := ih (by omega) (by omega)
    have h2 := h (i + d + 1) hj
    rw [getD_fl (show i + d + 1 < l.length by omega), getD_fl (show i + d + 1 + 1 < l.length from hj)] at h2
    exact h1.trans h2
theorem right_at {l : List Fl} : ((∀ f ∈ l, FOk f) → Up l → ∀ k, k < l.length → AtOk l k) ∧ ((∀ k, k < l.length → AtOk l k) → (∀ f ∈ l, FOk f) ∧ Up l) := by
  constructor
  · intro h1 h2 k hk
    refine ⟨by rw [getD_fl hk]; exact h1 _ (List.getElem_mem hk), fun h0 => ?_⟩
    rw [getD_fl hk, getD_fl (by omega : k - 1 < l.length)]
    exact List.pairwise_iff_getElem.1 h2 (k - 1) k (by omega) hk (by omega)
  · intro h
    refine ⟨fun f hf => ?_, up_adj fun k hk => ?_⟩
    · obtain ⟨k, hk, rfl⟩ := List.getElem_of_mem hf
      have := (h k hk).1
      rw [getD_fl hk] at this
      exact this
    · exact (h (k + 1) hk).2 (by omega)
theorem less_no {a b : ByteArray} (h : Op.bytesLess a.toList b.toList = false) : (Op.bytesLess b.toList a.toList = true) ∨ (Op.bytesLess b.toList a.toList = false ∧ (b.toList == a.toList) = true) := by
  rw [Dsk.less_eq] at h
  have h1 : ¬ Lt a b := by simpa using h
  by_cases h2 : Lt b a
  · exact .inl (by rw [Dsk.less_eq, decide_eq_true h2])
  · refine .inr ⟨by rw [Dsk.less_eq, decide_eq_false h2], ?_⟩
    rcases lt_tri a b with h | h | h
    · exact absurd h h1
    · rw [h]; simp
    · exact absurd h h2
theorem less_yes {a b : ByteArray} (h : Op.bytesLess a.toList b.toList = true) : Op.bytesLess b.toList a.toList = false ∧ (b.toList == a.toList) = false := by
  rw [Dsk.less_eq] at h
  have h1 : Lt a b := by simpa using h
  exact ⟨by rw [Dsk.less_eq, decide_eq_false h1.asymm], Dsk.str_ne fun e => h1.ne e.symm⟩
/-- What a round finds. -/
theorem at_cases (l : List Fl) (k : Nat) :
    (¬ AtOk l k ∧ (decide (Named (l.getD k Dsk.zero).n) = false ∨ (decide (Named (l.getD k Dsk.zero).n) = true ∧ (l.getD k Dsk.zero).s < 0) ∨ (decide (Named (l.getD k Dsk.zero).n) = true ∧ 0 ≤ (l.getD k Dsk.zero).s ∧ ((l.getD k Dsk.zero).d.size : Int) < (l.getD k Dsk.zero).s) ∨
      (decide (Named (l.getD k Dsk.zero).n) = true ∧ 0 ≤ (l.getD k Dsk.zero).s ∧ (l.getD k Dsk.zero).s ≤ ((l.getD k Dsk.zero).d.size : Int) ∧ ∃ j, k = j + 1 ∧ Op.bytesLess (l.getD j Dsk.zero).n.toList (l.getD k Dsk.zero).n.toList = false))) ∨
    (AtOk l k ∧ decide (Named (l.getD k Dsk.zero).n) = true ∧ 0 ≤ (l.getD k Dsk.zero).s ∧ (l.getD k Dsk.zero).s ≤ ((l.getD k Dsk.zero).d.size : Int) ∧ (k = 0 ∨ ∃ j, k = j + 1 ∧ Op.bytesLess (l.getD j Dsk.zero).n.toList (l.getD k Dsk.zero).n.toList = true)) := by
  by_cases h1 : Named (l.getD k Dsk.zero).n
  · by_cases h2 : (l.getD k Dsk.zero).s < 0
    · exact .inl ⟨fun h => by have := h.1.2.1; omega, .inr (.inl ⟨decide_eq_true h1, h2⟩)⟩
    · by_cases h3 : ((l.getD k Dsk.zero).d.size : Int) < (l.getD k Dsk.zero).s
      · exact .inl ⟨fun h => by have := h.1.2.2; omega, .inr (.inr (.inl ⟨decide_eq_true h1, by omega, h3⟩))⟩
      · cases k with
        | zero => exact .inr ⟨⟨⟨h1, by omega, by omega⟩, fun h => absurd h (Nat.lt_irrefl 0)⟩, decide_eq_true h1, by omega, by omega, .inl rfl⟩
        | succ j =>
          by_cases h4 : Lt (l.getD j Dsk.zero).n (l.getD (j + 1) Dsk.zero).n
          · exact .inr ⟨⟨⟨h1, by omega, by omega⟩, fun _ => h4⟩, decide_eq_true h1, by omega, by omega, .inr ⟨j, rfl, by rw [Dsk.less_eq, decide_eq_true h4]⟩⟩
          · exact .inl ⟨fun h => h4 (h.2 (by omega)), .inr (.inr (.inr ⟨decide_eq_true h1, by omega, by omega, j, rfl, by rw [Dsk.less_eq, decide_eq_false h4]⟩))⟩
  · exact .inl ⟨fun h => h1 h.1.1, .inl (decide_eq_false h1)⟩
theorem all_next {l : List Fl} {k : Nat} (h : ∀ j, j < k → AtOk l j) (hk : AtOk l k) : ∀ j, j < k + 1 → AtOk l j := by
  intro j hj
  by_cases e : j = k
  · subst e; exact hk
  · exact h j (by omega)

end Go.Proofs.YthhhocgpoenigaaGreat.Dp
namespace Go.Proofs.YthhhocgpoenigaaGreat.Dsk
open Go.RowKit Go.Proofs.YthhhocgpoenigaaGreat.Dp

set_option maxRecDepth 100000 in
set_option maxHeartbeats 6400000 in
theorem rright_any (fv : Value) (D : Dk) (b : Bool) (w : World) (hv : IsL FL w fv D.f) (hb : b = true ↔ Right D) :
    Calls Tryz.prog 20 #[dkVal fv D] w fun e w' => e = .returned (.bool b) ∧ Below w.heap.size w w' := by
  obtain ⟨fa, fn, fc, rfl⟩ : ∃ a n c, fv = .slice a n c := by obtain ⟨a, c, h, _⟩ := hv; exact ⟨a, _, c, h⟩
  have HV := Lib.hid hv
  have hl := hv.len.2
  have hfl := hv.len.1
  unfold maxLen at hl
  have hl2 : D.f.length ≤ 9223372036854775807 := by omega
  clear hl
  have HOK := Lib.hid hv.ok
  have HRN := Lib.hid (show ∀ k, k < D.f.length → ¬ AtOk D.f k → b = false from fun k hk hn => by
    rw [← Bool.not_eq_true, hb]
    exact fun hr => hn (right_at.1 hr.1 hr.2.1 k hk))
  have HRY := Lib.hid (show (∀ k, k < D.f.length → AtOk D.f k) → b = (decide (0 ≤ D.c) && decide (0 ≤ D.l)) from fun h => by
    obtain ⟨h1, h2⟩ := right_at.2 h
    rw [Bool.eq_iff_iff, hb]
    simp only [Right, Bool.and_eq_true, decide_eq_true_eq]
    exact ⟨fun h => h.2.2, fun h => ⟨h1, h2, h⟩⟩)
  rw [← hfl] at hl2 HRN HRY
  have HFL := Lib.hid hfl
  have G0 := Lib.hid (heap_alloc_new w (.cells #[.slice fa fn fc, .int .i64 D.c, .bool D.a, .int .i64 D.l, .bool D.x] 27))
  have B0 := Lib.hid ((Below.refl w.heap.size w).alloc (Nat.le_refl _) (.cells #[.slice fa fn fc, .int .i64 D.c, .bool D.a, .int .i64 D.l, .bool D.x] 27))
  have S0 := Lib.hid (show (w.alloc (.cells #[.slice fa fn fc, .int .i64 D.c, .bool D.a, .int .i64 D.l, .bool D.x] 27)).heap.size = w.heap.size + 1 by simp)
  obtain ⟨fl, dc, da, dl, dx⟩ := D
  dsimp only at *
  clear hv hb hfl
  unfold dkVal
  dsimp only
  obtain ⟨q0, q1, q2, q3, q4⟩ := cells5 G0.out
  go_enter Tryz.func20, Tryz.ntmps20
  go_wp2_with fail
  generalize World.alloc w _ = w0 at G0 B0 S0 q0 q1 q2 q3 q4 ⊢
  go_loopw [3] (fun i wr => ∃ k : Nat, k ≤ fn ∧ i = .int .i64 k ∧ (∀ j, j < k → AtOk fl j) ∧ Below w0.heap.size w0 wr) (fun i _ => fn - (intOf i).toNat)
  case atStart => exact ⟨0, Nat.zero_le _, rfl, fun j hj => absurd hj (Nat.not_lt_zero j), Below.refl _ _⟩
  case round =>
    clear q0 q1 q2 q3 q4
    obtain ⟨k, hk, rfl, hall, hB⟩ := hrel
    have HALL := Lib.hid hall
    have HB := Lib.hid hB
    have HBW := Lib.hid (B0.out.trans (hB.mono B0.out.size))
    have hh := hkeep G0.out hB
    obtain ⟨p0, p1, p2, p3, p4⟩ := cells5 hh
    have hwl := (Array.getElem?_eq_some_iff.1 hh).1
    clear hall hB hh
    by_cases hlt : k < fn
    · have HIS := Lib.hid (HV.out.keep HBW.out)
      obtain ⟨g, off, rfl, c0, c1, c2⟩ := isL_at HIS.out hlt
      have hfb := HOK.out _ (show fl.getD k zero ∈ fl by rw [getD_fl (by rw [← HFL.out]; exact hlt)]; exact List.getElem_mem _)
      have NM := fun W : World => named_any (fl.getD k zero).n W hfb.1
      have hgl := block_lt_of_cell c0
      have hz2 := hfb.2.1
      have hz1 := hfb.1
      clear hfb
      have BFw := Lib.hid ((Below.refl _ wr).alloc (Nat.le_refl _) (.cells #[.string (fl.getD k zero).n, .string (fl.getD k zero).d, .int .i64 (fl.getD k zero).s] 81))
      rcases at_cases fl k with ⟨hno, hbad⟩ | ⟨hyes, y1, y2, y3, hy⟩
      · have HBF := Lib.hid (HRN.out k hlt hno)
        clear hno
        rcases hbad with i1 | ⟨i1, i2⟩ | ⟨i1, i2, i3⟩ | ⟨i1, i2, i3, j, rfl, i4⟩
        · rw [i1] at NM
          replace NM := Lib.hid NM
          generalize fl.getD k zero = f at *
          clear i1
          go_wp2_with fail
          go_quiet ((go_at_call 43; exact Calls.quiet_of_same ((NM.out _).mono fun _ _ ⟨he, hw⟩ => ⟨he, hw.symm⟩)))
          go_wp2_with fail
          go_ret
          first | exact ⟨by rw [HBF.out]; rfl, HBW.out.trans (BFw.out.mono HBW.out.size)⟩ | exact ⟨by rw [HBF.out]; rfl, HBW.out.trans ((BFw.out.trans ((bel_drewN _).mono BFw.out.size)).mono HBW.out.size)⟩
        · rw [i1] at NM
          replace NM := Lib.hid NM
          generalize fl.getD k zero = f at *
          clear i1
          go_wp2_with fail
          go_quiet ((go_at_call 43; exact Calls.quiet_of_same ((NM.out _).mono fun _ _ ⟨he, hw⟩ => ⟨he, hw.symm⟩)))
          go_wp2_with fail
          go_ret
          first | exact ⟨by rw [HBF.out]; rfl, HBW.out.trans (BFw.out.mono HBW.out.size)⟩ | exact ⟨by rw [HBF.out]; rfl, HBW.out.trans ((BFw.out.trans ((bel_drewN _).mono BFw.out.size)).mono HBW.out.size)⟩
        · rw [i1] at NM
          replace NM := Lib.hid NM
          generalize fl.getD k zero = f at *
          have e2 : decide (f.s < 0) = false := by simpa using i2
          clear i1
          go_wp2_with fail
          go_quiet ((go_at_call 43; exact Calls.quiet_of_same ((NM.out _).mono fun _ _ ⟨he, hw⟩ => ⟨he, hw.symm⟩)))
          go_wp2_with fail
          go_ret
          first | exact ⟨by rw [HBF.out]; rfl, HBW.out.trans (BFw.out.mono HBW.out.size)⟩ | exact ⟨by rw [HBF.out]; rfl, HBW.out.trans ((BFw.out.trans ((bel_drewN _).mono BFw.out.size)).mono HBW.out.size)⟩
        · rw [i1] at NM
          replace NM := Lib.hid NM
          obtain ⟨g', off', e, u0, u1, u2⟩ := isL_at HIS.out (show j < fn by omega)
          obtain ⟨rfl, rfl⟩ : g = g' ∧ off = off' := by simpa using e
          generalize fl.getD (j + 1) zero = f at *
          generalize fl.getD j zero = f' at *
          have e2 : decide (f.s < 0) = false := by simpa using i2
          have e3 : decide ((f.d.size : Int) < f.s) = false := by simpa using i3
          have e4 : decide (0 < j + 1) = true := by simp
          have hjn : j < fn := by omega
          have hwr : IntKind.i64.wrap (j : Int) = (j : Int) := IntWalk.i64_in _ ⟨by omega, by omega⟩
          clear i1 e u1 u2
          rcases less_no i4 with i5 | ⟨i5, i6⟩
          all_goals
            go_wp2_with fail
            go_quiet ((go_at_call 43; exact Calls.quiet_of_same ((NM.out _).mono fun _ _ ⟨he, hw⟩ => ⟨he, hw.symm⟩)))
            go_wp2_with fail
            go_ret
            first | exact ⟨by rw [HBF.out]; rfl, HBW.out.trans (BFw.out.mono HBW.out.size)⟩ | exact ⟨by rw [HBF.out]; rfl, HBW.out.trans ((BFw.out.trans ((bel_drewN _).mono BFw.out.size)).mono HBW.out.size)⟩
      · have GY := Lib.hid (all_next HALL.out hyes)
        clear hyes
        rcases hy with rfl | ⟨j, rfl, i4⟩
        · rw [y1] at NM
          replace NM := Lib.hid NM
          simp only [Nat.zero_mul, Nat.add_zero] at c0 c1 c2
          generalize fl.getD 0 zero = f at *
          have e2 : decide (f.s < 0) = false := by simpa using y2
          have e3 : decide ((f.d.size : Int) < f.s) = false := by simpa using y3
          clear y1
          go_wp2_with fail
          go_quiet ((go_at_call 43; exact Calls.quiet_of_same ((NM.out _).mono fun _ _ ⟨he, hw⟩ => ⟨he, hw.symm⟩)))
          go_wp2_with fail
          go_roundw
          case rel => first | exact ⟨_, by first | (clear hwr; omega) | omega, by go_num, GY.out, HB.out.trans ((BFw.out.trans ((bel_drewN _).mono BFw.out.size)).mono HB.out.size)⟩ | exact ⟨_, by first | (clear hwr; omega) | omega, by go_num, GY.out, HB.out.trans (BFw.out.mono HB.out.size)⟩
          case measure => first | (clear hwr; simp [intOf]; omega) | (simp [intOf]; omega)
        · rw [y1] at NM
          replace NM := Lib.hid NM
          obtain ⟨g', off', e, u0, u1, u2⟩ := isL_at HIS.out (show j < fn by omega)
          obtain ⟨rfl, rfl⟩ : g = g' ∧ off = off' := by simpa using e
          generalize fl.getD (j + 1) zero = f at *
          generalize fl.getD j zero = f' at *
          have e2 : decide (f.s < 0) = false := by simpa using y2
          have e3 : decide ((f.d.size : Int) < f.s) = false := by simpa using y3
          have e4 : decide (0 < j + 1) = true := by simp
          have hjn : j < fn := by omega
          have hwr : IntKind.i64.wrap (j : Int) = (j : Int) := IntWalk.i64_in _ ⟨by omega, by omega⟩
          clear y1 e u1 u2
          obtain ⟨i5, i6⟩ := less_yes i4
          go_wp2_with fail
          go_quiet ((go_at_call 43; exact Calls.quiet_of_same ((NM.out _).mono fun _ _ ⟨he, hw⟩ => ⟨he, hw.symm⟩)))
          go_wp2_with fail
          go_roundw
          case rel => first | exact ⟨_, by first | (clear hwr; omega) | omega, by go_num, GY.out, HB.out.trans ((BFw.out.trans ((bel_drewN _).mono BFw.out.size)).mono HB.out.size)⟩ | exact ⟨_, by first | (clear hwr; omega) | omega, by go_num, GY.out, HB.out.trans (BFw.out.mono HB.out.size)⟩
          case measure => first | (clear hwr; simp [intOf]; omega) | (simp [intOf]; omega)
    · have HBF := HRY.out (fun j hj => HALL.out j (by omega))
      replace HBF := Lib.hid HBF
      by_cases g1 : 0 ≤ dc
      · by_cases g2 : 0 ≤ dl
        · rw [decide_eq_true g1, decide_eq_true g2] at HBF
          go_wp2_with fail
          go_ret
          exact ⟨by rw [HBF.out]; rfl, HBW.out⟩
        · have g3 : dl < 0 := by omega
          rw [decide_eq_true g1, decide_eq_false g2] at HBF
          go_wp2_with fail
          go_ret
          exact ⟨by rw [HBF.out]; rfl, HBW.out⟩
      · have g3 : dc < 0 := by omega
        rw [decide_eq_false g1] at HBF
        go_wp2_with fail
        go_ret
        exact ⟨by rw [HBF.out]; rfl, HBW.out⟩

end Go.Proofs.YthhhocgpoenigaaGreat.Dsk

namespace Go.Proofs.YthhhocgpoenigaaGreat.Sto
open Go.RowKit Go.Proofs.YthhhocgpoenigaaGreat.So Go.Proofs.YthhhocgpoenigaaGreat.Dsk Go.Proofs.YthhhocgpoenigaaGreat.Rts

theorem few_bd {D : Dp.Dk} (hB : DkB D) (hR : Dp.Right D) (h : FewF D.f) : Bd D 40 := by
  have key : ∀ l : List Dp.Fl, (∀ f ∈ l, f.d.size ≤ 3000) → Dp.used l ≤ 3000 * l.length := by
    intro l
    induction l with
    | nil => intro _; exact Nat.le_refl _
    | cons f l ih =>
      intro h
      have h1 := h f (by simp)
      have h2 := ih fun g hg => h g (by simp [hg])
      rw [Dp.used_cons, List.length_cons]
      omega
  refine ⟨hB, hR, h.1, ?_⟩
  have := key D.f fun f hf => (h.2 f hf).1
  have := h.1
  omega
theorem exB (p : Prop) : ∃ b : Bool, b = true ↔ p := by
  by_cases h : p
  · exact ⟨true, fun _ => h, fun _ => rfl⟩
  · exact ⟨false, fun e => (by cases e), fun e => absurd e h⟩
/-- A disk and a manifest in boxes. -/
structure Dm (b : Nat) (fv : Value) (D : Dp.Dk) (ma : Option Addr) (mn mc : Nat) (m : Qm.Mn) (W : World) : Prop where
  d : W.heap[b]? = some (.cells #[fv, .int .i64 D.c, .bool D.a, .int .i64 D.l, .bool D.x] 27 (0, 0))
  e : W.heap[b + 1]? = some (.cells #[.int .i64 m.v, .slice ma mn mc, .int .i64 m.z, .int .u32 m.c] 43 (0, 0))
  f : IsL FL W fv D.f
  m : IsL Mfs.IL W (.slice ma mn mc) m.l
theorem Dm.keep {b : Nat} {fv : Value} {D : Dp.Dk} {ma : Option Addr} {mn mc : Nat} {m : Qm.Mn} {W W' : World} (h : Dm b fv D ma mn mc m W) (k : Below W.heap.size W W') : Dm b fv D ma mn mc m W' := ⟨hkeep h.d k, hkeep h.e k, h.f.keep k, h.m.keep k⟩

/-- Two disks of one kind in boxes. -/
structure Cq (t1 t2 : Nat) (v1 v2 : Value) (D : Dp.Dk) (W : World) : Prop where
  a : W.heap[t1]? = some (.cells #[v1, .int .i64 D.c, .bool D.a, .int .i64 D.l, .bool D.x] 27 (0, 0))
  b : W.heap[t2]? = some (.cells #[v2, .int .i64 D.c, .bool D.a, .int .i64 D.l, .bool D.x] 27 (0, 0))
  f : IsL FL W v1 D.f
  g : IsL FL W v2 D.f
theorem Cq.keep {t1 t2 : Nat} {v1 v2 : Value} {D : Dp.Dk} {W W' : World} (h : Cq t1 t2 v1 v2 D W) (k : Below W.heap.size W W') : Cq t1 t2 v1 v2 D W' := ⟨hkeep h.a k, hkeep h.b k, h.f.keep k, h.g.keep k⟩

set_option maxRecDepth 100000 in
set_option maxHeartbeats 6400000 in
theorem creates12 (fv : Value) (D : Dp.Dk) (ma : Option Addr) (mn mc : Nat) (m : Qm.Mn) (w : World) (hv : IsL FL w fv D.f) (hB : DkB D) (hm : IsL Mfs.IL w (.slice ma mn mc) m.l) (hM : Mfs.MnB m) :
    Calls Tryz.prog 4 #[dkVal fv D, Mfs.mnVal ma mn mc m] w fun e w' => e = .returned (.bool true) ∧ Below w.heap.size w w' := by
  obtain ⟨fa, fn, fc, rfl⟩ : ∃ a n c, fv = .slice a n c := by obtain ⟨a, c, h, _⟩ := hv; exact ⟨a, _, c, h⟩
  have AW := Lib.hid fun W : World => awake12 W
  obtain ⟨g0, g1, gb, gs⟩ := boxes2 w #[.slice fa fn fc, .int .i64 D.c, .bool D.a, .int .i64 D.l, .bool D.x] #[.int .i64 m.v, .slice ma mn mc, .int .i64 m.z, .int .u32 m.c] 27 43
  obtain ⟨bf, hbf⟩ : ∃ b, decide (FewF D.f) = b := ⟨_, rfl⟩
  obtain ⟨br, hbr⟩ := exB (Dp.Right D)
  obtain ⟨bm, hbm⟩ := exB (Qm.Ok m)
  have FW := Lib.hid fun (W : World) (h : IsL FL W (.slice fa fn fc) D.f) => rfew_any (.slice fa fn fc) D bf W h hbf
  have RT := Lib.hid fun (W : World) (h : IsL FL W (.slice fa fn fc) D.f) => Dsk.rright_any (.slice fa fn fc) D br W h hbr
  have RM := Lib.hid fun (W : World) (h : IsL Mfs.IL W (.slice ma mn mc) m.l) => Mfs.rright10_any ma mn mc m bm W h hM hbm
  have D0 := Lib.hid (show Dm w.heap.size (.slice fa fn fc) D ma mn mc m _ from ⟨g0, g1, hv.keep gb, hm.keep gb⟩)
  have L0 := Lib.hid gb
  have HSP := Lib.hid (show Sep (.slice fa fn fc) w.heap.size from IsL.sep_new hv (Nat.le_refl _))
  have hw0 : w.heap.size < ((w.alloc (.cells #[.slice fa fn fc, .int .i64 D.c, .bool D.a, .int .i64 D.l, .bool D.x] 27)).alloc (.cells #[.int .i64 m.v, .slice ma mn mc, .int .i64 m.z, .int .u32 m.c] 43)).heap.size := by rw [gs]; omega
  have HALL := Lib.hid (show (bf && (br && bm)) = true → FewF D.f ∧ Dp.Right D ∧ Qm.Ok m from fun h => by
    rw [Bool.and_eq_true, Bool.and_eq_true] at h
    exact ⟨of_decide_eq_true (hbf.trans h.1), hbr.1 h.2.1, hbm.1 h.2.2⟩)
  have HBD := Lib.hid hB
  clear hv hm hbf hbr hbm g0 g1 gb gs
  unfold dkVal at FW RT
  unfold Mfs.mnVal at RM
  unfold dkVal Mfs.mnVal
  go_enter Tryz.func4, Tryz.ntmps4
  go_upto_region 1 with (fail)
  generalize (w.alloc (.cells #[.slice fa fn fc, .int .i64 D.c, .bool D.a, .int .i64 D.l, .bool D.x] 27)).alloc _ = w0 at D0 L0 hw0 ⊢
  obtain ⟨B, hBe⟩ : ∃ B, (bf && (br && bm)) = B := ⟨_, rfl⟩
  rw [hBe] at HALL
  have HBE := Lib.hid hBe
  clear hBe
  obtain ⟨d0, d1, d2, d3, d4⟩ := cells5 D0.out.d
  obtain ⟨e0, e1, e2, e3⟩ := cellsM D0.out.e
  go_cut [25] (fun p we => p = .bool (!B) ∧ Below w0.heap.size w0 we)
  case first =>
    cases bf with
    | false =>
      go_wp2_with fail
      refine (FW.out _ D0.out.f).mono ?_
      rintro e w1 ⟨rfl, b1⟩
      have BB := Lib.hid b1
      clear b1
      go_wp2_with fail
      go_meet
      case rel => exact ⟨by rw [← HBE.out]; rfl, BB.out⟩
    | true =>
      go_wp2_with fail
      refine (FW.out _ D0.out.f).mono ?_
      rintro e w1 ⟨rfl, b1⟩
      have D1 := D0.out.keep b1
      have BB := Lib.hid b1
      clear b1 d0 d1 d2 d3 d4 e0 e1 e2 e3
      obtain ⟨d0, d1, d2, d3, d4⟩ := cells5 D1.d
      obtain ⟨e0, e1, e2, e3⟩ := cellsM D1.e
      have DH := Lib.hid D1
      clear D1
      cases br with
      | false =>
        go_wp2_with fail
        refine (RT.out _ DH.out.f).mono ?_
        rintro e w2 ⟨rfl, b2⟩
        have BC := Lib.hid (BB.out.trans (b2.mono BB.out.size))
        clear b2
        go_wp2_with fail
        go_meet
        case rel => exact ⟨by rw [← HBE.out]; rfl, BC.out⟩
      | true =>
        go_wp2_with fail
        refine (RT.out _ DH.out.f).mono ?_
        rintro e w2 ⟨rfl, b2⟩
        have D2 := DH.out.keep b2
        have BC := Lib.hid (BB.out.trans (b2.mono BB.out.size))
        clear b2 d0 d1 d2 d3 d4 e0 e1 e2 e3
        obtain ⟨e0, e1, e2, e3⟩ := cellsM D2.e
        have DI := Lib.hid D2
        clear D2
        go_wp2_with fail
        refine (RM.out _ DI.out.m).mono ?_
        rintro e w3 ⟨rfl, b3⟩
        have BD := Lib.hid (BC.out.trans (b3.mono BC.out.size))
        clear b3
        go_wp2_with fail
        go_meet
        case rel => exact ⟨by rw [← HBE.out]; rfl, BD.out⟩
  case rest =>
    clear d0 d1 d2 d3 d4 e0 e1 e2 e3 FW RT RM
    obtain ⟨rfl, LT⟩ := hcut
    have E0 := D0.out.keep LT
    have L1 := Lib.hid (L0.out.trans (LT.mono L0.out.size))
    have hwc : w.heap.size < wc.heap.size := Nat.lt_of_lt_of_le hw0 LT.size
    clear LT
    cases B with
    | false =>
      clear E0
      go_wp2_with fail
      refine (AW.out _).mono ?_
      rintro e w2 ⟨rfl, b2⟩
      have L2 := Lib.hid (L1.out.trans (b2.mono L1.out.size))
      clear b2
      go_wp2_with fail
      go_ret
      exact ⟨rfl, L2.out⟩
    | true =>
      obtain ⟨h1, h2, h3⟩ := HALL.out rfl
      have hbd := few_bd HBD.out h2 h1
      have hbd2 : Bd { D with f := [] } 0 := ⟨HBD.out, ⟨fun f hf => (by cases hf), List.Pairwise.nil, h2.2.2⟩, Nat.le_refl _, Nat.le_refl _⟩
      have SW := Lib.hid fun (W : World) (f1 : IsL FL W (.slice fa fn fc) D.f) (f2 : IsL Mfs.IL W (.slice ma mn mc) m.l) => swap12_any fa fn fc D ma mn mc m W 40 f1 f2 hbd (by decide) hM
      have SX := Lib.hid fun (W : World) (f1 : IsL FL W (.slice fa fn fc) D.f) (f2 : IsL Mfs.IL W (.slice ma mn mc) m.l) => rswap_any fa fn fc D ma mn mc m W 40 f1 f2 hbd (by decide) hM
      obtain ⟨⟨D1, E1⟩, hsw⟩ : ∃ R, swap D m = R := ⟨_, rfl⟩
      rw [hsw] at SW SX
      have CR := Lib.hid fun W : World => create12_any none 0 0 { D with f := [] } W 0 (IsL.nil W none 0) hbd2 (by decide)
      have CX := Lib.hid fun W : World => rcreate12_any none 0 0 { D with f := [] } W 0 (IsL.nil W none 0) hbd2 (by decide)
      obtain ⟨⟨T, E2⟩, hcr⟩ : ∃ R, createT { D with f := [] } = R := ⟨_, rfl⟩
      rw [hcr] at CR CX
      unfold dkVal Mfs.mnVal at SW SX
      unfold dkVal at CR CX
      dsimp only at CR CX
      obtain ⟨d0, d1, d2, d3, d4⟩ := cells5 E0.d
      obtain ⟨e0, e1, e2, e3⟩ := cellsM E0.e
      have DH := Lib.hid E0
      clear E0 h1 h2 h3 hbd hbd2 hsw hcr HALL
      go_wp2_with fail
      refine (SW.out _ DH.out.f DH.out.m).mono ?_
      rintro e w2 ⟨a1, n1, c1, rfl, k1⟩
      have al := (Below.refl w2.heap.size w2).alloc (Nat.le_refl _) (.cells #[.slice a1 n1 c1, .int .i64 D1.c, .bool D1.a, .int .i64 D1.l, .bool D1.x] 27)
      have E2h := (DH.out.keep k1.w).keep al
      have X1 := Lib.hid (heap_alloc_new w2 (.cells #[.slice a1 n1 c1, .int .i64 D1.c, .bool D1.a, .int .i64 D1.l, .bool D1.x] 27))
      have F1 := Lib.hid (k1.f.keep al)
      have SP1 := Lib.hid (k1.s w.heap.size hwc HSP.out)
      have L2 := Lib.hid ((L1.out.trans (k1.w.mono L1.out.size)).trans (al.mono (Nat.le_trans L1.out.size k1.w.size)))
      have hlt2 : w.heap.size < w2.heap.size := Nat.lt_of_lt_of_le hwc k1.w.size
      clear d0 d1 d2 d3 d4 e0 e1 e2 e3 k1 al SW
      obtain ⟨d0, d1, d2, d3, d4⟩ := cells5 E2h.d
      obtain ⟨e0, e1, e2, e3⟩ := cellsM E2h.e
      have DI := Lib.hid E2h
      clear E2h DH
      unfold dkVal
      dsimp only
      go_wp2_with fail
      refine (SX.out _ DI.out.f DI.out.m).mono ?_
      rintro e w4 ⟨a3, n3, c3, rfl, k3⟩
      have al4 := (Below.refl w4.heap.size w4).alloc (Nat.le_refl _) (.cells #[.slice a3 n3 c3, .int .i64 D1.c, .bool D1.a, .int .i64 D1.l, .bool D1.x] 27)
      have X3 := Lib.hid (heap_alloc_new w4 (.cells #[.slice a3 n3 c3, .int .i64 D1.c, .bool D1.a, .int .i64 D1.l, .bool D1.x] 27))
      have Y1 := hkeep (hkeep X1.out k3.w) al4
      have F3 := k3.f.keep al4
      have F1b := ((F1.out.keep k3.w).keep al4)
      have E4 := (DI.out.keep k3.w).keep al4
      have SP3 := k3.s w.heap.size (by simp; omega) HSP.out
      have sz4 := k3.w.size
      have L4 := (L2.out.trans (k3.w.mono L2.out.size)).trans (al4.mono (Nat.le_trans L2.out.size k3.w.size))
      -- the disk's files go
      have Y2 := Lib.hid ((Below.heap_setCell _ ⟨w.heap.size, 0, none⟩ (.slice none 0 0) w2.heap.size (by show w2.heap.size ≠ w.heap.size; omega)).trans Y1)
      have Y3 := Lib.hid ((Below.heap_setCell _ ⟨w.heap.size, 0, none⟩ (.slice none 0 0) w4.heap.size (by show w4.heap.size ≠ w.heap.size; simp at sz4; omega)).trans X3.out)
      have G1 := Lib.hid (IsL.setC F1b SP1.out 0 (.slice none 0 0))
      have G3 := Lib.hid (IsL.setC F3 SP3 0 (.slice none 0 0))
      have L5 := Lib.hid (L4.setCell (p := ⟨w.heap.size, 0, none⟩) (Nat.le_refl _) (.slice none 0 0))
      have DB := Lib.hid (heap_setCell_same _ _ 0 _ _ (.slice none 0 0) E4.d)
      clear d0 d1 d2 d3 d4 e0 e1 e2 e3 SX
      obtain ⟨d0, d1, d2, d3, d4⟩ := cells5 E4.d
      have df := (frozen5 E4.d).1
      clear k3 al4 X3 Y1 F3 F1b E4 SP3 sz4 L4 F1 X1 SP1 DI
      unfold dkVal
      dsimp only
      go_upto_region 6 with (fail)
      generalize World.setCell _ _ _ = w5 at Y2 Y3 G1 G3 L5 DB ⊢
      have y2 := Y2.out
      have y3 := Y3.out
      generalize w2.heap.size = t1 at y2 ⊢
      generalize w4.heap.size = t2 at y3 ⊢
      have DBo := DB.out
      clear Y2 Y3 DB d0 d1 d2 d3 d4 df
      obtain ⟨d0, d1, d2, d3, d4⟩ := cells5 DBo
      go_wp2_with fail
      refine (CR.out _).mono ?_
      rintro e w6 ⟨a5, n5, c5, a6, n6, c6, rfl, k6⟩
      have CQ := Lib.hid (show Cq t1 t2 _ _ D1 w5 from ⟨y2, y3, G1.out, G3.out⟩)
      have al6 := (Below.refl w6.heap.size w6).alloc (Nat.le_refl _) (.cells #[.slice a5 n5 c5, .int .i64 T.d.c, .bool T.d.a, .int .i64 T.d.l, .bool T.d.x, .int .i64 T.v, .slice a6 n6 c6, .int .i64 T.x, .int .i64 T.s, .int .i64 T.z, .int .u32 T.c] 31)
      have U6 := Lib.hid (Bx.first (P := []) k6 (fun p hp => by cases hp))
      have C6 := Lib.hid ((CQ.out.keep k6.w).keep al6)
      have DC := hkeep (hkeep DBo k6.w) al6
      have L6 := Lib.hid ((L5.out.trans (k6.w.mono L5.out.size)).trans (al6.mono (Nat.le_trans L5.out.size k6.w.size)))
      clear d0 d1 d2 d3 d4 y2 y3 G1 G3 DBo k6 al6 CQ CR L5
      obtain ⟨d0, d1, d2, d3, d4⟩ := cells5 DC
      unfold stVal
      dsimp only
      go_wp2_with fail
      refine (CX.out _).mono ?_
      rintro e w8 ⟨a7, n7, c7, a8, n8, c8, rfl, k8⟩
      have al8 := (Below.refl w8.heap.size w8).alloc (Nat.le_refl _) (.cells #[.slice a7 n7 c7, .int .i64 T.d.c, .bool T.d.a, .int .i64 T.d.l, .bool T.d.x, .int .i64 T.v, .slice a8 n8 c8, .int .i64 T.x, .int .i64 T.s, .int .i64 T.z, .int .u32 T.c] 31)
      have U8 := Lib.hid (Bx.first (P := []) k8 (fun p hp => by cases hp))
      have U6b := Lib.hid ((U6.out.keep k8.w).keep al8)
      have C8 := Lib.hid ((C6.out.keep k8.w).keep al8)
      have L8 := Lib.hid ((L6.out.trans (k8.w.mono L6.out.size)).trans (al8.mono (Nat.le_trans L6.out.size k8.w.size)))
      clear d0 d1 d2 d3 d4 DC k8 al8 C6 CX L6 U6
      unfold stVal
      dsimp only
      go_upto_region 8 with (fail)
      generalize hq1 : w6.heap.size = t3 at U6b ⊢
      generalize hq2 : w8.heap.size = t4 at U8 ⊢
      generalize World.alloc _ _ = w9 at U8 U6b C8 L8 ⊢
      clear hq1 hq2
      go_wp2_with fail
      refine (AW.out _).mono ?_
      rintro e w10 ⟨rfl, b10⟩
      have C10 := C8.out.keep b10
      have V6 := Lib.hid (U6b.out.keep b10)
      have V8 := Lib.hid (U8.out.keep b10)
      have L10 := Lib.hid (L8.out.trans (b10.mono L8.out.size))
      clear b10 C8 U6b U8 L8
      obtain ⟨d0, d1, d2, d3, d4⟩ := cells5 C10.a
      obtain ⟨x0, x1, x2, x3, x4⟩ := cells5 C10.b
      have SM := rsame_yes _ _ D1 w10 C10.f C10.g
      unfold dkVal at SM
      replace SM := Lib.hid SM
      clear C10
      go_wp2_with fail
      refine SM.out.mono ?_
      rintro e w11 ⟨rfl, b11⟩
      have W6 := V6.out.keep b11
      have W8 := V8.out.keep b11
      have L11 := Lib.hid (L10.out.trans (b11.mono L10.out.size))
      clear b11 V6 V8 L10 SM d0 d1 d2 d3 d4 x0 x1 x2 x3 x4
      obtain ⟨⟨k0, k1, k2, k3, k4⟩, k5, k6, k7, k8, k9, k10⟩ := cellsS W6.d
      obtain ⟨⟨x0, x1, x2, x3, x4⟩, x5, x6, x7, x8, x9, x10⟩ := cellsS W8.d
      have SN := rsame12_yes _ _ _ _ T w11 W6.f W6.g W8.f W8.g
      unfold stVal at SN
      replace SN := Lib.hid SN
      clear W6 W8
      go_wp2_with fail
      refine SN.out.mono ?_
      rintro e w12 ⟨rfl, b12⟩
      have L12 := Lib.hid (L11.out.trans (b12.mono L11.out.size))
      clear b12
      go_wp2_with fail
      go_ret
      exact ⟨rfl, L12.out⟩

end Go.Proofs.YthhhocgpoenigaaGreat.Sto

namespace Go.Proofs.YthhhocgpoenigaaGreat.Dsk
open Go.RowKit Go.ChangeShapes Go.WideShapes Go.Deep Go.Joins Go.Proofs.YthhhocgpoenigaaGreat.Dp

/-- A slice in memory, element by element. -/
theorem isL_of {α : Type} {Y : Lay α} {w : World} {b off cap : Nat} {l : List α} (hm : l.length ≤ maxLen) (hcap : l.length ≤ cap) (hok : ∀ x ∈ l, Y.ok x)
    (hc : ∀ i, i < l.length → ∀ r u, (Y.enc (l.getD i Y.z))[r]? = some u → w.cell? ⟨b, off + (i * Y.k + r), none⟩ = some u) : IsL Y w (.slice (some ⟨b, off, none⟩) l.length cap) l := by
  refine ⟨_, cap, rfl, ⟨hm, hcap⟩, hok, .inr ⟨b, off, rfl, fun j u hj => ?_⟩⟩
  have hlt := (List.getElem?_eq_some_iff.1 hj).1
  rw [Y.vals_len] at hlt
  have hk := Y.pos
  have h1 : j / Y.k < l.length := Nat.div_lt_of_lt_mul (by rw [Nat.mul_comm]; exact hlt)
  have h2 : j % Y.k < Y.k := Nat.mod_lt _ hk
  have e : j = j / Y.k * Y.k + j % Y.k := by rw [Nat.mul_comm]; exact (Nat.div_add_mod j Y.k).symm
  have h3 := Y.vals_get l (j / Y.k) (j % Y.k) h1 h2
  rw [← e, hj] at h3
  have := hc (j / Y.k) h1 (j % Y.k) u h3.symm
  rwa [← e] at this

section
variable {H : Type} {enc : TypeId × Value → H} {w : World} {base : Nat} {spare : Nat → Bool} {held : Bool}

end

end Go.Proofs.YthhhocgpoenigaaGreat.Dsk

namespace Go.Proofs.YthhhocgpoenigaaGreat.Dsk
open Go.RowKit Go.ChangeShapes Go.WideShapes Go.Deep Go.Joins Go.Proofs.YthhhocgpoenigaaGreat.Dp

theorem array5 {α : Type} {cs : Array α} (h : cs.size = 5) : ∃ c0 c1 c2 c3 c4, cs = #[c0, c1, c2, c3, c4] := by
  obtain ⟨l⟩ := cs
  match l, h with
  | [c0, c1, c2, c3, c4], _ => exact ⟨c0, c1, c2, c3, c4, rfl⟩

section
variable {H : Type} {P : Program} {enc : TypeId × Value → H} {w : World} {base : Nat} {spare : Nat → Bool} {held : Bool}
theorem open_agg5 {r : Reach} {b0 : Nat} {t : TypeId} {f0 f1 f2 f3 f4 : Field} {v : Value} {d : DataW H} {p : List MemPlace} (hs : P.underlying t = some (.struct #[f0, f1, f2, f3, f4])) (hone : oneCellFields P #[f0, f1, f2, f3, f4] = true) (hC : P.cellsOf t = 5)
    (hv : Value.okWide P w r b0 t v) (h : DataW.Trod enc P w base spare held t v d p) :
    ∃ (v0 v1 v2 v3 v4 : Value) (y0 y1 y2 y3 y4 : DataW H × List MemPlace) (n : Nat), v = .agg #[v0, v1, v2, v3, v4] ∧
      DataW.trod enc P w base spare held n f0.type [v0] = some y0 ∧ DataW.trod enc P w base spare held n f1.type [v1] = some y1 ∧ DataW.trod enc P w base spare held n f2.type [v2] = some y2 ∧ DataW.trod enc P w base spare held n f3.type [v3] = some y3 ∧ DataW.trod enc P w base spare held n f4.type [v4] = some y4 := by
  obtain ⟨cs, rfl, hsz⟩ := okWide_struct hs hv
  obtain ⟨c0, c1, c2, c3, c4, rfl⟩ := array5 (hsz.trans hC)
  obtain ⟨fuel, hf⟩ := h
  obtain ⟨y0, y1, y2, y3, y4, n, _, h0, h1, h2, h3, h4⟩ := trod_struct5 hs hf
  obtain ⟨o0, k0⟩ := hone_of hone 0 f0 rfl
  obtain ⟨o1, k1⟩ := hone_of hone 1 f1 rfl
  obtain ⟨o2, k2⟩ := hone_of hone 2 f2 rfl
  obtain ⟨o3, k3⟩ := hone_of hone 3 f3 rfl
  obtain ⟨o4, k4⟩ := hone_of hone 4 f4 rfl
  exact ⟨c0, c1, c2, c3, c4, y0, y1, y2, y3, y4, n, rfl, by simpa [Value.cells, o0, k0] using h0, by simpa [Value.cells, o1, k1] using h1, by simpa [Value.cells, o2, k2] using h2, by simpa [Value.cells, o3, k3] using h3, by simpa [Value.cells, o4, k4] using h4⟩
end

section
variable {H : Type} {enc : TypeId × Value → H} {w : World} {base : Nat} {spare : Nat → Bool} {held : Bool}

set_option maxRecDepth 100000 in
/-- Files handed in. -/
theorem open_files {n : Nat} {cs : List Value} {y : DataW H × List MemPlace} (h : DataW.trod enc Tryz.prog w base spare held n 25 cs = some y) : ∃ a l c fs, cs = [.slice a l c] ∧ IsL FL w (.slice a l c) fs := by
  rcases open_slice Tryz.underlying25 h with ⟨hc, _⟩ | ⟨x, len, cap, m, n, D, Pl, hc, _, hl, hm, hmm, _, hi⟩
  · exact ⟨none, 0, 0, [], hc, IsL.nil w none 0⟩
  · refine ⟨some x, len, cap, ?_⟩
    have hlm : len ≤ m := by rw [hmm]; split <;> omega
    have hC : Tryz.prog.cellsOf 81 = 3 := by kernel_rfl
    have hO : Tryz.prog.cellsOf 3 = 1 := by kernel_rfl
    have hS : Tryz.prog.cellsOf 9 = 1 := by kernel_rfl
    rw [hC] at hi
    have key : ∀ i, i < len → ∃ r : Fl, FlB r ∧ ∀ j u, (flCells r)[j]? = some u → w.cell? ((x.add (i * 3)).add j) = some u := by
      intro i hil
      obtain ⟨cs', hcs, ht⟩ := hi i (by omega)
      obtain ⟨_, hlen, hat⟩ := World.cells?_some hcs
      obtain ⟨y0, y1, y2, n', _, _, h0, h1, h2⟩ := trod_struct3 Tryz.underlying81 ht
      obtain ⟨rn, hnn, _, wn⟩ := DataW.trod_string Tryz.underlying9 h0
      obtain ⟨rd, hd, _, wd⟩ := DataW.trod_string Tryz.underlying9 h1
      obtain ⟨rs, hrs, _, ws⟩ := DataW.trod_int Tryz.underlying3 h2
      obtain ⟨c0, c1, c2, rfl⟩ : ∃ c0 c1 c2, cs' = [c0, c1, c2] := by
        match cs', hlen with
        | [c0, c1, c2], _ => exact ⟨c0, c1, c2, rfl⟩
      simp [hO, hS] at hnn hd hrs
      subst hnn hd hrs
      unfold maxLen at wn wd
      refine ⟨⟨rn, rd, rs⟩, ⟨wn, wd, i64_wf ws⟩, fun j u hj => ?_⟩
      have hjl : j < 3 := (List.getElem?_eq_some_iff.1 hj).1
      have := hat j hjl
      exact this.trans hj
    obtain ⟨f, hf'⟩ : ∃ f : Nat → Fl, ∀ i, i < len → FlB (f i) ∧ ∀ j u, (flCells (f i))[j]? = some u → w.cell? ((x.add (i * 3)).add j) = some u := by
      refine ⟨fun i => if h : i < len then Classical.choose (key i h) else zero, fun i h => ?_⟩
      simp only [dif_pos h]
      exact Classical.choose_spec (key i h)
    have hlen : ((List.range len).map f).length = len := by simp
    have hall : ∀ r ∈ (List.range len).map f, FlB r := fun r hr => by
      rw [List.mem_map] at hr
      obtain ⟨i, hi', rfl⟩ := hr
      exact (hf' i (by simpa using hi')).1
    refine ⟨(List.range len).map f, hc, ?_⟩
    by_cases h0 : len = 0
    · subst h0
      exact IsL.nil w _ cap
    · obtain ⟨b, off, spot⟩ := x
      have h1 := (hf' 0 (by omega)).2 0 _ rfl
      rw [Nat.zero_mul] at h1
      have hspot : spot = none := by simpa [Addr.add] using World.cell?_spot h1
      subst hspot
      have := isL_of (Y := FL) (w := w) (b := b) (off := off) (cap := cap) (l := (List.range len).map f) (by rw [hlen]; omega) (by rw [hlen]; exact hl) hall (fun i hi' r u hu => by
        rw [hlen] at hi'
        have e : ((List.range len).map f).getD i FL.z = f i := by simp [List.getD_eq_getElem?_getD, hi']
        rw [e] at hu
        have := (hf' i hi').2 r u hu
        rw [addr_plain, addr_plain] at this
        rw [← Nat.add_assoc]
        exact this)
      rw [hlen] at this
      exact this

set_option maxRecDepth 100000 in
/-- A disk handed in. -/
theorem open_dk {r : Reach} {b0 : Nat} {v : Value} {d : DataW H} {p : List MemPlace} (hv : Value.okWide Tryz.prog w r b0 27 v) (h : DataW.Trod enc Tryz.prog w base spare held 27 v d p) :
    ∃ fv D, v = dkVal fv D ∧ IsL FL w fv D.f ∧ DkB D := by
  obtain ⟨v0, v1, v2, v3, v4, y0, y1, y2, y3, y4, n, rfl, h0, h1, h2, h3, h4⟩ := open_agg5 Tryz.underlying27 (by kernel_rfl) (by kernel_rfl) hv h
  obtain ⟨fa, fn, fc, fs, hf, hfs⟩ := open_files h0
  obtain ⟨rc, hc, _, wc⟩ := DataW.trod_int Tryz.underlying3 h1
  obtain ⟨ra, ha, _⟩ := DataW.trod_bool Tryz.underlying4 h2
  obtain ⟨rl, hl, _, wl⟩ := DataW.trod_int Tryz.underlying3 h3
  obtain ⟨rx, hx, _⟩ := DataW.trod_bool Tryz.underlying4 h4
  simp only [List.cons.injEq, and_true] at hf hc ha hl hx
  subst hf hc ha hl hx
  exact ⟨_, ⟨fs, rc, ra, rl, rx⟩, rfl, hfs, ⟨i64_wf wc, i64_wf wl⟩⟩
end

end Go.Proofs.YthhhocgpoenigaaGreat.Dsk

namespace Go.Proofs.YthhhocgpoenigaaGreat.Mfs
open Go.RowKit Go.ChangeShapes Go.WideShapes Go.Deep Go.Joins Go.Proofs.YthhhocgpoenigaaGreat.Qm

theorem i64_wf {n : Int} (h : (Lit.int .i64 n).wf = true) : -9223372036854775808 ≤ n ∧ n ≤ 9223372036854775807 := by
  simpa [Lit.wf, IntKind.min, IntKind.max, IntKind.signed, IntKind.bits] using h
theorem u32_wf {n : Int} (h : (Lit.int .u32 n).wf = true) : 0 ≤ n ∧ n ≤ 4294967295 := by
  simpa [Lit.wf, IntKind.min, IntKind.max, IntKind.signed, IntKind.bits] using h
section
variable {H : Type} {enc : TypeId × Value → H} {w : World} {base : Nat} {spare : Nat → Bool} {held : Bool}
/-- Numbers handed in. -/
theorem open_ilC {n : Nat} {cs : List Value} {y : DataW H × List MemPlace} (h : DataW.trod enc Tryz.prog w base spare held n 41 cs = some y) : ∃ a l c ks, cs = [.slice a l c] ∧ IsL IL w (.slice a l c) ks := by
  rcases open_ints Tryz.underlying41 Tryz.underlying3 (by kernel_rfl) h with ⟨hcs, _⟩ | ⟨x, l, c, zs, hcs, _, hl, hm, hz, _, hcell, hwz⟩
  · exact ⟨none, 0, 0, [], by simpa using hcs, IsL.nil w none 0⟩
  · have hll : l ≤ zs.length := by rw [hz]; split <;> omega
    refine ⟨some x, l, c, zs.take l, by simpa using hcs, some x, c, by rw [List.length_take, Nat.min_eq_left (by omega)], by rw [List.length_take]; omega, ?_, ?_⟩
    · intro k hk
      exact i64_wf (hwz k (List.mem_of_mem_take hk))
    · by_cases h0 : l = 0
      · exact .inl (by rw [h0]; rfl)
      · obtain ⟨b, off, spot⟩ := x
        have h1 := hcell 0 (by omega)
        have hspot : spot = none := by simpa [Addr.add] using World.cell?_spot h1
        subst hspot
        refine .inr ⟨b, off, rfl, fun j u hj => ?_⟩
        have hv : IL.vals (zs.take l) = (zs.take l).map fun k => Value.int .i64 k := by
          generalize zs.take l = q
          induction q with
          | nil => rfl
          | cons k q ih => rw [Lay.vals_cons, ih]; rfl
        rw [hv, List.getElem?_map, List.getElem?_take] at hj
        split at hj
        · rename_i hjl
          have hjz : j < zs.length := by omega
          have := hcell j hjz
          rw [addr_plain, List.getD_eq_getElem?_getD, List.getElem?_eq_getElem hjz] at this
          rw [List.getElem?_eq_getElem hjz] at hj
          simp only [Option.map_some, Option.some.injEq] at hj
          rw [this, ← hj]
          rfl
        · simp at hj
/-- A manifest handed in. -/
structure Mi where
  a : Option Addr
  n : Nat
  c : Nat
  m : Mn
set_option maxRecDepth 100000 in
theorem open_man {r : Reach} {b0 : Nat} {v : Value} {d : DataW H} {p : List MemPlace}
    (hv : Value.okWide Tryz.prog w r b0 43 v) (h : DataW.Trod enc Tryz.prog w base spare held 43 v d p) : ∃ x : Mi, v = mnVal x.a x.n x.c x.m ∧ (IsL IL w (.slice x.a x.n x.c) x.m.l ∧ MnB x.m) := by
  have hC : Tryz.prog.cellsOf 43 = 4 := by kernel_rfl
  have hS : Tryz.prog.cellsOf 41 = 1 := by kernel_rfl
  have hO : Tryz.prog.cellsOf 3 = 1 := by kernel_rfl
  have hB : Tryz.prog.cellsOf 29 = 1 := by kernel_rfl
  obtain ⟨cs, rfl, hsz⟩ := okWide_struct Tryz.underlying43 hv
  obtain ⟨l⟩ := cs
  match l, hsz.trans hC with
  | [c0, c1, c2, c3], _ =>
    obtain ⟨fuel, hf⟩ := h
    obtain ⟨y0, y1, y2, y3, n, _, _, h0, h1, h2, h3⟩ := trod_struct4 Tryz.underlying43 hf
    simp [Value.cells, hS, hO, hB] at h0 h1 h2 h3
    obtain ⟨rv, hv, _, wv⟩ := DataW.trod_int Tryz.underlying3 h0
    obtain ⟨ka, kn, kc, ks, hkc, hks⟩ := open_ilC h1
    obtain ⟨rz, hz, _, wz⟩ := DataW.trod_int Tryz.underlying3 h2
    obtain ⟨rc, hc, _, wc⟩ := DataW.trod_int Tryz.underlying29 h3
    simp at hv hkc hz hc
    subst hv hkc hz hc
    exact ⟨⟨ka, kn, kc, ⟨rv, ks, rz, rc⟩⟩, rfl, hks, i64_wf wv, i64_wf wz, by have := u32_wf wc; dsimp only; omega⟩
end

end Go.Proofs.YthhhocgpoenigaaGreat.Mfs

namespace Go.Proofs.YthhhocgpoenigaaGreat.Sto
open Go.RowKit Go.Proofs.YthhhocgpoenigaaGreat.So Go.Proofs.YthhhocgpoenigaaGreat.Dsk Go.Proofs.YthhhocgpoenigaaGreat.Rts

/-- Data appended as records. -/
def rcOf (l : List ByteArray) : List Rp.Rec := (List.range l.length).map fun i : Nat => ⟨(i : Int), 7, l.getD i ⟨#[]⟩⟩
theorem rcOf_len (l : List ByteArray) : (rcOf l).length = l.length := by unfold rcOf; simp
theorem rcOf_snoc (l : List ByteArray) (d : ByteArray) : rcOf (l ++ [d]) = rcOf l ++ [⟨(l.length : Int), 7, d⟩] := by
  unfold rcOf
  rw [List.length_append, List.length_singleton, List.range_succ, List.map_append]
  congr 1
  · apply List.map_congr_left
    intro i hi
    rw [List.mem_range] at hi
    simp [List.getD_eq_getElem?_getD, List.getElem?_append_left hi]
  · simp [List.getD_eq_getElem?_getD]
theorem rcOf_get (l : List ByteArray) {i : Nat} (h : i < l.length) : (rcOf l)[i]'(by rw [rcOf_len]; exact h) = ⟨(i : Int), 7, l.getD i ⟨#[]⟩⟩ := by
  unfold rcOf
  simp
/-- What was appended behind an act. -/
def appd (a : Ac) (E : Int) (l : List ByteArray) : List ByteArray := if a.k ≠ 1 ∧ a.k ≠ 2 ∧ a.k ≠ 3 ∧ E = 0 then l ++ [a.d] else l
theorem appd_len (a : Ac) (E : Int) (l : List ByteArray) : (appd a E l).length ≤ l.length + 1 := by
  unfold appd
  split
  · rw [List.length_append]; simp
  · omega
/-- A store that holds just what was appended. -/
structure Kp (q : Int) (S : St) (l : List ByteArray) : Prop where
  i : Inv q S (rcOf l)
  n : l.length ≤ 1000
theorem Kp.len {q : Int} {S : St} {l : List ByteArray} (h : Kp q S l) : S.x = (l.length : Int) := by rw [h.i.x, rcOf_len]
theorem kp_new {q : Int} (hq : 0 ≤ q) : (createT Dp.empty).2 = 0 ∧ Kp q (createT Dp.empty).1 [] := by
  obtain ⟨h1, h2, _⟩ := create_new (q := q) hq
  exact ⟨h1, h2, by simp⟩
theorem Kp.act {q : Int} {S : St} {l : List ByteArray} (h : Kp q S l) (hq : 0 < q) (hn : l.length < 1000) (a : Ac) :
    Kp q (doA q S a).1 (appd a (doA q S a).2 l) ∧ S.s ≤ (doA q S a).1.s ∧ (doA q S a).1.s ≤ (doA q S a).1.x ∧ ((doA q S a).2 = 0 → a.k = 1 → (doA q S a).1.s = (doA q S a).1.x) := by
  have hl : (rcOf l).length ≤ 1099511627776 := by rw [rcOf_len]; omega
  by_cases h1 : a.k = 1
  · have e : appd a (doA q S a).2 l = l := by unfold appd; rw [if_neg (fun h => h.1 h1)]
    rw [e, doA_sync h1]
    have hi := h.i.sync hl
    refine ⟨⟨hi, h.n⟩, ?_, hi.s1, fun e0 _ => ?_⟩
    · have := h.i.s1
      unfold syncT
      dsimp only
      split <;> omega
    · unfold syncT at e0 ⊢
      dsimp only at e0 ⊢
      rw [if_pos e0]
  by_cases h2 : a.k = 2
  · have e : appd a (doA q S a).2 l = l := by unfold appd; rw [if_neg (fun h => h.2.1 h2)]
    rw [e, doA_arm h2]
    exact ⟨⟨h.i.arm a.n hl, h.n⟩, Int.le_refl _, h.i.s1, fun _ h => absurd h h1⟩
  by_cases h3 : a.k = 3
  · have e : appd a (doA q S a).2 l = l := by unfold appd; rw [if_neg (fun h => h.2.2.1 h3)]
    rw [e, doA_limit h3]
    exact ⟨⟨h.i.limit a.n hl, h.n⟩, Int.le_refl _, h.i.s1, fun _ h => absurd h h1⟩
  rw [doA_app h1 h2 h3]
  rcases h.i.append hq (recA S a) with ⟨e0, _, ea, hi, hs⟩ | ⟨e0, hi, hs⟩
  · have e : appd a (append S q (recA S a)).2 l = l ++ [a.d] := by unfold appd; rw [if_pos ⟨h1, h2, h3, e0⟩]
    have er : recA S a = ⟨(l.length : Int), 7, a.d⟩ := by
      have : S.x + a.n.tmod 3 = S.x := ea
      unfold recA
      rw [this, h.len]
    rw [e]
    rw [er, ← rcOf_snoc] at hi
    rw [er] at hs ⊢
    exact ⟨⟨hi, by rw [List.length_append]; simp; omega⟩, hs, hi.s1, fun _ h => absurd h h1⟩
  · have e : appd a (append S q (recA S a)).2 l = l := by unfold appd; rw [if_neg (fun h => e0 h.2.2.2)]
    rw [e]
    exact ⟨⟨hi, h.n⟩, hs, hi.s1, fun _ h => absurd h h1⟩
/-- It is read. -/
theorem Kp.read {q : Int} {S : St} {l : List ByteArray} (h : Kp q S l) {i : Nat} (hi : i < l.length) : readT S (i : Int) = (⟨(i : Int), 7, l.getD i ⟨#[]⟩⟩, 0) := by
  have := h.i.read (by rw [rcOf_len]; have := h.n; omega) (i := i) (by rw [rcOf_len]; exact hi)
  rw [this, rcOf_get l hi]
theorem Kp.end_ {q : Int} {S : St} {l : List ByteArray} (h : Kp q S l) : readT S (l.length : Int) = (Rp.zero, 6) := by
  have := h.i.read_end
  rwa [rcOf_len] at this

end Go.Proofs.YthhhocgpoenigaaGreat.Sto
