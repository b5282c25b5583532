/-
  Parts of what the laws of this seat stand on: StoActs, Law12A, DiskSame, StoSame, ManSame.
-/
import Derived.Laws.StructEq
import Derived.Test.YthhhocgpoenigaaGreatBu10
import Derived.Test.YthhhocgpoenigaaGreatBu18
import Derived.Test.YthhhocgpoenigaaGreatBu20
import Derived.Test.YthhhocgpoenigaaGreatBu22
import Derived.Test.YthhhocgpoenigaaGreatBu23
import Derived.Test.YthhhocgpoenigaaGreatBu26
import Derived.Test.YthhhocgpoenigaaGreatBu27
import Derived.Test.YthhhocgpoenigaaGreatBu29
import Derived.Test.YthhhocgpoenigaaGreatBu30
import Derived.Test.YthhhocgpoenigaaGreatBu31
import Derived.Test.YthhhocgpoenigaaGreatBu5
import Derived.Test.YthhhocgpoenigaaGreatBu9
namespace Go.Proofs.YthhhocgpoenigaaGreat.Sto
open Go.RowKit Go.Proofs.YthhhocgpoenigaaGreat.So Go.Proofs.YthhhocgpoenigaaGreat.Dsk Go.Proofs.YthhhocgpoenigaaGreat.Rts

def acCells (a : Ac) : List Value := [.int .i64 a.k, .int .i64 a.n, .string a.d]
def acVal (a : Ac) : Value := .agg #[.int .i64 a.k, .int .i64 a.n, .string a.d]
def AcB (a : Ac) : Prop := (-9223372036854775808 ≤ a.k ∧ a.k ≤ 9223372036854775807) ∧ (-9223372036854775808 ≤ a.n ∧ a.n ≤ 9223372036854775807) ∧ a.d.size ≤ 9223372036854775807
def AcL : Lay Ac where
  enc := acCells
  k := 3
  len := fun _ => rfl
  one := by intro f u hu; simp [acCells] at hu; rcases hu with rfl | rfl | rfl <;> rfl
  pos := by decide
  T := 38
  ok := AcB
  z := azero
theorem ac_at {w : World} {fa : Option Addr} {fn fc : Nat} {l : List Ac} (h : IsL AcL w (.slice fa fn fc) l) {i : Nat} (hi : i < fn) :
    ∃ b off, fa = some ⟨b, off, none⟩ ∧ w.cell? ⟨b, off + i * 3, none⟩ = some (.int .i64 (l.getD i azero).k) ∧ w.cell? ⟨b, off + i * 3 + 1, none⟩ = some (.int .i64 (l.getD i azero).n) ∧ w.cell? ⟨b, off + i * 3 + 2, none⟩ = some (.string (l.getD i azero).d) := by
  have h' := h
  obtain ⟨a', cap', e, _, _, h3⟩ := h
  injection e with e1 e2 e3
  rcases h3 with h3 | ⟨b, off, h4, _⟩
  · rw [h3] at e2; simp at e2; omega
  · subst e1
    subst h4
    exact ⟨b, off, rfl, h'.at_ hi 0 _ rfl, h'.at_ hi 1 _ rfl, h'.at_ hi 2 _ rfl⟩
theorem tmod3 (n : Int) : -2 ≤ n.tmod 3 ∧ n.tmod 3 ≤ 2 := by
  by_cases h : 0 ≤ n
  · rw [Int.tmod_eq_emod_of_nonneg h]
    omega
  · have e : n.tmod 3 = -((-n).tmod 3) := by rw [Int.neg_tmod, Int.neg_neg]
    rw [e, Int.tmod_eq_emod_of_nonneg (by omega)]
    omega

/-- Are they few acts, of few bytes? -/
def Short12 (l : List Ac) : Prop := l.length ≤ 40 ∧ ∀ a ∈ l, a.d.size ≤ 100
instance (l : List Ac) : Decidable (Short12 l) := inferInstanceAs (Decidable (_ ∧ _))

set_option maxRecDepth 100000 in
set_option maxHeartbeats 1600000 in
theorem short12_any (v : Value) (l : List Ac) (w : World) (h : IsL AcL w v l) :
    Calls Tryz.prog 7 #[v] w fun e w' => e = .returned (.bool (decide (Short12 l))) ∧ w = w' := by
  obtain ⟨fa, fn, fc, rfl⟩ : ∃ a n c, v = .slice a n c := by obtain ⟨a, c, h, _⟩ := h; exact ⟨a, _, c, h⟩
  have H := Lib.hid h
  have hl := h.len
  unfold maxLen at hl
  clear h
  by_cases h60 : 40 < fn
  · rw [decide_eq_false (fun h : Short12 l => by have := h.1; omega)]
    have h1 : (40 : Int) < (fn : Int) := by omega
    go_enter Tryz.func7, Tryz.ntmps7
    go_wp2_with fail
    go_ret
    exact ⟨by simp_all, rfl⟩
  · have h1 : ¬ ((40 : Int) < (fn : Int)) := by omega
    have HT := Lib.hid (show (∀ k, k < fn → (l.getD k azero).d.size ≤ 100) → decide (Short12 l) = true from fun h => decide_eq_true ⟨by omega, fun r hr => by
      obtain ⟨k, hk, rfl⟩ := List.getElem_of_mem hr
      have := h k (by omega)
      rwa [getD_lt hk] at this⟩)
    have HF := Lib.hid (show ∀ k, k < fn → ¬ (l.getD k azero).d.size ≤ 100 → decide (Short12 l) = false from fun k hk h => decide_eq_false fun hs => h (by
      rw [getD_lt (by omega)]
      exact hs.2 _ (List.getElem_mem _)))
    obtain ⟨R, hR⟩ : ∃ R, decide (Short12 l) = R := ⟨_, rfl⟩
    rw [hR] at HT HF ⊢
    clear hR hl
    go_enter Tryz.func7, Tryz.ntmps7
    go_wp2_with fail
    go_loopw [3] (fun i wr => ∃ k : Nat, k ≤ fn ∧ i = .int .i64 k ∧ (∀ j, j < k → (l.getD j azero).d.size ≤ 100) ∧ wr = w) (fun i _ => fn - (intOf i).toNat)
    case atStart => exact ⟨0, Nat.zero_le _, rfl, fun j hj => absurd hj (Nat.not_lt_zero _), rfl⟩
    case round =>
      obtain ⟨k, hk, rfl, hall, rfl⟩ := hrel
      by_cases hlt : k < fn
      · obtain ⟨b, off, rfl, _, _, c2⟩ := ac_at H.out hlt
        have HFk := HF.out k hlt
        have HN : Hid ((l.getD k azero).d.size ≤ 100 → ∀ j, j < k + 1 → (l.getD j azero).d.size ≤ 100) := fun hh j hj => by
          by_cases h : j = k
          · rw [h]; exact hh
          · exact hall j (by omega)
        clear hall
        generalize (l.getD k azero).d = nm at *
        by_cases hn1 : nm.size ≤ 100
        · have i1 : ¬ ((100 : Int) < (nm.size : Int)) := by omega
          have HN2 := Lib.hid (HN.out hn1)
          clear HFk HN
          go_wp2_with fail
          go_roundw
          case rel => exact ⟨k + 1, by omega, by go_num, HN2.out, by first | rfl | trivial⟩
          case measure => simp [intOf]; omega
        · have i1 : (100 : Int) < (nm.size : Int) := by omega
          obtain rfl := HFk hn1
          clear HN
          go_wp2_with fail
          go_ret
          exact ⟨by simp_all, rfl⟩
      · obtain rfl := HT.out fun j hj => hall j (by omega)
        clear hall HF
        go_wp2_with fail
        go_ret
        exact ⟨by simp_all, rfl⟩

set_option maxRecDepth 100000 in
set_option maxHeartbeats 3200000 in
/-- The law's want. -/
theorem want12_any (fa ga : Option Addr) (fn fc gn gc : Nat) (S : St) (q : Int) (a : Ac) (w : World) (k : Nat) (hv : IsL FL w (.slice fa fn fc) S.d.f) (hg : IsL SL w (.slice ga gn gc) S.g) (h : Gd S k) (hk : k ≤ 900) (ha : AcB a) :
    Calls Tryz.prog 13 #[stVal (.slice fa fn fc) (.slice ga gn gc) S, .int .i64 q, acVal a] w (StOut w (.slice fa fn fc) (.slice ga gn gc) (doA q S a)) := by
  have T0 := Lib.hid fun (W0 : World) => @Ta.new w (.slice fa fn fc) (.slice ga gn gc) S #[.int .i64 a.k, .int .i64 a.n, .string a.d] 38 W0 hv hg
  have hB := h.stb hk
  have RS := Lib.hid fun (W : World) (h1 : IsL FL W (.slice fa fn fc) S.d.f) (h2 : IsL SL W (.slice ga gn gc) S.g) => rsync12_any fa ga fn fc gn gc S W _ h1 h2 h.ne hB h.d (by omega)
  have hvv := h.v
  have hxx := h.x
  have htm : -2 ≤ a.n.tmod 3 ∧ a.n.tmod 3 ≤ 2 := tmod3 a.n
  have hro : RecOk (recA S a) := ⟨by show _ ≤ S.x + a.n.tmod 3; omega, by show S.x + a.n.tmod 3 ≤ _; omega, by show _ ≤ (7 : Int); omega, by show (7 : Int) ≤ _; omega, ha.2.2⟩
  have RA := Lib.hid fun (W : World) (h1 : IsL FL W (.slice fa fn fc) S.d.f) (h2 : IsL SL W (.slice ga gn gc) S.g) => rappend12_any fa ga fn fc gn gc S q (recA S a) W _ h1 h2 h.ne hB h.d (by omega) (by omega) hro
  have hwx : IntKind.i64.wrap (S.x + a.n.tmod 3) = S.x + a.n.tmod 3 := IntWalk.i64_in _ ⟨by omega, by omega⟩
  unfold recVal recA at RA
  clear hv hg h hB hro hk
  unfold stVal at RS RA ⊢
  unfold acVal
  dsimp only at RA
  go_enter Tryz.func13, Tryz.ntmps13
  go_upto_region 1 with (fail)
  obtain ⟨w0, hW⟩ : ∃ W0, ((w.alloc (.cells #[.slice fa fn fc, .int .i64 S.d.c, .bool S.d.a, .int .i64 S.d.l, .bool S.d.x, .int .i64 S.v, .slice ga gn gc, .int .i64 S.x, .int .i64 S.s, .int .i64 S.z, .int .u32 S.c] 31)).alloc (.cells #[.int .i64 a.k, .int .i64 a.n, .string a.d] 38)).alloc (.cells #[.slice none 0 0, .int .i64 0, .bool false, .int .i64 0, .bool false, .int .i64 0, .slice none 0 0, .int .i64 0, .int .i64 0, .int .i64 0, .int .u32 0] 31) = W0 := ⟨_, rfl⟩
  rw [hW]
  have T1 := T0.out w0 hW
  clear T0 hW
  obtain ⟨e0, e1, e2⟩ := cells3 T1.e
  obtain ⟨⟨k0, k1, k2, k3, k4⟩, k5, k6, k7, k8, k9, k10⟩ := cellsS T1.d
  obtain ⟨⟨r0, r1, r2, r3, r4⟩, r5, r6, r7, r8, r9, r10⟩ := cellsS T1.q
  have kr := frozenS T1.q
  have kf := frozenS T1.d
  have TT := Lib.hid T1
  clear T1
  by_cases hk : a.k = 1
  · obtain ⟨⟨T, E⟩, hT⟩ : ∃ R, syncT S = R := ⟨_, rfl⟩
    have RS2 := RS.out w0 TT.out.f TT.out.g
    rw [hT] at RS2
    have HR := Lib.hid (show doA q S a = (T, E) from by rw [doA_sync hk, hT])
    replace RS2 := Lib.hid RS2
    rw [hk] at e0
    clear hT hk RS RA
    go_wp2_with fail
    refine RS2.out.mono ?_
    rintro e w1 ⟨a1, n1, c1, a2, n2, c2, rfl, ks⟩
    have TF := Lib.hid (TT.out.gone ks (Below.refl _ _))
    clear k0 k1 k2 k3 k4 k5 k6 k7 k8 k9 k10 r0 r1 r2 r3 r4 r5 r6 r7 r8 r9 r10 kr e0 e1 e2
    obtain ⟨⟨r0, r1, r2, r3, r4⟩, r5, r6, r7, r8, r9, r10⟩ := cellsS (hkeep TT.out.q ks.w)
    have kr := frozenS (hkeep TT.out.q ks.w)
    clear ks
    unfold stVal
    go_wp2_with fail
    obtain ⟨Z3, hZ3, Z4, Z5⟩ := TF.out
    rw [hZ3]
    obtain ⟨⟨s0, s1, s2, s3, s4⟩, s5, s6, s7, s8, s9, s10⟩ := cellsS Z4
    refine bodyPost_ret (v := .tuple #[stVal (.slice a1 n1 c1) (.slice a2 n2 c2) T, .int .i64 E]) (by unfold stVal; simp [results, Tryz.results13, go_sem, s0, s1, s2, s3, s4, s5, s6, s7, s8, s9, s10]) rfl ?_
    rw [HR.out]
    exact ⟨_, _, _, _, _, _, rfl, Z5⟩
  by_cases hk2 : a.k = 2
  · have hk := hk2
    clear hk2
    clear RS RA kf
    have HR := Lib.hid (doA_arm (q := q) (S := S) hk)
    have RV := Lib.hid (rarm_val (.slice fa fn fc) S.d a.n w0 TT.out.f)
    rw [hk] at e0
    clear hk
    unfold dkVal at RV
    go_wp2_with fail
    refine RV.out.mono ?_
    rintro e w1 ⟨rfl, b1⟩
    have T2 := TT.out.keep b1
    have LY := Lib.hid (T2.disk (D' := Dp.arm S.d a.n) T2.f (fun t h1 h2 => (T2.s t h1 h2).1) (fun t ht x y => (T2.k t ht x y).1))
    clear k0 k1 k2 k3 k4 k5 k6 k7 k8 k9 k10 r0 r1 r2 r3 r4 r5 r6 r7 r8 r9 r10 kr e0 e1 e2 b1 RV
    obtain ⟨⟨k0, k1, k2, k3, k4⟩, k5, k6, k7, k8, k9, k10⟩ := cellsS T2.d
    have kf := frozenS T2.d
    clear T2
    go_upto_region 6 with (fail)
    obtain ⟨Z, hZ, T3⟩ := LY.out
    rw [hZ]
    clear hZ LY k0 k1 k2 k3 k4 k5 k6 k7 k8 k9 k10 kf
    have TF := Lib.hid T3.fin
    obtain ⟨⟨k0, k1, k2, k3, k4⟩, k5, k6, k7, k8, k9, k10⟩ := cellsS T3.d
    obtain ⟨⟨r0, r1, r2, r3, r4⟩, r5, r6, r7, r8, r9, r10⟩ := cellsS T3.q
    have kr := frozenS T3.q
    dsimp only at k0 k1 k2 k3 k4 k5 k6 k7 k8 k9 k10
    clear T3
    go_wp2_with fail
    obtain ⟨Z3, hZ3, Z4, Z5⟩ := TF.out
    rw [hZ3]
    obtain ⟨⟨s0, s1, s2, s3, s4⟩, s5, s6, s7, s8, s9, s10⟩ := cellsS Z4
    refine bodyPost_ret (v := .tuple #[stVal (.slice fa fn fc) (.slice ga gn gc) { S with d := Dp.arm S.d a.n }, .int .i64 0]) (by unfold stVal; simp [results, Tryz.results13, go_sem, s0, s1, s2, s3, s4, s5, s6, s7, s8, s9, s10]) rfl ?_
    rw [HR.out]
    exact ⟨_, _, _, _, _, _, rfl, Z5⟩
  by_cases hk3 : a.k = 3
  · have hk := hk3
    clear hk2 hk3
    clear RS RA kf
    have HR := Lib.hid (doA_limit (q := q) (S := S) hk)
    have RV := Lib.hid (rlimit_val (.slice fa fn fc) S.d a.n w0 TT.out.f)
    rw [hk] at e0
    clear hk
    unfold dkVal at RV
    go_wp2_with fail
    refine RV.out.mono ?_
    rintro e w1 ⟨rfl, b1⟩
    have T2 := TT.out.keep b1
    have LY := Lib.hid (T2.disk (D' := Dp.limit S.d a.n) T2.f (fun t h1 h2 => (T2.s t h1 h2).1) (fun t ht x y => (T2.k t ht x y).1))
    clear k0 k1 k2 k3 k4 k5 k6 k7 k8 k9 k10 r0 r1 r2 r3 r4 r5 r6 r7 r8 r9 r10 kr e0 e1 e2 b1 RV
    obtain ⟨⟨k0, k1, k2, k3, k4⟩, k5, k6, k7, k8, k9, k10⟩ := cellsS T2.d
    have kf := frozenS T2.d
    clear T2
    go_upto_region 9 with (fail)
    obtain ⟨Z, hZ, T3⟩ := LY.out
    rw [hZ]
    clear hZ LY k0 k1 k2 k3 k4 k5 k6 k7 k8 k9 k10 kf
    have TF := Lib.hid T3.fin
    obtain ⟨⟨k0, k1, k2, k3, k4⟩, k5, k6, k7, k8, k9, k10⟩ := cellsS T3.d
    obtain ⟨⟨r0, r1, r2, r3, r4⟩, r5, r6, r7, r8, r9, r10⟩ := cellsS T3.q
    have kr := frozenS T3.q
    dsimp only at k0 k1 k2 k3 k4 k5 k6 k7 k8 k9 k10
    clear T3
    go_wp2_with fail
    obtain ⟨Z3, hZ3, Z4, Z5⟩ := TF.out
    rw [hZ3]
    obtain ⟨⟨s0, s1, s2, s3, s4⟩, s5, s6, s7, s8, s9, s10⟩ := cellsS Z4
    refine bodyPost_ret (v := .tuple #[stVal (.slice fa fn fc) (.slice ga gn gc) { S with d := Dp.limit S.d a.n }, .int .i64 0]) (by unfold stVal; simp [results, Tryz.results13, go_sem, s0, s1, s2, s3, s4, s5, s6, s7, s8, s9, s10]) rfl ?_
    rw [HR.out]
    exact ⟨_, _, _, _, _, _, rfl, Z5⟩
  obtain ⟨⟨T, E⟩, hT⟩ : ∃ R, append S q (recA S a) = R := ⟨_, rfl⟩
  have RA2 := RA.out w0 TT.out.f TT.out.g
  rw [show append S q ⟨S.x + a.n.tmod 3, 7, a.d⟩ = (T, E) from hT] at RA2
  have HR := Lib.hid (show doA q S a = (T, E) from by rw [doA_app hk hk2 hk3, hT])
  replace RA2 := Lib.hid RA2
  have q1 : (a.k == 1) = false := by simpa using hk
  have q2 : (a.k == 2) = false := by simpa using hk2
  have q3 : (a.k == 3) = false := by simpa using hk3
  clear hT hk hk2 hk3 RS RA kf
  go_wp2_with fail
  refine RA2.out.mono ?_
  rintro e w1 ⟨a1, n1, c1, a2, n2, c2, rfl, ks⟩
  have TF := Lib.hid (TT.out.gone ks (Below.refl _ _))
  clear k0 k1 k2 k3 k4 k5 k6 k7 k8 k9 k10 r0 r1 r2 r3 r4 r5 r6 r7 r8 r9 r10 kr e0 e1 e2
  obtain ⟨⟨r0, r1, r2, r3, r4⟩, r5, r6, r7, r8, r9, r10⟩ := cellsS (hkeep TT.out.q ks.w)
  have kr := frozenS (hkeep TT.out.q ks.w)
  clear ks
  unfold stVal
  go_wp2_with fail
  obtain ⟨Z3, hZ3, Z4, Z5⟩ := TF.out
  rw [hZ3]
  obtain ⟨⟨s0, s1, s2, s3, s4⟩, s5, s6, s7, s8, s9, s10⟩ := cellsS Z4
  refine bodyPost_ret (v := .tuple #[stVal (.slice a1 n1 c1) (.slice a2 n2 c2) T, .int .i64 E]) (by unfold stVal; simp [results, Tryz.results13, go_sem, s0, s1, s2, s3, s4, s5, s6, s7, s8, s9, s10]) rfl ?_
  rw [HR.out]
  exact ⟨_, _, _, _, _, _, rfl, Z5⟩

set_option maxRecDepth 100000 in
set_option maxHeartbeats 3200000 in
/-- The law's do. -/
theorem do12_any (fa ga : Option Addr) (fn fc gn gc : Nat) (S : St) (q : Int) (a : Ac) (w : World) (k : Nat) (hv : IsL FL w (.slice fa fn fc) S.d.f) (hg : IsL SL w (.slice ga gn gc) S.g) (h : Gd S k) (hk : k ≤ 900) (ha : AcB a) :
    Calls Tryz.prog 12 #[stVal (.slice fa fn fc) (.slice ga gn gc) S, .int .i64 q, acVal a] w (StOut w (.slice fa fn fc) (.slice ga gn gc) (doA q S a)) := by
  have T0 := Lib.hid fun (W0 : World) => @Ta.new w (.slice fa fn fc) (.slice ga gn gc) S #[.int .i64 a.k, .int .i64 a.n, .string a.d] 38 W0 hv hg
  have hB := h.stb hk
  have RS := Lib.hid fun (W : World) (h1 : IsL FL W (.slice fa fn fc) S.d.f) (h2 : IsL SL W (.slice ga gn gc) S.g) => sync12_any fa ga fn fc gn gc S W _ h1 h2 h.ne hB h.d (by omega)
  have hvv := h.v
  have hxx := h.x
  have htm : -2 ≤ a.n.tmod 3 ∧ a.n.tmod 3 ≤ 2 := tmod3 a.n
  have hro : RecOk (recA S a) := ⟨by show _ ≤ S.x + a.n.tmod 3; omega, by show S.x + a.n.tmod 3 ≤ _; omega, by show _ ≤ (7 : Int); omega, by show (7 : Int) ≤ _; omega, ha.2.2⟩
  have RA := Lib.hid fun (W : World) (h1 : IsL FL W (.slice fa fn fc) S.d.f) (h2 : IsL SL W (.slice ga gn gc) S.g) => append12_any fa ga fn fc gn gc S q (recA S a) W _ h1 h2 h.ne hB h.d (by omega) (by omega) hro
  have hwx : IntKind.i64.wrap (S.x + a.n.tmod 3) = S.x + a.n.tmod 3 := IntWalk.i64_in _ ⟨by omega, by omega⟩
  unfold recVal recA at RA
  clear hv hg h hB hro hk
  unfold stVal at RS RA ⊢
  unfold acVal
  dsimp only at RA
  go_enter Tryz.func12, Tryz.ntmps12
  go_upto_region 1 with (fail)
  obtain ⟨w0, hW⟩ : ∃ W0, ((w.alloc (.cells #[.slice fa fn fc, .int .i64 S.d.c, .bool S.d.a, .int .i64 S.d.l, .bool S.d.x, .int .i64 S.v, .slice ga gn gc, .int .i64 S.x, .int .i64 S.s, .int .i64 S.z, .int .u32 S.c] 31)).alloc (.cells #[.int .i64 a.k, .int .i64 a.n, .string a.d] 38)).alloc (.cells #[.slice none 0 0, .int .i64 0, .bool false, .int .i64 0, .bool false, .int .i64 0, .slice none 0 0, .int .i64 0, .int .i64 0, .int .i64 0, .int .u32 0] 31) = W0 := ⟨_, rfl⟩
  rw [hW]
  have T1 := T0.out w0 hW
  clear T0 hW
  obtain ⟨e0, e1, e2⟩ := cells3 T1.e
  obtain ⟨⟨k0, k1, k2, k3, k4⟩, k5, k6, k7, k8, k9, k10⟩ := cellsS T1.d
  obtain ⟨⟨r0, r1, r2, r3, r4⟩, r5, r6, r7, r8, r9, r10⟩ := cellsS T1.q
  have kr := frozenS T1.q
  have kf := frozenS T1.d
  have TT := Lib.hid T1
  clear T1
  by_cases hk : a.k = 1
  · obtain ⟨⟨T, E⟩, hT⟩ : ∃ R, syncT S = R := ⟨_, rfl⟩
    have RS2 := RS.out w0 TT.out.f TT.out.g
    rw [hT] at RS2
    have HR := Lib.hid (show doA q S a = (T, E) from by rw [doA_sync hk, hT])
    replace RS2 := Lib.hid RS2
    rw [hk] at e0
    clear hT hk RS RA
    go_wp2_with fail
    refine RS2.out.mono ?_
    rintro e w1 ⟨a1, n1, c1, a2, n2, c2, rfl, ks⟩
    have TF := Lib.hid (TT.out.gone ks (Below.refl _ _))
    clear k0 k1 k2 k3 k4 k5 k6 k7 k8 k9 k10 r0 r1 r2 r3 r4 r5 r6 r7 r8 r9 r10 kr e0 e1 e2
    obtain ⟨⟨r0, r1, r2, r3, r4⟩, r5, r6, r7, r8, r9, r10⟩ := cellsS (hkeep TT.out.q ks.w)
    have kr := frozenS (hkeep TT.out.q ks.w)
    clear ks
    unfold stVal
    go_wp2_with fail
    obtain ⟨Z3, hZ3, Z4, Z5⟩ := TF.out
    rw [hZ3]
    obtain ⟨⟨s0, s1, s2, s3, s4⟩, s5, s6, s7, s8, s9, s10⟩ := cellsS Z4
    refine bodyPost_ret (v := .tuple #[stVal (.slice a1 n1 c1) (.slice a2 n2 c2) T, .int .i64 E]) (by unfold stVal; simp [results, Tryz.results12, go_sem, s0, s1, s2, s3, s4, s5, s6, s7, s8, s9, s10]) rfl ?_
    rw [HR.out]
    exact ⟨_, _, _, _, _, _, rfl, Z5⟩
  by_cases hk2 : a.k = 2
  · have hk := hk2
    clear hk2
    clear RS RA kf
    have HR := Lib.hid (doA_arm (q := q) (S := S) hk)
    have RV := Lib.hid (rarm_val (.slice fa fn fc) S.d a.n w0 TT.out.f)
    rw [hk] at e0
    clear hk
    unfold dkVal at RV
    go_wp2_with fail
    refine RV.out.mono ?_
    rintro e w1 ⟨rfl, b1⟩
    have T2 := TT.out.keep b1
    have LY := Lib.hid (T2.disk (D' := Dp.arm S.d a.n) T2.f (fun t h1 h2 => (T2.s t h1 h2).1) (fun t ht x y => (T2.k t ht x y).1))
    clear k0 k1 k2 k3 k4 k5 k6 k7 k8 k9 k10 r0 r1 r2 r3 r4 r5 r6 r7 r8 r9 r10 kr e0 e1 e2 b1 RV
    obtain ⟨⟨k0, k1, k2, k3, k4⟩, k5, k6, k7, k8, k9, k10⟩ := cellsS T2.d
    have kf := frozenS T2.d
    clear T2
    go_upto_region 6 with (fail)
    obtain ⟨Z, hZ, T3⟩ := LY.out
    rw [hZ]
    clear hZ LY k0 k1 k2 k3 k4 k5 k6 k7 k8 k9 k10 kf
    have TF := Lib.hid T3.fin
    obtain ⟨⟨k0, k1, k2, k3, k4⟩, k5, k6, k7, k8, k9, k10⟩ := cellsS T3.d
    obtain ⟨⟨r0, r1, r2, r3, r4⟩, r5, r6, r7, r8, r9, r10⟩ := cellsS T3.q
    have kr := frozenS T3.q
    dsimp only at k0 k1 k2 k3 k4 k5 k6 k7 k8 k9 k10
    clear T3
    go_wp2_with fail
    obtain ⟨Z3, hZ3, Z4, Z5⟩ := TF.out
    rw [hZ3]
    obtain ⟨⟨s0, s1, s2, s3, s4⟩, s5, s6, s7, s8, s9, s10⟩ := cellsS Z4
    refine bodyPost_ret (v := .tuple #[stVal (.slice fa fn fc) (.slice ga gn gc) { S with d := Dp.arm S.d a.n }, .int .i64 0]) (by unfold stVal; simp [results, Tryz.results12, go_sem, s0, s1, s2, s3, s4, s5, s6, s7, s8, s9, s10]) rfl ?_
    rw [HR.out]
    exact ⟨_, _, _, _, _, _, rfl, Z5⟩
  by_cases hk3 : a.k = 3
  · have hk := hk3
    clear hk2 hk3
    clear RS RA kf
    have HR := Lib.hid (doA_limit (q := q) (S := S) hk)
    have RV := Lib.hid (rlimit_val (.slice fa fn fc) S.d a.n w0 TT.out.f)
    rw [hk] at e0
    clear hk
    unfold dkVal at RV
    go_wp2_with fail
    refine RV.out.mono ?_
    rintro e w1 ⟨rfl, b1⟩
    have T2 := TT.out.keep b1
    have LY := Lib.hid (T2.disk (D' := Dp.limit S.d a.n) T2.f (fun t h1 h2 => (T2.s t h1 h2).1) (fun t ht x y => (T2.k t ht x y).1))
    clear k0 k1 k2 k3 k4 k5 k6 k7 k8 k9 k10 r0 r1 r2 r3 r4 r5 r6 r7 r8 r9 r10 kr e0 e1 e2 b1 RV
    obtain ⟨⟨k0, k1, k2, k3, k4⟩, k5, k6, k7, k8, k9, k10⟩ := cellsS T2.d
    have kf := frozenS T2.d
    clear T2
    go_upto_region 9 with (fail)
    obtain ⟨Z, hZ, T3⟩ := LY.out
    rw [hZ]
    clear hZ LY k0 k1 k2 k3 k4 k5 k6 k7 k8 k9 k10 kf
    have TF := Lib.hid T3.fin
    obtain ⟨⟨k0, k1, k2, k3, k4⟩, k5, k6, k7, k8, k9, k10⟩ := cellsS T3.d
    obtain ⟨⟨r0, r1, r2, r3, r4⟩, r5, r6, r7, r8, r9, r10⟩ := cellsS T3.q
    have kr := frozenS T3.q
    dsimp only at k0 k1 k2 k3 k4 k5 k6 k7 k8 k9 k10
    clear T3
    go_wp2_with fail
    obtain ⟨Z3, hZ3, Z4, Z5⟩ := TF.out
    rw [hZ3]
    obtain ⟨⟨s0, s1, s2, s3, s4⟩, s5, s6, s7, s8, s9, s10⟩ := cellsS Z4
    refine bodyPost_ret (v := .tuple #[stVal (.slice fa fn fc) (.slice ga gn gc) { S with d := Dp.limit S.d a.n }, .int .i64 0]) (by unfold stVal; simp [results, Tryz.results12, go_sem, s0, s1, s2, s3, s4, s5, s6, s7, s8, s9, s10]) rfl ?_
    rw [HR.out]
    exact ⟨_, _, _, _, _, _, rfl, Z5⟩
  obtain ⟨⟨T, E⟩, hT⟩ : ∃ R, append S q (recA S a) = R := ⟨_, rfl⟩
  have RA2 := RA.out w0 TT.out.f TT.out.g
  rw [show append S q ⟨S.x + a.n.tmod 3, 7, a.d⟩ = (T, E) from hT] at RA2
  have HR := Lib.hid (show doA q S a = (T, E) from by rw [doA_app hk hk2 hk3, hT])
  replace RA2 := Lib.hid RA2
  have q1 : (a.k == 1) = false := by simpa using hk
  have q2 : (a.k == 2) = false := by simpa using hk2
  have q3 : (a.k == 3) = false := by simpa using hk3
  clear hT hk hk2 hk3 RS RA kf
  go_wp2_with fail
  refine RA2.out.mono ?_
  rintro e w1 ⟨a1, n1, c1, a2, n2, c2, rfl, ks⟩
  have TF := Lib.hid (TT.out.gone ks (Below.refl _ _))
  clear k0 k1 k2 k3 k4 k5 k6 k7 k8 k9 k10 r0 r1 r2 r3 r4 r5 r6 r7 r8 r9 r10 kr e0 e1 e2
  obtain ⟨⟨r0, r1, r2, r3, r4⟩, r5, r6, r7, r8, r9, r10⟩ := cellsS (hkeep TT.out.q ks.w)
  have kr := frozenS (hkeep TT.out.q ks.w)
  clear ks
  unfold stVal
  go_wp2_with fail
  obtain ⟨Z3, hZ3, Z4, Z5⟩ := TF.out
  rw [hZ3]
  obtain ⟨⟨s0, s1, s2, s3, s4⟩, s5, s6, s7, s8, s9, s10⟩ := cellsS Z4
  refine bodyPost_ret (v := .tuple #[stVal (.slice a1 n1 c1) (.slice a2 n2 c2) T, .int .i64 E]) (by unfold stVal; simp [results, Tryz.results12, go_sem, s0, s1, s2, s3, s4, s5, s6, s7, s8, s9, s10]) rfl ?_
  rw [HR.out]
  exact ⟨_, _, _, _, _, _, rfl, Z5⟩

end Go.Proofs.YthhhocgpoenigaaGreat.Sto

namespace Go.Proofs.YthhhocgpoenigaaGreat.Sto
open Go.RowKit Go.Proofs.YthhhocgpoenigaaGreat.So Go.Proofs.YthhhocgpoenigaaGreat.Dsk Go.Proofs.YthhhocgpoenigaaGreat.Rts

theorem abc_slice (k : Nat) (hk : k < 3) (W : World) : (Instr.slice 9 (.string { data := #[97, 98, 99] }) (some (.int .i64 (k : Int))) (some (.int .i64 ((k : Int) + 1))) none).run Tryz.prog W = .ok (.string (rcA k).d) W := by
  have := run_slice_string (P := Tryz.prog) W 9 { data := #[97, 98, 99] } .i64 .i64 (k : Int) ((k : Int) + 1) Tryz.underlying9 (by omega) (by omega) (by show (k : Int) + 1 ≤ 3; omega)
  rw [this]
  have hk3 : k = 0 ∨ k = 1 ∨ k = 2 := by omega
  rcases hk3 with rfl | rfl | rfl <;> rfl

set_option maxRecDepth 100000 in
set_option maxHeartbeats 3200000 in
theorem awake12 (w : World) : Calls Tryz.prog 8 #[] w fun e w' => e = .returned (.bool true) ∧ Below w.heap.size w w' := by
  obtain ⟨c1, c2⟩ := aw_create
  have CR := create12_any none 0 0 Dp.empty w 0 (IsL.nil w none 0) bd_emp (by decide)
  obtain ⟨⟨S0, E0⟩, hc⟩ : ∃ R, createT Dp.empty = R := ⟨_, rfl⟩
  rw [hc] at c1 c2 CR
  obtain rfl : E0 = 0 := c1
  have A0 := Lib.hid (show Aw 0 S0 from c2)
  unfold dkVal at CR
  replace CR := Lib.hid CR
  clear hc
  go_enter Tryz.func8, Tryz.ntmps8
  go_wp2_with fail
  refine CR.out.mono ?_
  rintro e w1 ⟨a1, n1, c1, a2, n2, c2, rfl, ks⟩
  have B0 := Lib.hid (Bx.first (P := [w1.heap.size]) ks (fun p hp => by simp at hp; omega))
  have L0 := Lib.hid (ks.w.alloc ks.w.size (.cells #[.slice a1 n1 c1, .int .i64 S0.d.c, .bool S0.d.a, .int .i64 S0.d.l, .bool S0.d.x, .int .i64 S0.v, .slice a2 n2 c2, .int .i64 S0.x, .int .i64 S0.s, .int .i64 S0.z, .int .u32 S0.c] 31))
  have hbw : w.heap.size ≤ w1.heap.size := ks.w.size
  clear ks CR
  unfold stVal
  dsimp only
  go_wp2_with fail
  generalize w1.alloc _ = w0 at B0 L0 ⊢
  generalize w1.heap.size = b at B0 L0 hbw ⊢
  go_loopw [3] (fun i wr => ∃ (k : Nat) (S : St), k ≤ 3 ∧ i = .int .i64 k ∧ Hid (Aw k S) ∧ Hid (BxR [b] b S wr) ∧ Hid (Below w.heap.size w wr)) (fun i _ => 3 - (intOf i).toNat)
  case atStart => exact ⟨0, S0, by omega, rfl, A0, ⟨_, _, _, _, _, _, B0.out⟩, L0⟩
  case round =>
    obtain ⟨k, S, hk, rfl, HA, HB, HL⟩ := hrel
    obtain ⟨a3, n3, c3, a4, n4, c4, BB⟩ := HB.out
    by_cases hlt : k < 3
    · obtain ⟨t1, t2⟩ := aw_step HA.out hlt
      have hgd := HA.out.d
      have AP := Lib.hid fun (W : World) (h1 : IsL FL W (.slice a3 n3 c3) S.d.f) (h2 : IsL SL W (.slice a4 n4 c4) S.g) => append12_any a3 a4 n3 c3 n4 c4 S 100 (rcA k) W _ h1 h2 hgd.ne (hgd.stb (by omega)) hgd.d (by omega) (by have := hgd.v; omega) ⟨by show _ ≤ (k : Int); omega, by show (k : Int) ≤ _; omega, by show _ ≤ (0 : Int); omega, by show (0 : Int) ≤ _; omega, by show 1 ≤ _; omega⟩
      obtain ⟨⟨T, E⟩, hT⟩ : ∃ R, append S 100 (rcA k) = R := ⟨_, rfl⟩
      rw [hT] at t1 t2 AP
      obtain rfl : E = 0 := t1
      have AT := Lib.hid (show Aw (k + 1) T from t2)
      unfold recVal stVal at AP
      replace AP := Lib.hid AP.out
      have hsl := fun W : World => abc_slice k hlt W
      have hwk : IntKind.i64.wrap ((k : Int) + 1) = (k : Int) + 1 := IntWalk.i64_in _ ⟨by omega, by omega⟩
      rw [show (rcA k).a = (k : Int) from rfl, show (rcA k).t = 0 from rfl] at AP
      generalize (rcA k).d = dd at AP hsl
      clear hT hgd
      obtain ⟨⟨k0, k1, k2, k3, k4⟩, k5, k6, k7, k8, k9, k10⟩ := cellsS BB.d
      have hb0 : b < wr.heap.size := BB.lt
      have hP : ∀ p ∈ [b], p < wr.heap.size := fun p hp => by simp at hp; omega
      have BH := Lib.hid BB
      clear BB
      go_upto_region 5 with (fail)
      go_cut [4, 5] (fun p e we => ∃ t : Nat, p = .pointer (some ⟨t, 0, none⟩) ∧ e = .int .i64 0 ∧ BxR [b] t T we ∧ Below wr.heap.size wr we ∧ wr.heap.size ≤ t)
      case first =>
        go_region_held3 (fun W => (∀ b o, b < wr.heap.size → W.cell? ⟨b, o, none⟩ = wr.cell? ⟨b, o, none⟩) ∧ Below wr.heap.size wr W) (first | with_reducible assumption | with_reducible exact KW.dr _ | with_reducible exact KW.al11 (by assumption) | with_reducible exact KW.al (by assumption) | with_reducible exact KW.ad (KW.start _) | with_reducible exact KW.ad (by assumption) | with_reducible exact KW.st11 (by assumption) (Nat.le_refl _) | with_reducible exact KW.st11 (by assumption) (by assumption) | with_reducible exact KW.keep (by assumption) (Below.refl _ _).drew | with_reducible exact KW.keep (by assumption) (by assumption)) (first | (go_at_call 31; refine (AP.out _ (by first | exact BH.out.f.keep (KW.bel (by assumption)) | exact BH.out.f.keep (Below.refl _ _).drew) (by first | exact BH.out.g.keep (KW.bel (by assumption)) | exact BH.out.g.keep (Below.refl _ _).drew)).mono ?_; rintro e w5 ⟨a5, n5, c5, a6, n6, c6, rfl, k5'⟩; have q5 := k5'.w; have s5 := KW.keep (by assumption) q5; have q4 := KW.at (by assumption) q5; (first | (with_reducible have z5 := hkeep (alloc_drew_new _ _ _) q5) | skip); (first | (have zc := cellsS z5; have zf := frozenS z5; obtain ⟨⟨y0, y1, y2, y3, y4⟩, y5, y6, y7, y8, y9, y10⟩ := zc) | skip); unfold stVal))
        all_goals
          rename_i hh
          clear hh s5
          go_wp2_with fail
          go_meet
          case rel =>
            first
              | (refine ⟨_, rfl, rfl, ?_, ?_, ?_⟩; (with_reducible exact BxR.A BH.out q4 k5' hP); (with_reducible exact BxR.bA q4 k5' _); exact Nat.le_trans q4.size k5'.w.size)
              | (refine ⟨_, rfl, rfl, ?_, ?_, ?_⟩; (with_reducible exact BxR.B BH.out q4 k5' hP z5 (Nat.le_refl _) (alloc_drew_lt _ _)); (with_reducible exact BxR.bB q4 k5' (Nat.le_refl _)); exact Nat.le_refl _)
      case rest =>
        obtain ⟨t, rfl, rfl, ⟨a5, n5, c5, a6, n6, c6, BT⟩, LT, ht⟩ := hcut
        have BS := BH.out.keep LT
        clear k0 k1 k2 k3 k4 k5 k6 k7 k8 k9 k10 hsl hwk AP BH
        have CP := Lib.hid (BT.copy BS (by simp))
        have LZ := Lib.hid (HL.out.trans (LT.mono HL.out.size))
        obtain ⟨⟨k0, k1, k2, k3, k4⟩, k5, k6, k7, k8, k9, k10⟩ := cellsS BS.d
        have kf := frozenS BS.d
        obtain ⟨⟨x0, x1, x2, x3, x4⟩, x5, x6, x7, x8, x9, x10⟩ := cellsS BT.d
        clear BS BT LT
        go_upto_region 4 with (fail)
        obtain ⟨Z, hZ, Z1, _, Z3⟩ := CP.out
        rw [hZ]
        have Z4 := Lib.hid (Z3 w.heap.size w hbw LZ.out)
        have Z5 := Lib.hid (show BxR [b] b T Z from ⟨_, _, _, _, _, _, Z1⟩)
        clear hZ CP Z1 Z3 k0 k1 k2 k3 k4 k5 k6 k7 k8 k9 k10 kf x0 x1 x2 x3 x4 x5 x6 x7 x8 x9 x10
        go_wp2_with fail
        go_roundw
        case rel => exact ⟨k + 1, T, by omega, by go_num, AT, Z5, Z4⟩
        case measure => simp [intOf]; omega
    · obtain rfl : k = 3 := by omega
      obtain ⟨f1, f2, f3, f4, f5⟩ := aw_end HA.out
      have hgd := HA.out.d
      have SY := sync12_any a3 a4 n3 c3 n4 c4 S wr _ BB.f BB.g hgd.ne (hgd.stb (by omega)) hgd.d (by omega)
      obtain ⟨⟨T, E⟩, hT⟩ : ∃ R, syncT S = R := ⟨_, rfl⟩
      have fI := HA.out.i.sync (by rw [rcs_len]; decide)
      rw [hT] at f1 f2 f3 f4 f5 SY fI
      dsimp only at fI
      obtain rfl : E = 0 := f1
      dsimp only at f2 f3 f4 f5
      have hB := f5.stb (by omega)
      have RD := Lib.hid fun (a n c a' n' c') (W : World) (h1 : IsL FL W (.slice a n c) T.d.f) (h2 : IsL SL W (.slice a' n' c') T.g) => read12_any a a' n c n' c' T 100 (rcs 3) 1 W h1 h2 hB fI (by rw [rcs_len]; decide)
      have FR := Lib.hid fun (a n c a' n' c') (W : World) (h1 : IsL FL W (.slice a n c) T.d.f) (h2 : IsL SL W (.slice a' n' c') T.g) => from12_any a a' n c n' c' T 100 (rcs 3) 1 1000 9 W h1 h2 hB fI (by rw [rcs_len]; decide) (by decide) (by decide)
      rw [f3] at RD
      obtain ⟨FL0, hFL⟩ : ∃ l, fromT T 1 1000 9 = l := ⟨_, rfl⟩
      rw [hFL] at f4 FR
      have HF4 := Lib.hid f4
      have HT3 := Lib.hid f2
      unfold stVal at SY RD FR
      replace SY := Lib.hid SY
      have hP : ∀ p ∈ [b], p < wr.heap.size := fun p hp => by have := BB.lt; simp at hp; omega
      obtain ⟨⟨k0, k1, k2, k3, k4⟩, k5, k6, k7, k8, k9, k10⟩ := cellsS BB.d
      have BH := Lib.hid BB
      clear hT hgd hB hFL f2 f3 f4 f5 BB hlt
      go_wp2_with fail
      refine SY.out.mono ?_
      rintro e w2 ⟨a5, n5, c5, a6, n6, c6, rfl, ks⟩
      have LY := Lib.hid (BH.out.lay ks (by simp) hP)
      have kw := Lib.hid ks.w
      clear k0 k1 k2 k3 k4 k5 k6 k7 k8 k9 k10
      obtain ⟨⟨k0, k1, k2, k3, k4⟩, k5, k6, k7, k8, k9, k10⟩ := cellsS (hkeep BH.out.d ks.w)
      have kf := frozenS (hkeep BH.out.d ks.w)
      clear ks
      unfold stVal
      go_upto_region 10 with (fail)
      obtain ⟨Z, hZ, Z1, Z2⟩ := LY.out
      rw [hZ]
      have ZB := Lib.hid Z1
      have ZL := Lib.hid (Z2 w.heap.size w hbw (HL.out.trans (kw.out.mono HL.out.size)))
      clear hZ LY Z2 kw k0 k1 k2 k3 k4 k5 k6 k7 k8 k9 k10 kf
      obtain ⟨⟨k0, k1, k2, k3, k4⟩, k5, k6, k7, k8, k9, k10⟩ := cellsS Z1.d
      have hbz := Z1.lt
      have R1 := RD.out _ _ _ _ _ _ Z Z1.f Z1.g
      unfold RdVal recVal at R1
      dsimp only at R1
      rw [show (rcA 1).a = 1 from rfl, show (rcA 1).t = 0 from rfl, show (rcA 1).d = ⟨#[98]⟩ from rfl] at R1
      replace R1 := Lib.hid R1
      clear Z1 RD
      go_wp2_with fail
      refine R1.out.mono ?_
      rintro e w4 ⟨rfl, b4⟩
      have B4 := ZB.out.keep b4
      have al := (Below.refl w4.heap.size w4).alloc (Nat.le_refl _) (.cells #[.int .i64 1, .int .i64 0, .string ⟨#[98]⟩] 57)
      have B5 := B4.keep al
      have X5 := heap_alloc_new w4 (.cells #[.int .i64 1, .int .i64 0, .string ⟨#[98]⟩] 57)
      have L5 := Lib.hid ((ZL.out.trans (b4.mono ZL.out.size)).trans (al.mono (Nat.le_trans ZL.out.size b4.size)))
      clear k0 k1 k2 k3 k4 k5 k6 k7 k8 k9 k10
      obtain ⟨⟨k0, k1, k2, k3, k4⟩, k5, k6, k7, k8, k9, k10⟩ := cellsS B5.d
      obtain ⟨x0, x1, x2⟩ := cells3 X5
      have F5 := FR.out _ _ _ _ _ _ _ B5.f B5.g
      have ht3 := HT3.out
      rw [ht3] at k8 F5
      replace F5 := Lib.hid F5
      clear B4 al B5 X5 b4 FR ht3
      go_wp2_with fail
      refine F5.out.mono ?_
      rintro e w6 ⟨v, rfl, hv, b6⟩
      obtain ⟨va, vc, rfl, _, _, _⟩ := hv
      rw [HF4.out]
      have L6 := Lib.hid (L5.out.trans (b6.mono L5.out.size))
      have k8' : w6.cell? ⟨b, 8, none⟩ = some (.int .i64 3) := (b6.cell (p := ⟨b, 8, none⟩) (block_lt_of_cell k8)).trans k8
      clear b6
      go_wp2_with fail
      go_ret
      exact ⟨rfl, L6.out⟩

end Go.Proofs.YthhhocgpoenigaaGreat.Sto

namespace Go.Proofs.YthhhocgpoenigaaGreat.Dsk
open Go.RowKit Go.Proofs.YthhhocgpoenigaaGreat.Dp

set_option maxRecDepth 100000 in
set_option maxHeartbeats 3200000 in
theorem rsame_yes (v1 v2 : Value) (D : Dk) (w : World) (h1 : IsL FL w v1 D.f) (h2 : IsL FL w v2 D.f) :
    Calls Tryz.prog 24 #[dkVal v1 D, dkVal v2 D] w fun e w' => e = .returned (.bool true) ∧ Below w.heap.size w w' := by
  obtain ⟨fa, fn, fc, rfl⟩ : ∃ a n c, v1 = .slice a n c := by obtain ⟨a, c, h, _⟩ := h1; exact ⟨a, _, c, h⟩
  obtain ⟨ga, gn, gc, rfl⟩ : ∃ a n c, v2 = .slice a n c := by obtain ⟨a, c, h, _⟩ := h2; exact ⟨a, _, c, h⟩
  obtain rfl : gn = fn := by rw [h1.len.1, h2.len.1]
  have hl : gn ≤ 9223372036854775807 := by have := h1.len; unfold maxLen at this; omega
  have H1 := Lib.hid h1
  have H2 := Lib.hid h2
  clear h1 h2
  obtain ⟨fl, dc, da, dl, dx⟩ := D
  unfold dkVal
  dsimp only at *
  obtain ⟨g0, g1, gb, gs⟩ := boxes2 w #[.slice fa gn fc, .int .i64 dc, .bool da, .int .i64 dl, .bool dx] #[.slice ga gn gc, .int .i64 dc, .bool da, .int .i64 dl, .bool dx] 27 27
  obtain ⟨p0, p1, p2, p3, p4⟩ := cells5 g0
  obtain ⟨q0, q1, q2, q3, q4⟩ := cells5 g1
  have GB := Lib.hid gb
  clear g0 g1 gb gs
  cases da
  all_goals cases dx
  all_goals
    go_enter Tryz.func24, Tryz.ntmps24
    go_wp2_with fail
    generalize World.alloc (World.alloc w _) _ = w0 at p0 p1 p2 p3 p4 q0 q1 q2 q3 q4 GB ⊢
    go_loopw [5] (fun i wr => ∃ k n : Nat, k ≤ gn ∧ i = .int .i64 k ∧ wr = w0.drewN n) (fun i _ => gn - (intOf i).toNat)
    case atStart => exact ⟨0, 0, Nat.zero_le _, rfl, rfl⟩
    case round =>
      obtain ⟨k, n, hk, rfl, rfl⟩ := hrel
      by_cases hlt : k < gn
      · obtain ⟨b, off, rfl, c0, c1, c2⟩ := isL_at (H1.out.keep GB.out) hlt
        obtain ⟨b', off', rfl, d0, d1, d2⟩ := isL_at (H2.out.keep GB.out) hlt
        generalize fl.getD k zero = f at *
        go_wp2_with fail
        go_quiet (fail)
        go_wp2_with fail
        go_roundw
        case rel => exact ⟨k + 1, _, by omega, by go_num, rfl⟩
        case measure => simp [intOf]; omega
      · go_wp2_with fail
        go_ret
        exact ⟨rfl, GB.out.trans ((bel_drewN n).mono GB.out.size)⟩

end Go.Proofs.YthhhocgpoenigaaGreat.Dsk

namespace Go.Proofs.YthhhocgpoenigaaGreat.Sto
open Go.RowKit Go.Proofs.YthhhocgpoenigaaGreat.So Go.Proofs.YthhhocgpoenigaaGreat.Dsk Go.Proofs.YthhhocgpoenigaaGreat.Rts

set_option maxRecDepth 100000 in
set_option maxHeartbeats 1600000 in
theorem rsame12_yes (f1 g1 f2 g2 : Value) (S : St) (w : World) (hf1 : IsL FL w f1 S.d.f) (hg1 : IsL SL w g1 S.g) (hf2 : IsL FL w f2 S.d.f) (hg2 : IsL SL w g2 S.g) :
    Calls Tryz.prog 11 #[stVal f1 g1 S, stVal f2 g2 S] w fun e w' => e = .returned (.bool true) ∧ Below w.heap.size w w' := by
  obtain ⟨fa, fn, fc, rfl⟩ : ∃ a n c, f1 = .slice a n c := by obtain ⟨a, c, h, _⟩ := hf1; exact ⟨a, _, c, h⟩
  obtain ⟨ha, hn, hc, rfl⟩ : ∃ a n c, f2 = .slice a n c := by obtain ⟨a, c, h, _⟩ := hf2; exact ⟨a, _, c, h⟩
  obtain ⟨ga, gn, gc, rfl⟩ : ∃ a n c, g1 = .slice a n c := by obtain ⟨a, c, h, _⟩ := hg1; exact ⟨a, _, c, h⟩
  obtain ⟨ka, kn, kc, rfl⟩ : ∃ a n c, g2 = .slice a n c := by obtain ⟨a, c, h, _⟩ := hg2; exact ⟨a, _, c, h⟩
  obtain rfl : kn = gn := by rw [hg1.len.1, hg2.len.1]
  have hl : kn ≤ 9223372036854775807 := by have := hg1.len; unfold maxLen at this; omega
  have DS := Lib.hid fun (W : World) (h1 : IsL FL W (.slice fa fn fc) S.d.f) (h2 : IsL FL W (.slice ha hn hc) S.d.f) => rsame_yes (.slice fa fn fc) (.slice ha hn hc) S.d W h1 h2
  have F1 := Lib.hid hf1
  have F2 := Lib.hid hf2
  have G1 := Lib.hid hg1
  have G2 := Lib.hid hg2
  clear hf1 hg1 hf2 hg2
  obtain ⟨⟨df, dc, da, dl, dx⟩, sv, sg, sx, ss, sz, sc⟩ := S
  unfold stVal
  unfold dkVal at DS
  dsimp only at *
  obtain ⟨g0, g1, gb, gs⟩ := boxes2 w #[.slice fa fn fc, .int .i64 dc, .bool da, .int .i64 dl, .bool dx, .int .i64 sv, .slice ga kn gc, .int .i64 sx, .int .i64 ss, .int .i64 sz, .int .u32 sc] #[.slice ha hn hc, .int .i64 dc, .bool da, .int .i64 dl, .bool dx, .int .i64 sv, .slice ka kn kc, .int .i64 sx, .int .i64 ss, .int .i64 sz, .int .u32 sc] 31 31
  obtain ⟨⟨p0, p1, p2, p3, p4⟩, p5, p6, p7, p8, p9, p10⟩ := cellsS g0
  obtain ⟨⟨q0, q1, q2, q3, q4⟩, q5, q6, q7, q8, q9, q10⟩ := cellsS g1
  have H0 := Lib.hid g0
  have H1 := Lib.hid g1
  have GB := Lib.hid gb
  clear g0 g1 gb gs
  go_enter Tryz.func11, Tryz.ntmps11
  go_wp2_with fail
  generalize World.alloc (World.alloc w _) _ = w0 at p0 p1 p2 p3 p4 p5 p6 p7 p8 p9 p10 q0 q1 q2 q3 q4 q5 q6 q7 q8 q9 q10 H0 H1 GB ⊢
  refine (DS.out w0 (F1.out.keep GB.out) (F2.out.keep GB.out)).mono ?_
  rintro e w1 ⟨rfl, b1⟩
  clear p0 p1 p2 p3 p4 p5 p6 p7 p8 p9 p10 q0 q1 q2 q3 q4 q5 q6 q7 q8 q9 q10
  obtain ⟨⟨p0, p1, p2, p3, p4⟩, p5, p6, p7, p8, p9, p10⟩ := cellsS (hkeep H0.out b1)
  obtain ⟨⟨q0, q1, q2, q3, q4⟩, q5, q6, q7, q8, q9, q10⟩ := cellsS (hkeep H1.out b1)
  have GB1 := Lib.hid (GB.out.trans (b1.mono GB.out.size))
  clear b1
  go_wp2_with fail
  go_loopw [5] (fun i wr => ∃ k n : Nat, k ≤ kn ∧ i = .int .i64 k ∧ wr = w1.drewN n) (fun i _ => kn - (intOf i).toNat)
  case atStart => exact ⟨0, 0, Nat.zero_le _, rfl, rfl⟩
  case round =>
    obtain ⟨k, n, hk, rfl, rfl⟩ := hrel
    by_cases hlt : k < kn
    · obtain ⟨b, off, rfl, c0, c1, c2⟩ := sg_at (G1.out.keep GB1.out) hlt
      obtain ⟨b', off', rfl, d0, d1, d2⟩ := sg_at (G2.out.keep GB1.out) hlt
      generalize sg.getD k Rt.zero = f at *
      go_wp2_with fail
      go_quiet (fail)
      go_wp2_with fail
      go_roundw
      case rel => exact ⟨k + 1, _, by omega, by go_num, rfl⟩
      case measure => simp [intOf]; omega
    · go_wp2_with fail
      go_ret
      exact ⟨rfl, GB1.out.trans ((bel_drewN n).mono GB1.out.size)⟩

end Go.Proofs.YthhhocgpoenigaaGreat.Sto

namespace Go.Proofs.YthhhocgpoenigaaGreat.Mfs
open Go.RowKit Go.Proofs.YthhhocgpoenigaaGreat.Qm

set_option maxRecDepth 100000 in
set_option maxHeartbeats 1600000 in
theorem rsame10_yes (fa ga : Option Addr) (fn fc gn gc : Nat) (m : Mn) (w : World) (h1 : IsL IL w (.slice fa fn fc) m.l) (h2 : IsL IL w (.slice ga gn gc) m.l) :
    Calls Tryz.prog 16 #[mnVal fa fn fc m, mnVal ga gn gc m] w fun e w' => e = .returned (.bool true) ∧ Below w.heap.size w w' := by
  obtain rfl : gn = fn := by rw [h1.len.1, h2.len.1]
  have hl : gn ≤ 9223372036854775807 := by have := h1.len; unfold maxLen at this; omega
  have HB := Lib.hid (((Below.refl w.heap.size w).alloc (Nat.le_refl _) (.cells #[.int .i64 m.v, .slice fa gn fc, .int .i64 m.z, .int .u32 m.c] 43)).alloc (by simp) (.cells #[.int .i64 m.v, .slice ga gn gc, .int .i64 m.z, .int .u32 m.c] 43))
  have G1 : ((w.alloc (.cells #[.int .i64 m.v, .slice fa gn fc, .int .i64 m.z, .int .u32 m.c] 43)).alloc (.cells #[.int .i64 m.v, .slice ga gn gc, .int .i64 m.z, .int .u32 m.c] 43)).heap[w.heap.size]? = some (.cells #[.int .i64 m.v, .slice fa gn fc, .int .i64 m.z, .int .u32 m.c] 43 (0, 0)) :=
    ((World.grownBy_alloc (w.alloc (.cells #[.int .i64 m.v, .slice fa gn fc, .int .i64 m.z, .int .u32 m.c] 43)) (.cells #[.int .i64 m.v, .slice ga gn gc, .int .i64 m.z, .int .u32 m.c] 43) none).block w.heap.size (by simp) (by simp)).trans (heap_alloc_new w _)
  have G2 := heap_alloc_new (w.alloc (.cells #[.int .i64 m.v, .slice fa gn fc, .int .i64 m.z, .int .u32 m.c] 43)) (.cells #[.int .i64 m.v, .slice ga gn gc, .int .i64 m.z, .int .u32 m.c] 43)
  rw [show (w.alloc (.cells #[.int .i64 m.v, .slice fa gn fc, .int .i64 m.z, .int .u32 m.c] 43)).heap.size = w.heap.size + 1 by simp] at G2
  obtain ⟨x0, x1, x2, x3⟩ := cells4 G1
  obtain ⟨y0, y1, y2, y3⟩ := cells4 G2
  have H1 := Lib.hid (h1.keep HB.out)
  have H2 := Lib.hid (h2.keep HB.out)
  clear h1 h2 G1 G2
  unfold mnVal
  go_enter Tryz.func16, Tryz.ntmps16
  go_wp2_with fail
  generalize World.alloc _ _ = w0 at HB H1 H2 x0 x1 x2 x3 y0 y1 y2 y3 ⊢
  go_loopw [5] (fun i wr => ∃ k n : Nat, k ≤ gn ∧ i = .int .i64 k ∧ wr = w0.drewN n) (fun i _ => gn - (intOf i).toNat)
  case atStart => exact ⟨0, 0, Nat.zero_le _, rfl, rfl⟩
  case round =>
    obtain ⟨k, n, hk, rfl, rfl⟩ := hrel
    by_cases hlt : k < gn
    · obtain ⟨g, off, rfl, c0⟩ := il_at H1.out hlt
      obtain ⟨g', off', rfl, d0⟩ := il_at H2.out hlt
      generalize m.l.getD k 0 = f at *
      go_wp2_with fail
      go_quiet (fail)
      go_wp2_with fail
      go_roundw
      case rel => exact ⟨k + 1, _, by omega, by go_num, rfl⟩
      case measure => simp [intOf]; omega
    · go_wp2_with fail
      go_ret
      exact ⟨rfl, HB.out.trans ((bel_drewN n).mono HB.out.size)⟩

end Go.Proofs.YthhhocgpoenigaaGreat.Mfs
