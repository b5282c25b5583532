/-
  What the program's Armed, sooner, without and put of layer 18 answer.
-/
import Derived.Test.YtpbpkeifehobjaaTimRef2
import Derived.Test.YtpbpkeifehobjaaRow
import Derived.Test.YtpbpkeifehobjaaApart
import Derived.OwnWalk
namespace Go.Proofs.Ytpbpkeifehobjaa.Tm
open Go.RowKit Go.Proofs.Ytpbpkeifehobjaa.Tp Go.Proofs.Ytpbpkeifehobjaa.Aps

set_option maxRecDepth 100000 in
set_option maxHeartbeats 1600000 in
theorem armed18_any (now i : Int) (v : Value) (l : List Al) (w : World) (hv : IsL TL w v l) :
    Calls Try.prog 15 #[.agg #[.int .i64 now, v], .int .i64 i] w fun e w' => e = .returned (.bool (armed l i)) ∧ Below w.heap.size w w' := by
  obtain ⟨fa, fn, fc, rfl⟩ := isl_slice hv
  have hfl := hv.len.1
  have HJ := Lib.hid (show ∀ j, j < fn → (l.getD j azero).i = i → armed l i = true from fun j hj h => armed_iff.2 ⟨l.getD j azero, by rw [getD_lt (by omega)]; exact List.getElem_mem _, h⟩)
  have HY := Lib.hid (show (∀ j, j < fn → (l.getD j azero).i ≠ i) → armed l i = false from fun k => by
    rw [← Bool.not_eq_true, armed_iff]
    rintro ⟨b, hb, e⟩
    obtain ⟨j, hj, rfl⟩ := List.getElem_of_mem hb
    have := k j (by omega)
    rw [getD_lt hj] at this
    exact this e)
  have BX := Lib.hid ((Bs.start w).new #[.int .i64 now, .slice fa fn fc] 26)
  have HV := Lib.hid (hv.keep BX.out.w)
  have hl2 : fn ≤ 9223372036854775807 := by have := hv.len.2; unfold maxLen at this; omega
  generalize armed l i = R at *
  clear hv hfl
  go_enter Try.func15, Try.ntmps15
  go_wp2_with fail
  obtain ⟨x0, x1⟩ := BX.out.at2 (.head _)
  generalize World.alloc w _ = w0 at x0 x1 BX HV ⊢
  go_loopw [10] (fun i' W => ∃ k : Nat, k ≤ fn ∧ i' = .int .i64 k ∧ (∀ j, j < k → (l.getD j azero).i ≠ i) ∧ Below w0.heap.size w0 W) (fun i _ => fn - (intOf i).toNat)
  case atStart => exact ⟨0, Nat.zero_le _, rfl, fun j hj => absurd hj (Nat.not_lt_zero j), Below.refl _ _⟩
  case round =>
    obtain ⟨k, hk, rfl, hall, hw⟩ := hrel
    have HALL := Lib.hid hall
    have HW := Lib.hid hw
    clear hall hw
    by_cases hlt : k < fn
    · obtain ⟨g, off, rfl, c0, c1⟩ := tl_at (HV.out.keep HW.out) hlt
      have HE := Lib.hid (HJ.out k hlt)
      have HN := Lib.hid (show (l.getD k azero).i ≠ i → ∀ j, j < k + 1 → (l.getD j azero).i ≠ i from fun h j hj => by rcases Nat.lt_succ_iff_lt_or_eq.1 hj with h' | h'; exact HALL.out j h'; subst h'; exact h)
      generalize l.getD k azero = q at c0 c1 HE HN
      obtain ⟨qi, qt⟩ := q
      dsimp only at c0 c1 HE HN
      have W2 := Lib.hid (HW.out.alloc HW.out.size (.cells #[.int .i64 qi, .int .i64 qt] 44))
      have B2 := Lib.hid ((BX.out.keep W2.out).w)
      by_cases hi : qi = i
      · have HR := Lib.hid (HE.out hi)
        subst hi
        go_wp2_with fail
        go_ret
        exact ⟨by rw [HR.out]; rfl, B2.out⟩
      · have HN2 := Lib.hid (HN.out hi)
        go_wp2_with fail
        go_roundw
        case rel => exact ⟨k + 1, by omega, by go_num, HN2.out, W2.out⟩
        case measure => simp [intOf]; omega
    · obtain rfl : k = fn := by omega
      have HR := Lib.hid (HY.out HALL.out)
      have B2 := Lib.hid ((BX.out.keep HW.out).w)
      go_wp2_with fail
      go_ret
      exact ⟨by rw [HR.out]; rfl, B2.out⟩

set_option maxRecDepth 100000 in
theorem sooner18_any (a b : Al) (w : World) :
    Calls Try.prog 19 #[.agg #[.int .i64 a.i, .int .i64 a.t], .agg #[.int .i64 b.i, .int .i64 b.t]] w fun e w' => e = .returned (.bool (decide (Lt a b))) ∧ Below w.heap.size w w' := by
  obtain ⟨ai, at_⟩ := a
  obtain ⟨bi, bt⟩ := b
  have BW := Lib.hid (((Below.refl w.heap.size w).alloc (Nat.le_refl _) (.cells #[.int .i64 ai, .int .i64 at_] 44)).alloc (by simp) (.cells #[.int .i64 bi, .int .i64 bt] 44))
  obtain ⟨r, hr⟩ : ∃ r, decide (Lt ⟨ai, at_⟩ ⟨bi, bt⟩) = r := ⟨_, rfl⟩
  rw [hr]
  have HR := Lib.hid hr
  clear hr
  go_enter Try.func19, Try.ntmps19
  by_cases h : at_ = bt
  · subst h
    go_wp2_with fail
    go_ret
    refine ⟨?_, BW.out⟩
    rw [← HR.out]
    congr 2
    simp [Lt]
  · go_wp2_with fail
    go_ret
    refine ⟨?_, BW.out⟩
    rw [← HR.out]
    congr 2
    simp [Lt, h]

set_option maxRecDepth 100000 in
set_option maxHeartbeats 1600000 in
theorem without18_any (i : Int) (v : Value) (l : List Al) (w : World) (hv : IsL TL w v l) (hl : l.length ≤ 100000) :
    Calls Try.prog 18 #[v, .int .i64 i] w (OutL TL w w.heap.size (cancel l i)) := by
  obtain ⟨i0, z0, hi0, hz0, hz1, hz2, hzz⟩ := ap_tl.i
  obtain ⟨fa, fn, fc, rfl⟩ := isl_slice hv
  have HFL := Lib.hid hv.len.1
  have hfn : fn ≤ 100000 := by rw [HFL.out]; exact hl
  have HS := Lib.hid fun (k : Nat) (h : k < fn) => cancel_snoc (l := l) (k := k) (by rw [← HFL.out]; exact h) i
  have HC := Lib.hid fun (k : Nat) => (show (cancel (l.take k) i).length ≤ 100000 from Nat.le_trans (cancel_len _ _) (by rw [List.length_take]; omega))
  have HT := Lib.hid (show l.take fn = l by rw [HFL.out]; exact List.take_length)
  have HV := Lib.hid hv
  have FN := Lib.hid fun (W : World) (v' : Value) (h : OwnL TL W w.heap.size v' (cancel l i)) (hb : Below w.heap.size w W) => OutL.mk h hb
  generalize hP : OutL TL w w.heap.size (cancel l i) = P at *
  clear hv hl hP
  have hwr : IntKind.i64.wrap ((fn : Int) + 1) = ((fn + 1 : Nat) : Int) := by rw [IntKind.wrap_i64]; omega
  have hby : i0.bytes * (fn + 1) ≤ 281474976710656 := Nat.le_trans (Nat.mul_le_mul hz2 (show fn + 1 ≤ 1000000 by omega)) (by decide)
  have hmx : fn + 1 ≤ maxLen := by unfold maxLen; omega
  go_enter Try.func18, Try.ntmps18
  go_wp2_with (refine wpList_make_own _ rfl _ _ 24 rfl w.heap.size 44 i0 z0 2 ap_tl.u hi0 hz0 hz1 _ _ _ (fn + 1) rfl rfl (by omega) hby hmx (Nat.le_refl _) ?_; intro w1 hm1 hg1; have O1 := Lib.hid hm1; have W1 := Lib.hid ((Below.refl w.heap.size w).grown hg1 (Nat.le_refl _) (fun k hk => by cases hk)); clear hm1 hg1)
  go_loopw [5, 14] (fun o i' W => ∃ k : Nat, k ≤ fn ∧ i' = .int .i64 k ∧ OwnL TL W w.heap.size o (cancel (l.take k) i) ∧ Below w.heap.size w W) (fun _ i _ => fn - (intOf i).toNat)
  case atStart => exact ⟨0, Nat.zero_le _, rfl, O1.out, W1.out⟩
  case round =>
    obtain ⟨k, hk, rfl, ho, hw⟩ := hrel
    have HO := Lib.hid ho
    have HW := Lib.hid hw
    clear ho hw
    by_cases hlt : k < fn
    · obtain ⟨g, off, rfl, c0, c1⟩ := tl_at (HV.out.keep HW.out) hlt
      have HSN := Lib.hid (HS.out k hlt)
      generalize l.getD k azero = q at c0 c1 HSN
      obtain ⟨qi, qt⟩ := q
      dsimp only at c0 c1 HSN
      have OA := Lib.hid (HO.out.alloc (.cells #[.int .i64 qi, .int .i64 qt] 44))
      have WA := Lib.hid (HW.out.alloc HW.out.size (.cells #[.int .i64 qi, .int .i64 qt] 44))
      by_cases hi : qi = i
      · have HO2 := Lib.hid (show OwnL TL _ w.heap.size u5 (cancel (l.take (k + 1)) i) by rw [HSN.out, if_pos hi, List.append_nil]; exact OA.out)
        subst hi
        go_wp2_with fail
        go_roundw
        case rel => exact ⟨k + 1, by omega, by go_num, HO2.out, WA.out⟩
        case measure => simp [intOf]; omega
      · have HM := Lib.hid fun (v1 : Value) (w1 : World) (h : OwnL TL w1 w.heap.size v1 (cancel (l.take k) i ++ [⟨qi, qt⟩])) => (show OwnL TL w1 w.heap.size v1 (cancel (l.take (k + 1)) i) by rw [HSN.out, if_neg hi]; exact h)
        have HN := Lib.hid (show (cancel (l.take k) i).length + [(⟨qi, qt⟩ : Al)].length ≤ 1000000 by have := HC.out k; simp; omega)
        have hu := isl_one (Y := TL) (W := wr.alloc (.cells #[.int .i64 qi, .int .i64 qt] 44)) (x := ⟨qi, qt⟩) (cs := #[.int .i64 qi, .int .i64 qt]) rfl trivial
        rw [show (wr.alloc (.cells #[.int .i64 qi, .int .i64 qt] 44)).heap.size = wr.heap.size + 1 by simp] at hu
        have HU := Lib.hid hu
        clear hu
        have OB := Lib.hid (OA.out.alloc (.cells #[.int .i64 qi, .int .i64 qt] 44))
        have WB := Lib.hid (WA.out.alloc WA.out.size (.cells #[.int .i64 qi, .int .i64 qt] 44))
        go_wp2_with (first | (at_builtin; refine wpl_run 24 (.tmp 22) (.tmp 24) _ _ rfl rfl rfl rfl _ (app_own ap_tl _ OB.out HU.out WB.out.size HN.out) ?_; rintro v1 w1 ⟨ho1, hg1⟩; have HO2 := Lib.hid (HM.out _ _ ho1); have W2 := Lib.hid (bel_own WB.out OB.out (Nat.le_refl _) hg1); clear ho1 hg1) | fail)
        go_roundw
        case rel => exact ⟨k + 1, by omega, by go_num, HO2.out, W2.out⟩
        case measure => simp [intOf]; omega
    · obtain rfl : k = fn := by omega
      have HO2 := Lib.hid (show OwnL TL wr w.heap.size u5 (cancel l i) by have := HO.out; rwa [HT.out] at this)
      obtain ⟨a2, m2, c2, rfl⟩ := own_slice HO2.out
      go_wp2_with fail
      exact FN.out _ _ HO2.out HW.out

end Go.Proofs.Ytpbpkeifehobjaa.Tm
