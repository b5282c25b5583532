/-
  What the document's Cancel and Tick of layer 18 answer.
-/
import Derived.Test.YtpbpkeifehobjaaTimVal
import Derived.Outline
import Derived.Deep.DeepCutAuto
import Derived.Shelf.RegionOpenPlain
namespace Go.Proofs.Ytpbpkeifehobjaa.Tm
open Go.RowKit Go.Proofs.Ytpbpkeifehobjaa.Tp Go.Proofs.Ytpbpkeifehobjaa.Aps

/-- What leaves a wheel. -/
def WOut (w : World) (v : Value) (now : Int) (l : List Al) (e : Ending) (w' : World) : Prop :=
  ∃ a n c, e = .returned (.agg #[.int .i64 now, .slice a n c]) ∧ IsL TL w' (.slice a n c) l ∧ NilOk (.slice a n c) ∧ Near w.heap.size w'.heap.size v (.slice a n c) ∧ Below w.heap.size w w'
/-- What leaves a wheel, and what rings. -/
def TOut (w : World) (v : Value) (now : Int) (l : List Al) (o : List Int) (e : Ending) (w' : World) : Prop :=
  ∃ a n c x m d, e = .returned (.tuple #[.agg #[.int .i64 now, .slice a n c], .slice x m d]) ∧ IsL TL w' (.slice a n c) l ∧ NilOk (.slice a n c) ∧ Near w.heap.size w'.heap.size v (.slice a n c) ∧ IsL NL w' (.slice x m d) o ∧ (∀ p n' c', Value.slice x m d = .slice (some p) n' c' → w.heap.size ≤ p.block) ∧ Below w.heap.size w w'
/-- A call's two boxes of wheels: the one that came in, and the answer's. -/
theorem two_new (w : World) (now : Int) (v : Value) : Bs w [(w.heap.size + 1, #[.int .i64 0, .slice none 0 0], 26), (w.heap.size, #[.int .i64 now, v], 26)] ((w.alloc (.cells #[.int .i64 now, v] 26)).alloc (.cells #[.int .i64 0, .slice none 0 0] 26)) := by
  have h := ((Bs.start w).new #[.int .i64 now, v] 26).new #[.int .i64 0, .slice none 0 0] 26
  rw [show (w.alloc (.cells #[.int .i64 now, v] 26)).heap.size = w.heap.size + 1 by simp] at h
  exact h
/-- A wheel whose list is the call's own. -/
def WOwn (w : World) (now : Int) (l : List Al) (e : Ending) (w' : World) : Prop := ∃ v, e = .returned (.agg #[.int .i64 now, v]) ∧ OwnL TL w' w.heap.size v l ∧ Below w.heap.size w w'
theorem wout_own {w W : World} {B : Nat} {v0 v : Value} {now : Int} {l : List Al} (h : OwnL TL W B v l) (hl : l.length ≤ 1000000) (hb : Below w.heap.size w W) (hB : w.heap.size ≤ B) : WOut w v0 now l (.returned (.agg #[.int .i64 now, v])) W := by
  have hi := h.is (by unfold maxLen; omega) (fun _ _ => trivial)
  obtain ⟨a, n, c, rfl⟩ := isl_slice hi
  exact ⟨a, n, c, rfl, hi, own_nil h, Near.own h hB (Nat.le_refl _), hb⟩

set_option maxRecDepth 100000 in
set_option maxHeartbeats 1600000 in
theorem rcancel18_own (now i : Int) (v : Value) (l : List Al) (w : World) (hv : IsL TL w v l) (hl : l.length ≤ 100000) :
    Calls Try.prog 10 #[.agg #[.int .i64 now, v], .int .i64 i] w (WOwn w now (cancel l i)) := by
  obtain ⟨fa, fn, fc, rfl⟩ := isl_slice hv
  have HFL := Lib.hid hv.len.1
  have hfn : fn ≤ 100000 := by rw [HFL.out]; exact hl
  have HS := Lib.hid fun (k : Nat) (h : k < fn) => cancel_snoc (l := l) (k := k) (by rw [← HFL.out]; exact h) i
  have HC := Lib.hid fun (k : Nat) => (show (cancel (l.take k) i).length ≤ 100000 from Nat.le_trans (cancel_len _ _) (by rw [List.length_take]; omega))
  have HT := Lib.hid (show l.take fn = l by rw [HFL.out]; exact List.take_length)
  have BX := two_new w now (.slice fa fn fc)
  obtain ⟨w2, hw2⟩ : ∃ w2, ((w.alloc (.cells #[.int .i64 now, .slice fa fn fc] 26)).alloc (.cells #[.int .i64 0, .slice none 0 0] 26)) = w2 := ⟨_, rfl⟩
  have hz2 : w2.heap.size = w.heap.size + 2 := by rw [← hw2]; simp
  rw [hw2] at BX
  replace BX := Lib.hid BX
  have HV := Lib.hid (hv.keep BX.out.w)
  replace hw2 := Lib.hid hw2
  have FN := Lib.hid fun (W : World) (v' : Value) (h : OwnL TL W (w.heap.size + 2) v' (cancel l i)) (hb : Below w.heap.size w W) => (show WOwn w now (cancel l i) (.returned (.agg #[.int .i64 now, v'])) W from ⟨v', rfl, own_lo h (by omega), hb⟩)
  generalize hP : WOwn w now (cancel l i) = P at *
  clear hv hl hP
  obtain ⟨B, hB⟩ : ∃ B, w.heap.size = B := ⟨_, rfl⟩
  rw [hB] at BX FN hz2
  have HZ2 := Lib.hid hz2
  clear hz2
  have HB := Lib.hid hB
  clear hB
  go_enter Try.func10, Try.ntmps10
  go_wp2_with (rw [hw2.out])
  rw [HB.out]
  clear hw2
  go_loopw [5, 6] (fun o i' W => ∃ k : Nat, k ≤ fn ∧ i' = .int .i64 k ∧ OwnL TL W (B + 2) o (cancel (l.take k) i) ∧ Bs w [(B + 1, #[.int .i64 0, .slice none 0 0], 26), (B, #[.int .i64 now, .slice fa fn fc], 26)] W ∧ Below w2.heap.size w2 W) (fun _ i _ => fn - (intOf i).toNat)
  case atStart => exact ⟨0, Nat.zero_le _, rfl, OwnL.nil _ _, BX.out, Below.refl _ _⟩
  case round =>
    obtain ⟨k, hk, rfl, ho, hb, hw⟩ := hrel
    have HO := Lib.hid ho
    have BK := Lib.hid hb
    have HW := Lib.hid hw
    clear ho hb hw
    obtain ⟨x0, x1⟩ := BK.out.at2 (b := B) (.tail _ (.head _))
    by_cases hlt : k < fn
    · obtain ⟨g, off, rfl, c0, c1⟩ := tl_at (HV.out.keep HW.out) hlt
      have HSN := Lib.hid (HS.out k hlt)
      generalize l.getD k azero = q at c0 c1 HSN
      obtain ⟨qi, qt⟩ := q
      dsimp only at c0 c1 HSN
      by_cases hi : qi = i
      · have HO2 := Lib.hid (show OwnL TL wr (B + 2) u5 (cancel (l.take (k + 1)) i) by rw [HSN.out, if_pos hi, List.append_nil]; exact HO.out)
        go_wp2_with fail
        go_roundw
        case rel => exact ⟨k + 1, by omega, by go_num, HO2.out, BK.out, HW.out⟩
        case measure => simp [intOf]; omega
      · have HM := Lib.hid fun (v1 : Value) (w1 : World) (h : OwnL TL w1 (B + 2) v1 (cancel (l.take k) i ++ [⟨qi, qt⟩])) => (show OwnL TL w1 (B + 2) v1 (cancel (l.take (k + 1)) i) by rw [HSN.out, if_neg hi]; exact h)
        have HU := Lib.hid (isl_one (Y := TL) (W := wr) (x := ⟨qi, qt⟩) (cs := #[.int .i64 qi, .int .i64 qt]) rfl trivial)
        have BA := Lib.hid (BK.out.keep ((Below.refl _ _).alloc (Nat.le_refl _) (.cells #[.int .i64 qi, .int .i64 qt] 44)))
        have WA := Lib.hid (HW.out.alloc HW.out.size (.cells #[.int .i64 qi, .int .i64 qt] 44))
        have OA := Lib.hid (HO.out.alloc (.cells #[.int .i64 qi, .int .i64 qt] 44))
        have HN := Lib.hid (show (cancel (l.take k) i).length + [(⟨qi, qt⟩ : Al)].length ≤ 1000000 by have := HC.out k; simp; omega)
        have HZ := Lib.hid (show B + 2 ≤ (wr.alloc (.cells #[.int .i64 qi, .int .i64 qt] 44)).heap.size by have := BK.out.lt (.head _); simp; omega)
        go_wp2_with (first | (at_builtin; refine wpl_run 24 (.tmp 22) (.tmp 28) _ _ rfl rfl rfl rfl _ (app_own ap_tl _ OA.out HU.out HZ.out HN.out) ?_; rintro v1 w1 ⟨ho1, hg1⟩; have HO2 := Lib.hid (HM.out _ _ ho1); have W2 := Lib.hid (bel_own WA.out OA.out (Nat.le_of_eq HZ2.out) hg1); clear ho1 hg1) | fail)
        go_roundw
        case rel => exact ⟨k + 1, by omega, by go_num, HO2.out, BX.out.keep W2.out, W2.out⟩
        case measure => simp [intOf]; omega
    · obtain rfl : k = fn := by omega
      have HO2 := Lib.hid (show OwnL TL wr (B + 2) u5 (cancel l i) by have := HO.out; rwa [HT.out] at this)
      have BW := Lib.hid (show Below B w wr by rw [← HB.out]; exact BK.out.w)
      obtain ⟨a2, m2, c2, rfl⟩ := own_slice HO2.out
      obtain ⟨f0, f1⟩ := BK.out.fz2 (b := B) (.tail _ (.head _))
      obtain ⟨y0, y1⟩ := BK.out.at2 (b := B + 1) (.head _)
      obtain ⟨g0, g1⟩ := BK.out.fz2 (b := B + 1) (.head _)
      go_wp2_with fail
      refine bodyPost_ret (v := .agg #[.int .i64 now, .slice a2 m2 c2]) (by simp [results, Try.results10, go_sem, y0, y1]) rfl ?_
      exact FN.out _ _ (own_put (own_put (own_put HO2.out (by omega)) (by omega)) (by omega)) (((BW.out.setCell (p := ⟨B, 1, none⟩) (Nat.le_refl _) _).setCell (p := ⟨B + 1, 0, none⟩) (Nat.le_succ _) _).setCell (p := ⟨B + 1, 1, none⟩) (Nat.le_succ _) _)

theorem rcancel18_any (now i : Int) (v : Value) (l : List Al) (w : World) (hv : IsL TL w v l) (hl : l.length ≤ 100000) :
    Calls Try.prog 10 #[.agg #[.int .i64 now, v], .int .i64 i] w (WOut w v now (cancel l i)) := by
  refine (rcancel18_own now i v l w hv hl).mono ?_
  rintro e w' ⟨v', rfl, h, hb⟩
  exact wout_own h (by have := cancel_len l i; omega) hb (Nat.le_refl _)

end Go.Proofs.Ytpbpkeifehobjaa.Tm
