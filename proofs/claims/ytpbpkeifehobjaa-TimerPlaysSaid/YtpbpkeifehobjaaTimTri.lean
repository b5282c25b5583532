/-
  What the program's functions of layer 18 answer.
-/
import Derived.Test.YtpbpkeifehobjaaTimPut2
import Derived.Test.YtpbpkeifehobjaaTimRef3
namespace Go.Proofs.Ytpbpkeifehobjaa.Tp
/-- In order, what rings is a run at the front. -/
theorem rings_front {l : List Al} {t : Int} (h : l.Pairwise Lt) {k : Nat} (hk : k ≤ l.length) (h1 : ∀ j, j < k → (l.getD j azero).t ≤ t) (h2 : k < l.length → ¬ (l.getD k azero).t ≤ t) : rings l t = (l.take k).map (·.i) ∧ rest l t = l.drop k := by
  have ha : ∀ b ∈ l.take k, b.t ≤ t := fun b hb => by
    obtain ⟨j, hj, rfl⟩ := List.getElem_of_mem hb
    rw [List.length_take] at hj
    have := h1 j (by omega)
    rw [getD_lt (by omega)] at this
    rw [List.getElem_take]
    exact this
  have hb : ∀ b ∈ l.drop k, ¬ b.t ≤ t := fun b hb => by
    obtain ⟨j, hj, rfl⟩ := List.getElem_of_mem hb
    rw [List.length_drop] at hj
    rw [List.getElem_drop]
    have hk' : k < l.length := by omega
    have h0 := h2 hk'
    rw [getD_lt hk'] at h0
    rcases Nat.eq_zero_or_pos j with rfl | hj0
    · simpa using h0
    · have := List.pairwise_iff_getElem.1 h k (k + j) hk' (by omega) (by omega)
      unfold Lt at this
      omega
  have e : l = l.take k ++ l.drop k := (List.take_append_drop k l).symm
  constructor
  · unfold rings
    rw [e, List.filter_append, List.filter_eq_self.2 (fun b hb => by simpa using ha b hb), List.filter_eq_nil_iff.2 (fun b hm => by simpa using hb b hm)]
    simp
  · unfold rest
    conv => lhs; rw [e]
    rw [List.filter_append, List.filter_eq_nil_iff.2 (fun b hm => by simpa using ha b hm), List.filter_eq_self.2 (fun b hm => by simpa using hb b hm)]
    rfl
theorem map_snoc {l : List Al} {k : Nat} (h : k < l.length) : (l.take (k + 1)).map (·.i) = (l.take k).map (·.i) ++ [(l.getD k azero).i] := by
  rw [List.take_succ_eq_append_getElem h, List.map_append, getD_lt h]
  rfl
end Go.Proofs.Ytpbpkeifehobjaa.Tp
namespace Go.Proofs.Ytpbpkeifehobjaa.Tm
open Go.RowKit Go.Proofs.Ytpbpkeifehobjaa.Tp Go.Proofs.Ytpbpkeifehobjaa.Aps

set_option maxRecDepth 100000 in
set_option maxHeartbeats 1600000 in
theorem cancel18_any (now i : Int) (v : Value) (l : List Al) (w : World) (hv : IsL TL w v l) (hl : l.length ≤ 100000) :
    Calls Try.prog 9 #[.agg #[.int .i64 now, v], .int .i64 i] w (WOut w v now (cancel l i)) := by
  obtain ⟨fa, fn, fc, rfl⟩ := isl_slice hv
  have BX := two_new w now (.slice fa fn fc)
  obtain ⟨w2, hw2⟩ : ∃ w2, ((w.alloc (.cells #[.int .i64 now, .slice fa fn fc] 26)).alloc (.cells #[.int .i64 0, .slice none 0 0] 26)) = w2 := ⟨_, rfl⟩
  have hz2 : w2.heap.size = w.heap.size + 2 := by rw [← hw2]; simp
  rw [hw2] at BX
  have WT := Lib.hid (without18_any i _ l w2 (hv.keep BX.w) hl)
  have FN := Lib.hid fun (W : World) (v' : Value) (h : OwnL TL W (w.heap.size + 2) v' (cancel l i)) (hb : Below w.heap.size w W) => wout_own (v0 := .slice fa fn fc) (now := now) h (by have := cancel_len l i; omega) hb (by omega)
  generalize hP : WOut w (.slice fa fn fc) now (cancel l i) = P at *
  clear hP
  replace hw2 := Lib.hid hw2
  have HZ := Lib.hid hz2
  obtain ⟨x0, x1⟩ := BX.at2 (b := w.heap.size) (.tail _ (.head _))
  replace BX := Lib.hid BX
  clear hz2 hv hl
  go_enter Try.func9, Try.ntmps9
  go_wp2_with (rw [hw2.out])
  refine WT.out.mono ?_
  rintro e w3 ⟨v2, rfl, ho, b⟩
  obtain ⟨a2, m2, c2, rfl⟩ := own_slice ho
  rw [HZ.out] at ho
  have HO := Lib.hid ho
  have BK := Lib.hid (BX.out.keep b)
  clear ho b hw2 x0 x1 WT
  obtain ⟨x0, x1⟩ := BK.out.at2 (b := w.heap.size) (.tail _ (.head _))
  obtain ⟨f0, f1⟩ := BK.out.fz2 (b := w.heap.size) (.tail _ (.head _))
  obtain ⟨y0, y1⟩ := BK.out.at2 (b := w.heap.size + 1) (.head _)
  obtain ⟨g0, g1⟩ := BK.out.fz2 (b := w.heap.size + 1) (.head _)
  go_wp2_with fail
  refine bodyPost_ret (v := .agg #[.int .i64 now, .slice a2 m2 c2]) (by simp [results, Try.results9, go_sem, y0, y1]) rfl ?_
  exact FN.out _ _ (own_put (own_put (own_put HO.out (by omega)) (by omega)) (by omega)) (bel_put (bel_put (bel_put BK.out.w (Nat.le_refl _)) (Nat.le_succ _)) (Nat.le_succ _))

theorem near_off (B E g off off' n c n' c' : Nat) : Near B E (.slice (some ⟨g, off, none⟩) n c) (.slice (some ⟨g, off', none⟩) n' c') := by
  intro p n2 c2 e
  injection e with e
  injection e with e
  subst e
  exact .inr ⟨_, _, _, rfl, rfl⟩

set_option maxRecDepth 100000 in
set_option maxHeartbeats 1600000 in
theorem tick18_some (now : Int) (g off fn fc : Nat) (l : List Al) (w : World) (hv : IsL TL w (.slice (some ⟨g, off, none⟩) fn fc) l) (hl : l.length ≤ 100000) (hn0 : -9223372036854775808 ≤ now) (hn1 : now ≤ 9223372036854775806) (hr : l.Pairwise Lt) :
    Calls Try.prog 11 #[.agg #[.int .i64 now, .slice (some ⟨g, off, none⟩) fn fc]] w (TOut w (.slice (some ⟨g, off, none⟩) fn fc) (now + 1) (rest l (now + 1)) (rings l (now + 1))) := by
  have HFL := Lib.hid hv.len.1
  have hfn : fn ≤ 100000 := by rw [HFL.out]; exact hl
  have hroom := hv.room
  have HS := Lib.hid fun (k : Nat) (h : k < fn) => map_snoc (l := l) (k := k) (by rw [← HFL.out]; exact h)
  have BX := two_new w now (.slice (some ⟨g, off, none⟩) fn fc)
  obtain ⟨w2, hw2⟩ : ∃ w2, ((w.alloc (.cells #[.int .i64 now, .slice (some ⟨g, off, none⟩) fn fc] 26)).alloc (.cells #[.int .i64 0, .slice none 0 0] 26)) = w2 := ⟨_, rfl⟩
  have hz2 : w2.heap.size = w.heap.size + 2 := by rw [← hw2]; simp
  rw [hw2] at BX
  obtain ⟨x0, x1⟩ := BX.at2 (b := w.heap.size) (.tail _ (.head _))
  obtain ⟨f0, f1⟩ := BX.fz2 (b := w.heap.size) (.tail _ (.head _))
  have B3 : Bs w [(w.heap.size, #[.int .i64 (now + 1), .slice (some ⟨g, off, none⟩) fn fc], 26), (w.heap.size + 1, #[.int .i64 0, .slice none 0 0], 26)] (w2.setCell ⟨w.heap.size, 0, none⟩ (.int .i64 (now + 1))) :=
    BX.swap.set (Nat.le_refl _) (fun p hp => by rcases List.mem_singleton.1 hp with rfl; exact Nat.succ_ne_self _) 0 (.int .i64 (now + 1))
  have HV := Lib.hid (hv.keep B3.w)
  replace hw2 := Lib.hid hw2
  have FN := Lib.hid fun (W : World) (K off' : Nat) (x : Option Addr) (m d : Nat) (hK : K ≤ fn) (ho : off' = off + K * 2 ∨ fc = K) (h1 : ∀ j, j < K → (l.getD j azero).t ≤ now + 1) (h2 : K < fn → ¬ (l.getD K azero).t ≤ now + 1)
      (h : OwnL NL W (w.heap.size + 2) (.slice x m d) ((l.take K).map (·.i))) (hb : Below w.heap.size w W) => (show TOut w (.slice (some ⟨g, off, none⟩) fn fc) (now + 1) (rest l (now + 1)) (rings l (now + 1)) (.returned (.tuple #[.agg #[.int .i64 (now + 1), .slice (some ⟨g, off', none⟩) (fn - K) (fc - K)], .slice x m d])) W from by
    obtain ⟨e1, e2⟩ := rings_front hr (k := K) (by have := HFL.out; omega) h1 (by have := HFL.out; rw [← this]; exact h2)
    rw [e1, e2]
    have hi := h.is (by rw [List.length_map, List.length_take]; unfold maxLen; omega) (fun _ _ => trivial)
    refine ⟨_, _, _, _, _, _, rfl, (hv.keep hb).drop hK _ (by omega) (ho.imp (fun e => by rw [e]; rfl) (fun e => by omega)), nil_some _ _ _, near_off _ _ _ _ _ _ _ _ _, hi, fun p n' c' e => (Near.own (v := .slice none 0 0) h (by omega) (Nat.le_refl _) p n' c' e).elim (fun q => q.1) (fun ⟨_, _, _, e2, _⟩ => by injection e2 with e2; cases e2), hb⟩)
  generalize hP : TOut w (.slice (some ⟨g, off, none⟩) fn fc) (now + 1) (rest l (now + 1)) (rings l (now + 1)) = P at *
  have hz3 : (w2.setCell ⟨w.heap.size, 0, none⟩ (.int .i64 (now + 1))).heap.size = w.heap.size + 2 := by simp [hz2]
  replace B3 := Lib.hid B3
  clear hv hl hP hz2 BX hr
  go_enter Try.func11, Try.ntmps11
  go_wp2_with (rw [hw2.out])
  clear hw2 x0 x1 f0 f1
  generalize w2.setCell _ _ = w3 at B3 HV hz3 ⊢
  obtain ⟨B, hB⟩ : ∃ B, w.heap.size = B := ⟨_, rfl⟩
  rw [hB] at B3 FN hz3 ⊢
  have HB := Lib.hid hB
  have HZ := Lib.hid hz3
  clear hB hz3
  generalize ht : now + 1 = t at *
  clear ht
  go_loopw [4, 14] (fun o i W => ∃ k : Nat, k ≤ fn ∧ i = .int .i64 k ∧ OwnL NL W (B + 2) o ((l.take k).map (·.i)) ∧ Bs w [(B, #[.int .i64 t, .slice (some ⟨g, off, none⟩) fn fc], 26), (B + 1, #[.int .i64 0, .slice none 0 0], 26)] W ∧ Below w3.heap.size w3 W ∧ ∀ j, j < k → (l.getD j azero).t ≤ t) (fun _ i _ => fn - (intOf i).toNat)
  case atStart => exact ⟨0, Nat.zero_le _, rfl, OwnL.nil _ _, B3.out, Below.refl _ _, fun j hj => absurd hj (Nat.not_lt_zero j)⟩
  case round =>
    obtain ⟨k, hk, rfl, hp, hb, hw, hall⟩ := hrel
    have HP := Lib.hid hp
    have BK := Lib.hid hb
    have HW := Lib.hid hw
    have HALL := Lib.hid hall
    clear hp hb hw hall
    obtain ⟨x0, x1⟩ := BK.out.at2 (b := B) (.head _)
    by_cases hlt : k < fn
    · obtain ⟨g', off', e, c0, c1⟩ := tl_at (HV.out.keep HW.out) hlt
      injection e with e
      injection e with e1 e2
      subst e1 e2
      have HSM := Lib.hid (HS.out k hlt)
      have HT := Lib.hid (show ∀ q, q = l.getD k azero → ¬ q.t ≤ t → (k < fn → ¬ (l.getD k azero).t ≤ t) from fun q hq h _ => by rw [← hq]; exact h)
      have HA := Lib.hid (show ∀ q, q = l.getD k azero → q.t ≤ t → ∀ j, j < k + 1 → (l.getD j azero).t ≤ t from fun q hq h j hj => by rcases Nat.lt_succ_iff_lt_or_eq.1 hj with h' | h'; exact HALL.out j h'; subst h'; rw [← hq]; exact h)
      obtain ⟨q, hq⟩ : ∃ q, l.getD k azero = q := ⟨_, rfl⟩
      have HQ := Lib.hid hq.symm
      rw [hq] at c0 c1
      replace HSM := Lib.hid (by have := HSM.out; rw [hq] at this; exact this)
      clear hq
      obtain ⟨qi, qt⟩ := q
      dsimp only at c0 c1 HSM
      have PA := Lib.hid (HP.out.alloc (.cells #[.int .i64 qi, .int .i64 qt] 44))
      have WA := Lib.hid (HW.out.alloc HW.out.size (.cells #[.int .i64 qi, .int .i64 qt] 44))
      have BA := Lib.hid (BK.out.keep ((Below.refl _ _).alloc (Nat.le_refl _) (.cells #[.int .i64 qi, .int .i64 qt] 44)))
      clear x0 x1
      obtain ⟨x0, x1⟩ := BA.out.at2 (b := B) (.head _)
      by_cases hi : qt ≤ t
      · have HA2 := Lib.hid (HA.out _ HQ.out hi)
        have HM := Lib.hid fun (v1 : Value) (w1 : World) (h : OwnL NL w1 (B + 2) v1 ((l.take k).map (·.i) ++ [qi])) => (show OwnL NL w1 (B + 2) v1 ((l.take (k + 1)).map (·.i)) by rw [HSM.out]; exact h)
        have hu := isl_one (Y := NL) (W := wr.alloc (.cells #[.int .i64 qi, .int .i64 qt] 44)) (x := qi) (cs := #[.int .i64 qi]) rfl trivial
        rw [show (wr.alloc (.cells #[.int .i64 qi, .int .i64 qt] 44)).heap.size = wr.heap.size + 1 by simp] at hu
        have HU := Lib.hid hu
        clear hu
        have OB := Lib.hid (PA.out.alloc (.cells #[.int .i64 qi] 3))
        have WB := Lib.hid (WA.out.alloc WA.out.size (.cells #[.int .i64 qi] 3))
        have HZ2 := Lib.hid (show B + 2 ≤ ((wr.alloc (.cells #[.int .i64 qi, .int .i64 qt] 44)).alloc (.cells #[.int .i64 qi] 3)).heap.size by have := WB.out.size; have := HZ.out; omega)
        have HN := Lib.hid (show ((l.take k).map (·.i)).length + [(qi : Int)].length ≤ 1000000 by rw [List.length_map, List.length_take]; show _ + 1 ≤ _; omega)
        go_wp2_with (first | (at_builtin; refine wpl_run 31 (.tmp 23) (.tmp 26) _ _ rfl rfl rfl rfl _ (app_own ap_nl _ OB.out HU.out HZ2.out HN.out) ?_; rintro v1 w1 ⟨ho1, hg1⟩; have O2 := Lib.hid (HM.out _ _ ho1); have W2 := Lib.hid (bel_own WB.out OB.out (Nat.le_of_eq HZ.out) hg1); clear ho1 hg1) | fail)
        go_roundw
        case rel => exact ⟨k + 1, by omega, by go_num, O2.out, B3.out.keep W2.out, W2.out, HA2.out⟩
        case measure => simp [intOf]; omega
      · have HT2 := Lib.hid (HT.out _ HQ.out hi)
        obtain ⟨x, m, d, rfl⟩ := own_slice PA.out
        have hm : m = k := by
          have hi := (PA.out.is (by rw [List.length_map, List.length_take]; unfold maxLen; omega) (fun _ _ => trivial)).len.1
          rw [List.length_map, List.length_take] at hi
          have := HFL.out
          omega
        subst hm
        have hmc : m ≤ fc := by omega
        have BW := Lib.hid (show Below B w (wr.alloc (.cells #[.int .i64 qi, .int .i64 qt] 44)) by rw [← HB.out]; exact BA.out.w)
        obtain ⟨f0, f1⟩ := BA.out.fz2 (b := B) (.head _)
        obtain ⟨y0, y1⟩ := BA.out.at2 (b := B + 1) (.tail _ (.head _))
        obtain ⟨g0, g1⟩ := BA.out.fz2 (b := B + 1) (.tail _ (.head _))
        go_wp2_with fail
        refine bodyPost_ret (v := .tuple #[.agg #[.int .i64 t, .slice (some ⟨g, (off + m * 2), none⟩) (fn - m) (fc - m)], .slice x m d]) (by simp [results, Try.results11, go_sem, y0, y1]) rfl ?_
        exact FN.out _ m (off + m * 2) x m d (by omega) (.inl rfl) HALL.out HT2.out (own_put (own_put (own_put PA.out (by omega)) (by omega)) (by omega)) (((BW.out.setCell (p := ⟨B, 1, none⟩) (Nat.le_refl _) _).setCell (p := ⟨B + 1, 0, none⟩) (Nat.le_succ _) _).setCell (p := ⟨B + 1, 1, none⟩) (Nat.le_succ _) _)
    · obtain rfl : k = fn := by omega
      obtain ⟨x, m, d, rfl⟩ := own_slice HP.out
      have hm : m = k := by
        have hi := (HP.out.is (by rw [List.length_map, List.length_take]; unfold maxLen; omega) (fun _ _ => trivial)).len.1
        rw [List.length_map, List.length_take] at hi
        have := HFL.out
        omega
      subst hm
      obtain ⟨off', hA, ho⟩ : ∃ off', (if fc = m then some (⟨g, off, none⟩ : Addr) else some ⟨g, off + m * 2, none⟩) = some ⟨g, off', none⟩ ∧ (off' = off + m * 2 ∨ fc = m) := by
        by_cases h : fc = m
        · exact ⟨off, by rw [if_pos h], .inr h⟩
        · exact ⟨off + m * 2, by rw [if_neg h], .inl rfl⟩
      have HOF := Lib.hid ho
      clear ho
      have hmc : m ≤ fc := by omega
      have BW := Lib.hid (show Below B w (wr) by rw [← HB.out]; exact BK.out.w)
      obtain ⟨f0, f1⟩ := BK.out.fz2 (b := B) (.head _)
      obtain ⟨y0, y1⟩ := BK.out.at2 (b := B + 1) (.tail _ (.head _))
      obtain ⟨g0, g1⟩ := BK.out.fz2 (b := B + 1) (.tail _ (.head _))
      go_wp2_with fail
      refine bodyPost_ret (v := .tuple #[.agg #[.int .i64 t, .slice (some ⟨g, off', none⟩) 0 (fc - m)], .slice x m d]) (by simp [results, Try.results11, go_sem, y0, y1]) rfl ?_
      have F0 := fun (W : World) (h : OwnL NL W (B + 2) (.slice x m d) ((l.take m).map (·.i))) (hb : Below B w W) => FN.out W m off' x m d (Nat.le_refl _) HOF.out HALL.out (fun h => absurd h (Nat.lt_irrefl _)) h hb
      rw [Nat.sub_self] at F0
      exact F0 _ (own_put (own_put (own_put HP.out (by omega)) (by omega)) (by omega)) (((BW.out.setCell (p := ⟨B, 1, none⟩) (Nat.le_refl _) _).setCell (p := ⟨B + 1, 0, none⟩) (Nat.le_succ _) _).setCell (p := ⟨B + 1, 1, none⟩) (Nat.le_succ _) _)

set_option maxRecDepth 100000 in
set_option maxHeartbeats 1600000 in
theorem tick18_none (now : Int) (w : World) (hn0 : -9223372036854775808 ≤ now) (hn1 : now ≤ 9223372036854775806) :
    Calls Try.prog 11 #[.agg #[.int .i64 now, .slice none 0 0]] w (TOut w (.slice none 0 0) (now + 1) [] []) := by
  have BX := two_new w now (.slice none 0 0)
  obtain ⟨w2, hw2⟩ : ∃ w2, ((w.alloc (.cells #[.int .i64 now, .slice none 0 0] 26)).alloc (.cells #[.int .i64 0, .slice none 0 0] 26)) = w2 := ⟨_, rfl⟩
  rw [hw2] at BX
  obtain ⟨x0, x1⟩ := BX.at2 (b := w.heap.size) (.tail _ (.head _))
  obtain ⟨f0, f1⟩ := BX.fz2 (b := w.heap.size) (.tail _ (.head _))
  have B3 : Bs w [(w.heap.size, #[.int .i64 (now + 1), .slice none 0 0], 26), (w.heap.size + 1, #[.int .i64 0, .slice none 0 0], 26)] (w2.setCell ⟨w.heap.size, 0, none⟩ (.int .i64 (now + 1))) :=
    BX.swap.set (Nat.le_refl _) (fun p hp => by rcases List.mem_singleton.1 hp with rfl; exact Nat.succ_ne_self _) 0 (.int .i64 (now + 1))
  replace hw2 := Lib.hid hw2
  have FN := Lib.hid fun (W : World) (hb : Below w.heap.size w W) => (show TOut w (.slice none 0 0) (now + 1) [] [] (.returned (.tuple #[.agg #[.int .i64 (now + 1), .slice none 0 0], .slice none 0 0])) W from
    ⟨_, _, _, _, _, _, rfl, IsL.nil _ _ _, fun n c e => (by injection e with _ _ e; exact e.symm), Near.same _ _ rfl, IsL.nil _ _ _, fun p n c e => (by injection e with e; cases e), hb⟩)
  generalize hP : TOut w (.slice none 0 0) (now + 1) [] [] = P at *
  replace B3 := Lib.hid B3
  clear hP BX
  go_enter Try.func11, Try.ntmps11
  go_wp2_with (rw [hw2.out])
  clear hw2 x0 x1 f0 f1
  generalize w2.setCell _ _ = w3 at B3 ⊢
  generalize now + 1 = t at *
  go_loopw [4, 14] (fun o i W => o = .slice none 0 0 ∧ i = .int .i64 0 ∧ W = w3) (fun _ _ _ => 0)
  case atStart => exact ⟨rfl, rfl, rfl⟩
  case round =>
    obtain ⟨rfl, rfl, rfl⟩ := hrel
    obtain ⟨x0, x1⟩ := B3.out.at2 (b := w.heap.size) (.head _)
    obtain ⟨f0, f1⟩ := B3.out.fz2 (b := w.heap.size) (.head _)
    obtain ⟨y0, y1⟩ := B3.out.at2 (b := w.heap.size + 1) (.tail _ (.head _))
    obtain ⟨g0, g1⟩ := B3.out.fz2 (b := w.heap.size + 1) (.tail _ (.head _))
    go_wp2_with fail
    refine bodyPost_ret (v := .tuple #[.agg #[.int .i64 t, .slice none 0 0], .slice none 0 0]) (by simp [results, Try.results11, go_sem, y0, y1]) rfl ?_
    exact FN.out _ (bel_put (bel_put (bel_put B3.out.w (Nat.le_refl _)) (Nat.le_succ _)) (Nat.le_succ _))

set_option maxRecDepth 100000 in
set_option maxHeartbeats 1600000 in
theorem tick18_zero (now : Int) (b off : Nat) (far : Option Nat) (fc : Nat) (w : World) (hn0 : -9223372036854775808 ≤ now) (hn1 : now ≤ 9223372036854775806) :
    Calls Try.prog 11 #[.agg #[.int .i64 now, .slice (some ⟨b, off, far⟩) 0 fc]] w (TOut w (.slice (some ⟨b, off, far⟩) 0 fc) (now + 1) [] []) := by
  have BX := two_new w now (.slice (some ⟨b, off, far⟩) 0 fc)
  obtain ⟨w2, hw2⟩ : ∃ w2, ((w.alloc (.cells #[.int .i64 now, .slice (some ⟨b, off, far⟩) 0 fc] 26)).alloc (.cells #[.int .i64 0, .slice none 0 0] 26)) = w2 := ⟨_, rfl⟩
  rw [hw2] at BX
  obtain ⟨x0, x1⟩ := BX.at2 (b := w.heap.size) (.tail _ (.head _))
  obtain ⟨f0, f1⟩ := BX.fz2 (b := w.heap.size) (.tail _ (.head _))
  have B3 : Bs w [(w.heap.size, #[.int .i64 (now + 1), .slice (some ⟨b, off, far⟩) 0 fc], 26), (w.heap.size + 1, #[.int .i64 0, .slice none 0 0], 26)] (w2.setCell ⟨w.heap.size, 0, none⟩ (.int .i64 (now + 1))) :=
    BX.swap.set (Nat.le_refl _) (fun p hp => by rcases List.mem_singleton.1 hp with rfl; exact Nat.succ_ne_self _) 0 (.int .i64 (now + 1))
  replace hw2 := Lib.hid hw2
  have FN := Lib.hid fun (W : World) (hb : Below w.heap.size w W) => (show TOut w (.slice (some ⟨b, off, far⟩) 0 fc) (now + 1) [] [] (.returned (.tuple #[.agg #[.int .i64 (now + 1), .slice (some ⟨b, off, far⟩) 0 fc], .slice none 0 0])) W from
    ⟨_, _, _, _, _, _, rfl, IsL.nil _ _ _, nil_some _ _ _, Near.same _ _ rfl, IsL.nil _ _ _, fun p n c e => (by injection e with e; cases e), hb⟩)
  generalize hP : TOut w (.slice (some ⟨b, off, far⟩) 0 fc) (now + 1) [] [] = P at *
  replace B3 := Lib.hid B3
  clear hP BX
  go_enter Try.func11, Try.ntmps11
  go_wp2_with (rw [hw2.out])
  clear hw2 x0 x1 f0 f1
  generalize w2.setCell _ _ = w3 at B3 ⊢
  generalize now + 1 = t at *
  go_loopw [4, 14] (fun o i W => o = .slice none 0 0 ∧ i = .int .i64 0 ∧ W = w3) (fun _ _ _ => 0)
  case atStart => exact ⟨rfl, rfl, rfl⟩
  case round =>
    obtain ⟨rfl, rfl, rfl⟩ := hrel
    obtain ⟨x0, x1⟩ := B3.out.at2 (b := w.heap.size) (.head _)
    obtain ⟨f0, f1⟩ := B3.out.fz2 (b := w.heap.size) (.head _)
    obtain ⟨y0, y1⟩ := B3.out.at2 (b := w.heap.size + 1) (.tail _ (.head _))
    obtain ⟨g0, g1⟩ := B3.out.fz2 (b := w.heap.size + 1) (.tail _ (.head _))
    go_wp2_with fail
    refine bodyPost_ret (v := .tuple #[.agg #[.int .i64 t, .slice (some ⟨b, off, far⟩) 0 fc], .slice none 0 0]) (by simp [results, Try.results11, go_sem, y0, y1]) rfl ?_
    exact FN.out _ (bel_put (bel_put (bel_put B3.out.w (Nat.le_refl _)) (Nat.le_succ _)) (Nat.le_succ _))

theorem tick18_any (now : Int) (v : Value) (l : List Al) (w : World) (hv : IsL TL w v l) (hl : l.length ≤ 100000) (hn0 : -9223372036854775808 ≤ now) (hn1 : now ≤ 9223372036854775806) (hr : Right l) (hn : NilOk v) :
    Calls Try.prog 11 #[.agg #[.int .i64 now, v]] w (TOut w v (now + 1) (rest l (now + 1)) (rings l (now + 1))) := by
  obtain ⟨fa, fn, fc, rfl⟩ := isl_slice hv
  cases fa with
  | none =>
    obtain rfl := hn _ _ rfl
    have h0 := hv.room
    have h1 := hv.len.1
    obtain rfl : fn = 0 := by omega
    obtain rfl : l = [] := List.length_eq_zero_iff.1 h1.symm
    exact tick18_none now w hn0 hn1
  | some a =>
    obtain ⟨g, off, far⟩ := a
    rcases Nat.eq_zero_or_pos fn with rfl | h0
    · obtain rfl : l = [] := List.length_eq_zero_iff.1 hv.len.1.symm
      exact tick18_zero now g off far fc w hn0 hn1
    · obtain ⟨b, off', e, _, _⟩ := tl_at hv h0
      injection e with e
      injection e with e1 e2 e3
      subst e1 e2 e3
      exact tick18_some now g off fn fc l w hv hl hn0 hn1 hr.s

set_option maxRecDepth 100000 in
set_option maxHeartbeats 3200000 in
theorem arm18_any (now i after : Int) (v : Value) (l : List Al) (w : World) (hv : IsL TL w v l) (hl : l.length ≤ 100000) (hn0 : 0 ≤ now) (hn1 : now ≤ 1000000) (ha : after ≤ 1099511627776) (hr : Right l) :
    Calls Try.prog 7 #[.agg #[.int .i64 now, v], .int .i64 i, .int .i64 after] w (WOut w v now (arm now l i after)) := by
  have mixed : Try.prog.follows Departure.mixedOrders = true := by kernel_rfl
  obtain ⟨fa, fn, fc, rfl⟩ := isl_slice hv
  have BX := two_new w now (.slice fa fn fc)
  obtain ⟨w2, hw2⟩ : ∃ w2, ((w.alloc (.cells #[.int .i64 now, .slice fa fn fc] 26)).alloc (.cells #[.int .i64 0, .slice none 0 0] 26)) = w2 := ⟨_, rfl⟩
  have hz2 : w2.heap.size = w.heap.size + 2 := by rw [← hw2]; simp
  rw [hw2] at BX
  have WT := Lib.hid fun (W : World) (h : IsL TL W (.slice fa fn fc) l) => without18_any i _ l W h hl
  obtain ⟨mx, hmx⟩ : ∃ mx, (if after < 1 then (1 : Int) else after) = mx := ⟨_, rfl⟩
  have hmx2 : mx = max after 1 := by rw [← hmx]; split <;> omega
  obtain ⟨t, ht⟩ : ∃ t, now + mx = t := ⟨_, rfl⟩
  have hR : arm now l i after = ins ⟨i, t⟩ (cancel l i) := by unfold arm armA; rw [← ht, hmx2]
  rw [hR]
  have hw : IntKind.i64.wrap t = t := by rw [IntKind.wrap_i64]; omega
  have PT := Lib.hid fun (B : Nat) (v : Value) (W : World) (h : OwnL TL W B v (cancel l i)) (hB : B ≤ W.heap.size) => put18_any ⟨i, t⟩ B v (cancel l i) W h hB (Nat.le_trans (cancel_len l i) hl) (hr.cancel i).s (fun b hb => (mem_cancel.1 hb).2)
  have FN := Lib.hid fun (W : World) (v' : Value) (h : OwnL TL W (w.heap.size + 2) v' (ins ⟨i, t⟩ (cancel l i))) (hb : Below w.heap.size w W) => wout_own (v0 := .slice fa fn fc) (now := now) h (by rw [ins_len]; have := cancel_len l i; omega) hb (by omega)
  generalize hP : WOut w (.slice fa fn fc) now (ins ⟨i, t⟩ (cancel l i)) = P at *
  dsimp only at PT
  clear hP hR hmx2 hr
  have HV := Lib.hid (hv.keep (BX.w.drew))
  have BD := Lib.hid (BX.keep (Below.refl _ _).drew)
  have h0 : (fun W : World => Below w2.drew.heap.size w2.drew W) w2.drew := Below.refl _ _
  have LT := Lib.hid (show w.heap.size + 2 ≤ w2.drew.heap.size from Nat.le_of_eq hz2.symm)
  replace hw2 := Lib.hid hw2
  obtain ⟨x0, x1⟩ := BX.at2 (b := w.heap.size) (.tail _ (.head _))
  clear hz2 hv hl BX x0 x1
  go_enter Try.func7, Try.ntmps7
  go_wp2_with (rw [hw2.out])
  clear hw2
  refine region_till (by kernel_rfl) (fun W : World => Below w2.drew.heap.size w2.drew W) 13 14 rfl #[false, false, false, false, false, false, false, false, false, false, false, false, false, false] rfl ?_
  generalize w2.drew = wd at BD HV h0 LT ⊢
  obtain ⟨x0, x1⟩ := BD.out.at2 (b := w.heap.size) (.tail _ (.head _))
  have lt0 : w.heap.size < wd.heap.size := BD.out.lt (.tail _ (.head _))
  refine Till.take (i := 0) (v := .pointer (some ⟨w.heap.size, 1, none⟩)) rfl (by kernel_rfl) (by kernel_rfl) (by kernel_rfl) (by kernel_rfl) (fun _ _ _ h => h) (Or.inl ⟨by kernel_rfl, fun W' hS => ?_⟩) h0 ?_
  · go_simp
  simp only [Act.put, List.setIfInBounds_toArray, List.set_cons_zero, List.set_cons_succ, List.getElem_toArray, List.getElem_cons_zero]
  refine Till.take (i := 1) (v := .slice fa fn fc) rfl (by kernel_rfl) (by kernel_rfl) (by kernel_rfl) (by kernel_rfl) (fun _ _ _ h => h) (Or.inl ⟨by kernel_rfl, fun W' hS => ?_⟩) h0 ?_
  · have d := (hS.cell (p := ⟨w.heap.size, 1, none⟩) lt0).trans x1; go_simp
  simp only [Act.put, List.setIfInBounds_toArray, List.set_cons_zero, List.set_cons_succ, List.getElem_toArray, List.getElem_cons_succ, List.getElem_cons_zero]
  refine Till.take (i := 2) (v := .int .i64 i) rfl (by kernel_rfl) (by kernel_rfl) (by kernel_rfl) (by kernel_rfl) (fun _ _ _ h => h) (Or.inl ⟨by kernel_rfl, fun W' hS => ?_⟩) h0 ?_
  · go_simp
  simp only [Act.put, List.setIfInBounds_toArray, List.set_cons_zero, List.set_cons_succ, List.getElem_toArray, List.getElem_cons_succ, List.getElem_cons_zero]
  refine Till.take (i := 4) (v := .int .i64 i) rfl (by kernel_rfl) (by kernel_rfl) (by kernel_rfl) (by kernel_rfl) (fun _ _ _ h => h) (Or.inl ⟨by kernel_rfl, fun W' hS => ?_⟩) h0 ?_
  · go_simp
  simp only [Act.put, List.setIfInBounds_toArray, List.set_cons_zero, List.set_cons_succ, List.getElem_toArray, List.getElem_cons_succ, List.getElem_cons_zero]
  refine Till.take (i := 5) (v := .pointer (some ⟨w.heap.size, 0, none⟩)) rfl (by kernel_rfl) (by kernel_rfl) (by kernel_rfl) (by kernel_rfl) (fun _ _ _ h => h) (Or.inl ⟨by kernel_rfl, fun W' hS => ?_⟩) h0 ?_
  · go_simp
  simp only [Act.put, List.setIfInBounds_toArray, List.set_cons_zero, List.set_cons_succ, List.getElem_toArray, List.getElem_cons_succ, List.getElem_cons_zero]
  refine Till.take (i := 6) (v := .int .i64 now) rfl (by kernel_rfl) (by kernel_rfl) (by kernel_rfl) (by kernel_rfl) (fun _ _ _ h => h) (Or.inl ⟨by kernel_rfl, fun W' hS => ?_⟩) h0 ?_
  · have d := (hS.cell (p := ⟨w.heap.size, 0, none⟩) lt0).trans x0; go_simp
  simp only [Act.put, List.setIfInBounds_toArray, List.set_cons_zero, List.set_cons_succ, List.getElem_toArray, List.getElem_cons_succ, List.getElem_cons_zero]
  refine Till.take (i := 7) (v := .int .i64 after) rfl (by kernel_rfl) (by kernel_rfl) (by kernel_rfl) (by kernel_rfl) (fun _ _ _ h => h) (Or.inl ⟨by kernel_rfl, fun W' hS => ?_⟩) h0 ?_
  · go_simp
  simp only [Act.put, List.setIfInBounds_toArray, List.set_cons_zero, List.set_cons_succ, List.getElem_toArray, List.getElem_cons_succ, List.getElem_cons_zero]
  refine Till.take (i := 8) (v := .int .i64 mx) rfl (by kernel_rfl) (by kernel_rfl) (by kernel_rfl) (by kernel_rfl) (fun _ _ _ h => h) (Or.inl ⟨by kernel_rfl, fun W' hS => ?_⟩) h0 ?_
  · go_simp
  simp only [Act.put, List.setIfInBounds_toArray, List.set_cons_zero, List.set_cons_succ, List.getElem_toArray, List.getElem_cons_succ, List.getElem_cons_zero]
  refine Till.take (i := 9) (v := .int .i64 t) rfl (by kernel_rfl) (by kernel_rfl) (by kernel_rfl) (by kernel_rfl) (fun _ _ _ h => h) (Or.inl ⟨by kernel_rfl, fun W' hS => ?_⟩) h0 ?_
  · go_simp
  simp only [Act.put, List.setIfInBounds_toArray, List.set_cons_zero, List.set_cons_succ, List.getElem_toArray, List.getElem_cons_succ, List.getElem_cons_zero]
  refine Till.take (i := 10) (v := .agg #[.int .i64 i, .int .i64 t]) rfl (by kernel_rfl) (by kernel_rfl) (by kernel_rfl) (by kernel_rfl) (fun _ _ _ h => h) (Or.inl ⟨by kernel_rfl, fun W' hS => ?_⟩) h0 ?_
  · go_simp
  simp only [Act.put, List.setIfInBounds_toArray, List.set_cons_zero, List.set_cons_succ, List.getElem_toArray, List.getElem_cons_succ, List.getElem_cons_zero]
  clear x0 x1
  refine Till.ready (rs := [3]) (by kernel_rfl) (by simp) (TillAll.cons rfl (fun K hK => ?_) TillAll.nil)
  replace hK := Lib.hid hK
  go_simp
  refine (WT.out wd HV.out).mono ?_
  rintro e w3 ⟨v2, rfl, ho, b3⟩
  have HO := Lib.hid ho
  have B3 := Lib.hid b3
  clear ho b3
  dsimp only
  refine hK.out _ _ B3.out (fun _ => ?_)
  clear hK K
  simp only [List.setIfInBounds_toArray, List.set_cons_zero, List.set_cons_succ]
  refine Till.ready (rs := [11]) (by kernel_rfl) (by simp) (TillAll.cons rfl (fun K hK => ?_) TillAll.nil)
  replace hK := Lib.hid hK
  go_simp
  refine (PT.out wd.heap.size v2 w3 HO.out B3.out.size).mono ?_
  rintro e w4 ⟨v3, rfl, ho, b4⟩
  obtain ⟨a3, m3, c3, rfl⟩ := own_slice ho
  have O4 := Lib.hid ho
  have B4 := Lib.hid (B3.out.trans b4)
  clear ho b4
  dsimp only
  refine hK.out _ _ B4.out (fun _ => ?_)
  clear hK K
  simp only [List.setIfInBounds_toArray, List.set_cons_zero, List.set_cons_succ]
  refine Till.take (i := 12) (v := .pointer (some ⟨w.heap.size, 1, none⟩)) rfl (by kernel_rfl) (by kernel_rfl) (by kernel_rfl) (by kernel_rfl) (fun _ _ _ h => h) (Or.inl ⟨by kernel_rfl, fun W' hS => ?_⟩) B4.out ?_
  · go_simp
  simp only [Act.put, List.setIfInBounds_toArray, List.set_cons_zero, List.set_cons_succ, List.getElem_toArray, List.getElem_cons_succ, List.getElem_cons_zero]
  refine Till.ready (rs := [13]) (by kernel_rfl) (by simp) (TillAll.last rfl (fun K hK => ?_))
  replace hK := Lib.hid hK
  have BK := Lib.hid (BD.out.keep B4.out)
  obtain ⟨x0, x1⟩ := BK.out.at2 (b := w.heap.size) (.tail _ (.head _))
  obtain ⟨f0, f1⟩ := BK.out.fz2 (b := w.heap.size) (.tail _ (.head _))
  obtain ⟨y0, y1⟩ := BK.out.at2 (b := w.heap.size + 1) (.head _)
  obtain ⟨g0, g1⟩ := BK.out.fz2 (b := w.heap.size + 1) (.head _)
  go_simp
  refine hK.out _ _ ?_
  clear hK K
  simp only [List.setIfInBounds_toArray, List.set_cons_zero, List.set_cons_succ]
  refine Till.done (by kernel_rfl) ?_ _
  go_wp2_with fail
  refine bodyPost_ret (v := .agg #[.int .i64 now, .slice a3 m3 c3]) (by simp [results, Try.results7, go_sem, y0, y1]) rfl ?_
  refine FN.out _ _ (own_put (own_put (own_put (own_lo O4.out (by have := LT.out; omega)) (by omega)) (by omega)) (by omega)) (bel_put (bel_put (bel_put BK.out.w (Nat.le_refl _)) (Nat.le_succ _)) (Nat.le_succ _))

end Go.Proofs.Ytpbpkeifehobjaa.Tm
