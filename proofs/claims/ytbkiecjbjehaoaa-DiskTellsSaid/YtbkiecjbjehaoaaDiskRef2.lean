/-
  What the document's Used, without and change answer.
-/
import Derived.Test.YtbkiecjbjehaoaaDiskRef
namespace Go.Proofs.Ytbkiecjbjehaoaa.Dsk
open Go.RowKit Go.Proofs.Ytbkiecjbjehaoaa.Dp

/-- Where a slice's cells lie. -/
theorem isL_at {w : World} {fa : Option Addr} {fn fc : Nat} {l : List Fl} (h : IsL FL w (.slice fa fn fc) l) {i : Nat} (hi : i < fn) :
    ∃ b off, fa = some ⟨b, off, none⟩ ∧ w.cell? ⟨b, off + i * 3, none⟩ = some (.string (l.getD i zero).n) ∧ w.cell? ⟨b, off + i * 3 + 1, none⟩ = some (.string (l.getD i zero).d) ∧ w.cell? ⟨b, off + i * 3 + 2, none⟩ = some (.int .i64 (l.getD i zero).s) := by
  have h' := h
  obtain ⟨a', cap', e, _, _, h3⟩ := h
  injection e with e1 e2 e3
  rcases h3 with h3 | ⟨b, off, h4, _⟩
  · rw [h3] at e2; simp at e2; omega
  · subst e1
    subst h4
    exact ⟨b, off, rfl, at3 h' hi⟩

set_option maxRecDepth 100000 in
set_option maxHeartbeats 1600000 in
theorem rused_any (fv : Value) (D : Dk) (w : World) (hv : IsL FL w fv D.f) (hs : used D.f ≤ 4000000000000000000) :
    Calls Try.prog 19 #[dkVal fv D] w fun e w' => e = .returned (.int .i64 (used D.f : Int)) ∧ Below w.heap.size w w' := by
  obtain ⟨fa, fn, fc, rfl⟩ : ∃ a n c, fv = .slice a n c := by obtain ⟨a, c, h, _⟩ := hv; exact ⟨a, _, c, h⟩
  have hl := hv.len.2
  unfold maxLen at hl
  obtain ⟨fl, dc, da, dl, dx⟩ := D
  dsimp only at *
  have HV := Lib.hid hv
  have hfl := hv.len.1
  have HT := Lib.hid fun k (hk : k < fl.length) => used_take (z := zero) hk
  have HE := Lib.hid fun k => used_take_le fl k
  have HA := Lib.hid (show ∀ k, fl.length ≤ k → used (fl.take k) = used fl from fun k hk => by rw [List.take_of_length_le hk])
  obtain ⟨u, hu⟩ : ∃ u, used fl = u := ⟨_, rfl⟩
  rw [hu] at hs HE HA ⊢
  have H0 := Lib.hid (show used (fl.take 0) = 0 from rfl)
  rw [← hfl] at hl HT HA
  clear hu hfl hv
  unfold dkVal
  dsimp only
  have G0 := Lib.hid (heap_alloc_new w (.cells #[.slice fa fn fc, .int .i64 dc, .bool da, .int .i64 dl, .bool dx] 24))
  obtain ⟨p0, p1, p2, p3, p4⟩ := cells5 G0.out
  have B0 := Lib.hid ((Below.refl _ w).alloc (Nat.le_refl _) (.cells #[.slice fa fn fc, .int .i64 dc, .bool da, .int .i64 dl, .bool dx] 24))
  go_enter Try.func19, Try.ntmps19
  go_wp2_with fail
  generalize w.alloc _ = w0 at G0 B0 p0 p1 p2 p3 p4 ⊢
  go_loopw [3, 4] (fun s i wr => ∃ k : Nat, k ≤ fn ∧ i = .int .i64 k ∧ s = .int .i64 (used (fl.take k) : Int) ∧ wr = w0) (fun _ i _ => fn - (intOf i).toNat)
  case atStart => exact ⟨0, Nat.zero_le _, rfl, by rw [H0.out]; rfl, rfl⟩
  case round =>
    obtain ⟨k, hk, rfl, rfl, rfl⟩ := hrel
    by_cases hlt : k < fn
    · obtain ⟨b, off, rfl, _, c1, _⟩ := isL_at (HV.out.keep B0.out) hlt
      have ht := HT.out k hlt
      have hle := HE.out (k + 1)
      obtain ⟨m, hm⟩ : ∃ m, used (fl.take k) = m := ⟨_, rfl⟩
      rw [hm] at ht ⊢
      have HM := Lib.hid ht
      rw [ht] at hle
      clear ht hm
      generalize (fl.getD k zero).d = d at *
      go_wp2_with fail
      go_roundw
      case rel => exact ⟨k + 1, by omega, by go_num, by rw [HM.out]; go_num, by first | rfl | trivial⟩
      case measure => simp [intOf]; omega
    · have HF := Lib.hid (HA.out k (by omega))
      go_wp2_with fail
      go_ret
      refine ⟨?_, B0.out⟩
      rw [HF.out]
      rfl

theorem wo_take {l : List Fl} {n : ByteArray} {k : Nat} {z : Fl} (h : k < l.length) : without (l.take (k + 1)) n = without (l.take k) n ++ (if (l.getD k z).n = n then [] else [l.getD k z]) := by
  rw [take_snocD (z := z) h]
  unfold without
  rw [List.filter_append]
  congr 1
  by_cases he : (l.getD k z).n = n
  · rw [if_pos he, List.filter_cons_of_neg (by simpa using he)]; rfl
  · rw [if_neg he, List.filter_cons_of_pos (by simpa using he)]; rfl

set_option maxRecDepth 100000 in
set_option maxHeartbeats 3200000 in
theorem rwithout_any (fv : Value) (l : List Fl) (n : ByteArray) (w : World) (hv : IsL FL w fv l) (hl : l.length ≤ 1000000000) :
    Calls Try.prog 57 #[fv, .string n] w (OutL FL w w.heap.size (without l n)) := by
  obtain ⟨i0, hi0, hz0, hz1, hz2⟩ := info_parts info_fl
  obtain ⟨fa, fn, fc, rfl⟩ : ∃ a n c, fv = .slice a n c := by obtain ⟨a, c, h, _⟩ := hv; exact ⟨a, _, c, h⟩
  have HV := Lib.hid hv
  have hfl := hv.len.1
  have HT := Lib.hid fun k (hk : k < l.length) => wo_take (n := n) (z := zero) hk
  have HA := Lib.hid (show ∀ k, l.length ≤ k → without (l.take k) n = without l n from fun k hk => by rw [List.take_of_length_le hk])
  have HLEN := Lib.hid (show ∀ k, (without (l.take k) n).length ≤ k from fun k => Nat.le_trans (List.length_filter_le _ _) (by rw [List.length_take]; omega))
  rw [← hfl] at hl HT HA
  clear hfl hv
  go_enter Try.func57, Try.ntmps57
  go_wp2_with fail
  go_loopw [5, 6] (fun s i wr => ∃ k : Nat, k ≤ fn ∧ i = .int .i64 k ∧ OwnL FL wr w.heap.size s (without (l.take k) n) ∧ Below w.heap.size w wr) (fun _ i _ => fn - (intOf i).toNat)
  case atStart => exact ⟨0, Nat.zero_le _, rfl, OwnL.nil _ _, Below.refl _ _⟩
  case round =>
    obtain ⟨k, hk, rfl, hO, bel⟩ := hrel
    have HO := Lib.hid hO
    clear hO
    by_cases hlt : k < fn
    · obtain ⟨b, off, rfl, c0, c1, c2⟩ := isL_at (HV.out.keep bel) hlt
      have HTk := HT.out k hlt
      have hlk := HLEN.out k
      have hbel := bel.size
      generalize l.getD k zero = f at *
      generalize without (l.take k) n = L at *
      by_cases he : f.n = n
      · rw [if_pos he, List.append_nil] at HTk
        have HTk := Lib.hid HTk
        generalize hfn : f.n = fnm at c0
        rw [hfn] at he
        subst he
        clear hfn
        go_wp2_with fail
        go_roundw
        case rel => exact ⟨k + 1, by omega, by go_num, by rw [HTk.out]; exact HO.out, bel⟩
        case measure => simp [intOf]; omega
      · rw [if_neg he] at HTk
        have HTk := Lib.hid HTk
        have hbn := str_ne he
        have HF : Hid (∀ v' w3, w3.ownsRow w.heap.size 43 3 v' (L.length + 1) (FL.vals L ++ flCells f) → OwnL FL w3 w.heap.size v' (L ++ [f])) := fun v' w3 h => OwnL.snoc (n := L.length) h rfl rfl
        have HOX := Lib.hid (show (wr.alloc (.cells (flCells f).toArray 43)).ownsRow w.heap.size 43 3 _ L.length (FL.vals L) from HO.out.alloc _)
        have HLT := Lib.hid fun k' (h : _) => HO.out.lt k' h
        have HBW := Lib.hid (bel.alloc hbel (.cells (flCells f).toArray 43))
        have HNEW := Lib.hid (news_new wr wr.heap.size (flCells f) 43 rfl)
        have H1 := Lib.hid (show ∀ u ∈ flCells f, u.oneCell' = true from FL.one f)
        generalize hxs : FL.vals L = xs at *
        generalize hll : L.length = ll at *
        clear hxs hll
        go_wp2_with (at_builtin; refine wpList_append_own _ rfl _ _ 22 rfl w.heap.size 43 i0 (.agg #[.string ByteArray.empty, .string ByteArray.empty, .int .i64 0]) 3 40 Try.underlying22 hi0 hz0 hz1 hz2 rfl (by decide) _ _ _ rfl HOX.out ⟨wr.heap.size, 0, none⟩ 1 1 (flCells f) rfl rfl HNEW.out H1.out (by unfold maxLen; omega) (by omega) (by simp; omega) ?_; intro v' w3 hown' hgrow3 hnil3)
        go_roundw
        case rel =>
          exact ⟨k + 1, by omega, by go_num, by rw [HTk.out]; exact HF.out v' w3 hown', HBW.out.grown hgrow3 (by simp; omega) (fun q hq => (HLT.out q hq).1)⟩
        case measure => simp [intOf]; omega
    · have HF := HA.out k (by omega)
      have HOO := HO.out
      rw [HF] at HOO
      have HG := Lib.hid (fun v (h : OwnL FL wr w.heap.size v (without l n)) => OutL.mk h bel)
      have HOO := Lib.hid HOO
      clear HF
      go_wp2_with fail
      go_ret
      exact HG.out _ HOO.out

end Go.Proofs.Ytbkiecjbjehaoaa.Dsk
