/-
  What fold's take makes of a state of the call's own: the state behind data.
-/
import Derived.Test.YtndfpbolneofmaaFoldIns
import Derived.Test.YtndfpbolneofmaaFoldSearch
import Derived.Lib.Strings
namespace Go.Proofs.Ytndfpbolneofmaa
open Go.RowKit

theorem key_at (s : ByteArray) (h : 0 < s.size) : Fp.key s = s[0] := by
  unfold Fp.key
  rw [List.headD_eq_head?_getD, List.head?_eq_getElem?, Array.getElem?_toList, Array.getElem?_eq_getElem (by exact h)]
  rfl

theorem emp_no {s : ByteArray} (h : 0 < s.size) : s.toList.isEmpty = false := by
  rw [Lib.toList_data]
  have e : s.data.toList.length = s.size := rfl
  cases hd : s.data.toList with
  | nil => rw [hd] at e; simp at e; omega
  | cons a b => rfl
theorem emp_yes {s : ByteArray} (h : s.size = 0) : s.toList.isEmpty = true := by
  rw [Lib.toList_data]
  have e : s.data.toList.length = s.size := rfl
  cases hd : s.data.toList with
  | nil => rfl
  | cons a b => rw [hd] at e; simp at e; omega

theorem OwnOut.later {w w1 w' : World} {base : Nat} {l : List Fp.Pr} {e : Ending} (h : OwnOut w1 base l e w') (b : Below base w w1) : OwnOut w base l e w' := by
  obtain ⟨v, rfl, ho, hb⟩ := h
  exact ⟨v, rfl, ho, b.trans hb⟩

set_option maxHeartbeats 1600000 in
set_option maxRecDepth 100000 in
theorem take_zero (l : List Fp.Pr) (base : Nat) (v : Value) (s : ByteArray) (w : World) (ho : Own w base v l) (hs : s.size = 0) :
    Calls Try.prog 20 #[v, .string s] w (OwnOut w base (Fp.step l s)) := by
  have hE := emp_yes hs
  have HF := Lib.hid (show OwnOut w base (Fp.step l s) (.returned v) w by rw [Fp.step_zero l hs]; exact OwnOut.mk ho (Below.refl _ _))
  clear ho hs
  go_enter Try.func20, Try.ntmps20
  go_wp2_with fail
  go_ret
  exact HF.out

set_option maxHeartbeats 1600000 in
set_option maxRecDepth 100000 in
theorem take_one (l : List Fp.Pr) (base : Nat) (v : Value) (s : ByteArray) (w : World) (ho : Own w base v l) (hbw : base ≤ w.heap.size) (hu : Fp.Up l) (hv : ∀ p ∈ l, p.v.size ≤ 9223372036854775807) (hs : s.size = 1) :
    Calls Try.prog 20 #[v, .string s] w (OwnOut w base (Fp.step l s)) := by
  have h0 : 0 < s.size := by omega
  have hl := hu.len
  have K := key_at s h0
  have S := Lib.hid fun (W : World) (h : Own W base v l) => search_any v l s[0] W hu (h.is (by unfold maxLen; omega) hv)
  have hE := emp_no h0
  have hE2 : (s.extract 1 s.size).toList.isEmpty = true := emp_yes (by simp; omega)
  have HO := Lib.hid ho
  have HD := Lib.hid fun i (h : Fp.Found l s[0] i true) => Fp.step_del (s := s) (by rw [K]; exact h) hu hs
  have HN := Lib.hid fun i (h : Fp.Found l s[0] i false) => Fp.step_none (s := s) (by rw [K]; exact h) hu hs
  have HB := Lib.hid hbw
  clear ho hu hv hs K hbw
  go_enter Try.func20, Try.ntmps20
  go_wp2_with fail
  go_quiet (fail)
  go_wp2_with fail
  have HO0 := Lib.hid (HO.out.below (bel_drewN nq))
  have B0 := Lib.hid ((bel_drewN (w := w) nq).mono HB.out)
  generalize w.drewN nq = w0 at HO0 B0 ⊢
  refine (S.out w0 HO0.out).mono ?_
  rintro e w1 ⟨i, b, rfl, hf, b1⟩
  have HO1 := Lib.hid (HO0.out.below b1)
  have B1 := Lib.hid (B0.out.trans (b1.mono (Nat.le_trans HB.out B0.out.size)))
  clear b1
  rcases b with _ | _
  · have HF := Lib.hid (show OwnOut w base (Fp.step l s) (.returned v) w1 by rw [HN.out i hf]; exact OwnOut.mk HO1.out B1.out)
    clear hf
    go_wp2_with fail
    go_ret
    exact HF.out
  · have hi := (hf.hit rfl).1
    have HF := Lib.hid (HD.out i hf)
    clear hf
    go_wp2_with fail
    refine (del_any l base i v w1 HO1.out hi).mono ?_
    rintro e w2 ⟨v2, rfl, ho2, b2⟩
    have HG := Lib.hid (show OwnOut w base (Fp.step l s) (.returned v2) w2 by rw [HF.out]; exact OwnOut.mk ho2 (B1.out.trans b2))
    clear ho2 b2
    go_wp2_with fail
    go_ret
    exact HG.out

theorem own_set {w : World} {base g cap i : Nat} {cur : Array Value} {l : List Fp.Pr} {x : ByteArray} {k : UInt8} (hb : base ≤ g) (hg : w.heap[g]? = some (.cells cur 40 (0, 0))) (hc : l.length ≤ cap) (hm : cap ≤ maxLen) (hs : cur.size = cap * 2) (ht : cur.toList.take (l.length * 2) = prVals l)
    (hi : i < l.length) (hk : (l.getD i Fp.zero).k = k) : Own (w.setCell ⟨g, i * 2 + 1, none⟩ (.string x)) base (.slice (some ⟨g, 0, none⟩) l.length cap) (l.set i ⟨k, x⟩) := by
  have e1 : (l.set i ⟨k, x⟩).length = l.length := by simp
  rw [← e1]
  refine Own.mk hb (heap_setCell_same w g (i * 2 + 1) cur _ (.string x) hg) (by rw [e1]; exact hc) hm (by simpa using hs) ?_
  rw [e1, Array.toList_setIfInBounds, List.take_set, ht, prVals_set l i x hi, hk]

set_option maxHeartbeats 1600000 in
set_option maxRecDepth 100000 in
theorem take_more (l : List Fp.Pr) (base : Nat) (v : Value) (s : ByteArray) (w : World) (ho : Own w base v l) (hbw : base ≤ w.heap.size) (hu : Fp.Up l) (hv : ∀ p ∈ l, p.v.size ≤ 9223372036854775807) (hs : 1 < s.size) :
    Calls Try.prog 20 #[v, .string s] w (OwnOut w base (Fp.step l s)) := by
  have h0 : 0 < s.size := by omega
  have hl := hu.len
  have K := key_at s h0
  have S := Lib.hid fun (W : World) (h : Own W base v l) => search_any v l s[0] W hu (h.is (by unfold maxLen; omega) hv)
  have hE := emp_no h0
  have hE2 : (s.extract 1 s.size).toList.isEmpty = false := emp_no (by simp; omega)
  have HO := Lib.hid ho
  have HD := Lib.hid fun i (h : Fp.Found l s[0] i true) => Fp.step_set (s := s) (by rw [K]; exact h) hu hs
  have HN := Lib.hid fun i (h : Fp.Found l s[0] i false) => Fp.step_ins (s := s) (by rw [K]; exact h) hu hs
  rw [K] at HD HN
  unfold Fp.val at HD HN
  have HB := Lib.hid hbw
  have hs1 : (1 : Int) ≤ (s.size : Int) := by omega
  clear ho hu hv hs K hbw
  go_enter Try.func20, Try.ntmps20
  go_wp2_with fail
  go_quiet (fail)
  go_wp2_with fail
  have HO0 := Lib.hid (HO.out.below (bel_drewN nq))
  have B0 := Lib.hid ((bel_drewN (w := w) nq).mono HB.out)
  generalize w.drewN nq = w0 at HO0 B0 ⊢
  refine (S.out w0 HO0.out).mono ?_
  rintro e w1 ⟨i, b, rfl, hf, b1⟩
  have HO1 := Lib.hid (HO0.out.below b1)
  have B1 := Lib.hid (B0.out.trans (b1.mono (Nat.le_trans HB.out B0.out.size)))
  clear b1
  rcases b with _ | _
  · have hi := hf.le
    have HF := Lib.hid (HN.out i hf)
    clear hf
    go_wp2_with fail
    have hbw1 := Nat.le_trans HB.out B1.out.size
    refine (ins_any l base i v s[0] (s.extract 1 s.size) w1.heap.size _ (World.ownsRow.alloc HO1.out _) hi hl (Nat.le_trans hbw1 (by simp)) (heap_alloc_new w1 _) (fun e => absurd (World.ownsRow.lt HO1.out _ e).2 (Nat.lt_irrefl _))).mono ?_
    rintro e w2 ⟨v2, rfl, ho2, b2⟩
    have HG := Lib.hid (show OwnOut w base (Fp.step l s) (.returned v2) w2 by rw [HF.out]; exact OwnOut.mk ho2 ((B1.out.alloc hbw1 _).trans b2))
    clear ho2 b2
    go_wp2_with fail
    go_ret
    exact HG.out
  · obtain ⟨hi, hk⟩ := hf.hit rfl
    have HF := Lib.hid (HD.out i hf)
    clear hf
    rw [← getD_pr hi] at hk
    obtain ⟨g, cap, cur, rfl, hb, hg, hc, hm, hs, ht⟩ := HO1.out.open_ (by omega)
    have HS := Lib.hid (own_set (x := s.extract 1 s.size) hb hg hc hm hs ht hi hk)
    have HB2 := Lib.hid (B1.out.setCell (p := ⟨g, i * 2 + 1, none⟩) hb (.string (s.extract 1 s.size)))
    have HG := Lib.hid (show OwnOut w base (Fp.step l s) (.returned (.slice (some ⟨g, 0, none⟩) l.length cap)) (w1.setCell ⟨g, i * 2 + 1, none⟩ (.string (s.extract 1 s.size))) by rw [HF.out]; exact OwnOut.mk HS.out HB2.out)
    obtain ⟨z, hz⟩ := Option.isSome_iff_exists.1 (row_some hg (i * 2 + 1) (by omega)).1
    have hz2 := (row_some hg (i * 2 + 1) (by omega)).2
    clear hk hg hs ht HS HB2 hb
    generalize l.length = len at *
    go_wp2_with fail
    go_ret
    exact HG.out

theorem take_any (l : List Fp.Pr) (base : Nat) (v : Value) (s : ByteArray) (w : World) (ho : Own w base v l) (hbw : base ≤ w.heap.size) (hu : Fp.Up l) (hv : ∀ p ∈ l, p.v.size ≤ 9223372036854775807) :
    Calls Try.prog 20 #[v, .string s] w (OwnOut w base (Fp.step l s)) := by
  rcases Nat.lt_or_ge 1 s.size with h | h
  · exact take_more l base v s w ho hbw hu hv h
  · by_cases h0 : s.size = 0
    · exact take_zero l base v s w ho h0
    · exact take_one l base v s w ho hbw hu hv (by omega)

end Go.Proofs.Ytndfpbolneofmaa
