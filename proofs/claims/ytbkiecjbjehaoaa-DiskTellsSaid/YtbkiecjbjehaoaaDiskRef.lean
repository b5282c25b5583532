/-
  What the document's Find, Used, Read, without answer.
-/
import Derived.Test.YtbkiecjbjehaoaaDiskFew
namespace Go.Proofs.Ytbkiecjbjehaoaa.Dsk
open Go.RowKit Go.Proofs.Ytbkiecjbjehaoaa.Dp

theorem str_ne {a b : ByteArray} (h : a ≠ b) : (a.toList == b.toList) = false := by
  rw [Lib.toList_data, Lib.toList_data, beq_eq_false_iff_ne]
  exact fun e => h (ext_iff.2 e)
/-- The place of the first file of that name, -1 where there is none. -/
def findI (l : List Fl) (n : ByteArray) : Int := match l.findIdx? (fun f => decide (f.n = n)) with | none => -1 | some i => (i : Int)
theorem findI_none {l : List Fl} {n : ByteArray} (h : ∀ k, k < l.length → (l.getD k zero).n ≠ n) : findI l n = -1 := by
  unfold findI
  rw [List.findIdx?_eq_none_iff.2 (fun f hf => by
    obtain ⟨k, hk, rfl⟩ := List.getElem_of_mem hf
    have := h k hk
    rw [getD_fl hk] at this
    simpa using this)]
theorem findI_some {l : List Fl} {n : ByteArray} {i : Nat} (hi : i < l.length) (he : (l.getD i zero).n = n) (h : ∀ k, k < i → (l.getD k zero).n ≠ n) : findI l n = (i : Int) := by
  unfold findI
  rw [List.findIdx?_eq_some_iff_getElem.2 ⟨hi, by rw [getD_fl hi] at he; simpa using he, fun j hj => by
    have := h j hj
    rw [getD_fl (by omega)] at this
    simpa using this⟩]
theorem find_get {l : List Fl} {n : ByteArray} : (findI l n = -1 ∧ get l n = none) ∨ ∃ i : Nat, i < l.length ∧ findI l n = (i : Int) ∧ get l n = some (l.getD i zero) := by
  unfold findI Dp.get
  cases hf : l.findIdx? (fun f => decide (f.n = n)) with
  | none =>
    refine .inl ⟨rfl, ?_⟩
    rw [List.find?_eq_none]
    rw [List.findIdx?_eq_none_iff] at hf
    intro x hx
    rw [hf x hx]
    decide
  | some i =>
    obtain ⟨hi, h1, h2⟩ := List.findIdx?_eq_some_iff_getElem.1 hf
    refine .inr ⟨i, hi, rfl, ?_⟩
    rw [List.find?_eq_some_iff_getElem]
    exact ⟨by rw [getD_fl hi]; exact h1, i, hi, (getD_fl hi).symm, fun j hj => by have := h2 j hj; simpa using this⟩

set_option maxRecDepth 100000 in
set_option maxHeartbeats 1600000 in
theorem rfind_any (fv : Value) (D : Dk) (n : ByteArray) (w : World) (hv : IsL FL w fv D.f) :
    Calls Try.prog 41 #[dkVal fv D, .string n] w fun e w' => e = .returned (.int .i64 (findI D.f n)) ∧ Below w.heap.size w w' := by
  obtain ⟨fa, fn, fc, rfl⟩ : ∃ a n c, fv = .slice a n c := by obtain ⟨a, c, h, _⟩ := hv; exact ⟨a, _, c, h⟩
  have HV := Lib.hid hv
  have hl := hv.len.2
  obtain rfl : fn = D.f.length := hv.len.1
  unfold maxLen at hl
  obtain ⟨fl, dc, da, dl, dx⟩ := D
  dsimp only at *
  clear hv
  have HN := Lib.hid (@findI_none fl n)
  have HS := Lib.hid fun i => @findI_some fl n i
  obtain ⟨R, hR⟩ : ∃ R, findI fl n = R := ⟨_, rfl⟩
  rw [hR] at HN ⊢
  simp only [hR] at HS
  clear hR
  obtain ⟨len, hlen⟩ : ∃ len, fl.length = len := ⟨_, rfl⟩
  rw [hlen] at hl HN HS HV ⊢
  clear hlen
  unfold dkVal
  dsimp only
  have G0 := Lib.hid (heap_alloc_new w (.cells #[.slice fa len fc, .int .i64 dc, .bool da, .int .i64 dl, .bool dx] 24))
  obtain ⟨p0, p1, p2, p3, p4⟩ := cells5 G0.out
  have B0 := Lib.hid ((Below.refl _ w).alloc (Nat.le_refl _) (.cells #[.slice fa len fc, .int .i64 dc, .bool da, .int .i64 dl, .bool dx] 24))
  go_enter Try.func41, Try.ntmps41
  go_wp2_with fail
  generalize w.alloc _ = w0 at G0 B0 p0 p1 p2 p3 p4 ⊢
  go_loopw [5] (fun i wr => ∃ k : Nat, k ≤ len ∧ i = .int .i64 k ∧ wr = w0 ∧ ∀ j, j < k → (fl.getD j zero).n ≠ n) (fun i _ => len - (intOf i).toNat)
  case atStart => exact ⟨0, Nat.zero_le _, rfl, rfl, fun j hj => absurd hj (Nat.not_lt_zero _)⟩
  case round =>
    obtain ⟨k, hk, rfl, rfl, hno⟩ := hrel
    by_cases hlt : k < len
    · obtain ⟨b, off, rfl⟩ : ∃ b off, fa = some ⟨b, off, none⟩ := by
        obtain ⟨a', cap', e, _, _, h3⟩ := HV.out
        injection e with e1 e2 e3
        rcases h3 with h3 | ⟨b, off, h4, _⟩
        · rw [h3] at e2; simp at e2; omega
        · exact ⟨b, off, e1.trans h4⟩
      obtain ⟨c0, _, _⟩ := at3 (HV.out.keep B0.out) hlt
      by_cases he : (fl.getD k zero).n = n
      · have HE := Lib.hid (HS.out k hlt he hno)
        have heq : (fl.getD k zero).n = n := he
        generalize (fl.getD k zero).n = nm at *
        subst heq
        clear HS HN
        go_wp2_with fail
        go_ret
        refine ⟨?_, B0.out⟩
        rw [HE.out]
        rfl
      · have hbn := str_ne he
        have HNO := Lib.hid (show ∀ j, j < k + 1 → (fl.getD j zero).n ≠ n from fun j hj => by
          by_cases h : j = k
          · rw [h]; exact he
          · exact hno j (by omega))
        clear hno
        generalize (fl.getD k zero).n = nm at c0 hbn he
        go_wp2_with fail
        go_roundw
        case rel => exact ⟨k + 1, by omega, by go_num, by first | rfl | trivial, HNO.out⟩
        case measure => simp [intOf]; omega
    · have HE := Lib.hid (HN.out fun j hj => hno j (by omega))
      clear hno
      go_wp2_with fail
      go_ret
      refine ⟨?_, B0.out⟩
      rw [HE.out]
      rfl

set_option maxRecDepth 100000 in
set_option maxHeartbeats 1600000 in
theorem rread_any (fv : Value) (D : Dk) (n : ByteArray) (w : World) (hv : IsL FL w fv D.f) :
    Calls Try.prog 14 #[dkVal fv D, .string n] w fun e w' => e = .returned (readVal D.f n) ∧ Below w.heap.size w w' := by
  obtain ⟨fa, fn, fc, rfl⟩ : ∃ a n c, fv = .slice a n c := by obtain ⟨a, c, h, _⟩ := hv; exact ⟨a, _, c, h⟩
  have F := fun (W : World) (h : IsL FL W (.slice fa fn fc) D.f) => rfind_any (.slice fa fn fc) D n W h
  unfold dkVal at F
  have HV := Lib.hid hv
  have hl := hv.len.2
  unfold maxLen at hl
  have G0 := Lib.hid (heap_alloc_new w (.cells #[.slice fa fn fc, .int .i64 D.c, .bool D.a, .int .i64 D.l, .bool D.x] 24))
  rcases @find_get D.f n with ⟨hf, hg⟩ | ⟨i, hi, hf, hg⟩
  · rw [readVal_no hg]
    rw [hf] at F
    have F := Lib.hid F
    clear hv hl hg hf
    unfold dkVal
    go_enter Try.func14, Try.ntmps14
    go_wp2_with fail
    refine (F.out _ (HV.out.keep ((Below.refl _ _).alloc (Nat.le_refl _) _))).mono ?_
    rintro e w1 ⟨rfl, b1⟩
    have HB := Lib.hid (bel_of_alloc b1)
    clear b1
    go_wp2_with fail
    go_ret2
    exact ⟨rfl, HB.out⟩
  · obtain ⟨f, hfe⟩ : ∃ f, D.f.getD i zero = f := ⟨_, rfl⟩
    rw [hfe] at hg
    rw [readVal_yes hg]
    rw [hf] at F
    have F := Lib.hid F
    obtain ⟨b', off, rfl, hc⟩ : ∃ b off, fa = some ⟨b, off, none⟩ ∧ w.cell? ⟨b, off + i * 3 + 1, none⟩ = some (.string f.d) := by
      rw [← hfe]
      have hv' := hv
      obtain ⟨a', cap', e, _, _, h3⟩ := hv
      injection e with e1 e2 e3
      rcases h3 with h3 | ⟨b, off, h4, _⟩
      · rw [h3] at hi; simp at hi
      · subst e1
        subst h4
        exact ⟨b, off, rfl, (at3 hv' (by omega)).2.1⟩
    have hin : i < fn := by have := hv.len.1; omega
    have hfn : fn ≤ 9223372036854775807 := by have := hv.len.1; omega
    clear hv hg hf hl hfe
    unfold dkVal
    go_enter Try.func14, Try.ntmps14
    go_wp2_with fail
    refine (F.out _ (HV.out.keep ((Below.refl _ _).alloc (Nat.le_refl _) _))).mono ?_
    rintro e w1 ⟨rfl, b1⟩
    have HB := bel_of_alloc b1
    obtain ⟨q0, q1, q2, q3, q4⟩ := cells5 (hkeep G0.out b1)
    have x1 : w1.cell? ⟨b', off + i * 3 + 1, none⟩ = some (.string f.d) := by rw [HB.cell (p := ⟨b', off + i * 3 + 1, none⟩) (block_lt_of_cell hc)]; exact hc
    have HB := Lib.hid HB
    clear b1 hc
    go_wp2_with fail
    go_ret2
    exact ⟨rfl, HB.out⟩

end Go.Proofs.Ytbkiecjbjehaoaa.Dsk
