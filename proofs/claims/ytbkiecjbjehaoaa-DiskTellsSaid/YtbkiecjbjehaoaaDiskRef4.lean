/-
  What the document's Delete, Sync, Create answer.
-/
import Derived.Test.YtbkiecjbjehaoaaDiskRef3
import Derived.Test.YtbkiecjbjehaoaaDiskAll
import Derived.Deep.RegionWith
namespace Go.Proofs.Ytbkiecjbjehaoaa.Dsk
open Go.RowKit Go.Proofs.Ytbkiecjbjehaoaa.Dp

/-- What the document's calls answer: a disk of files that were there or that are the call's own. -/
def RkOut (w : World) (fv : Value) (l0 : List Fl) (R : Dk × Int) (e : Ending) (w' : World) : Prop := ∃ a n c, e = .returned (.tuple #[dkVal (.slice a n c) R.1, .int .i64 R.2]) ∧ KeptOr w' w.heap.size fv l0 (.slice a n c) R.1.f ∧ Below w.heap.size w w'

/-- A disk whose files are one of two slices that were there. -/
def RcTwo (w : World) (fv lv : Value) (l0 l : List Fl) (R : Dk × Int) (e : Ending) (w' : World) : Prop := ∃ v, e = .returned (.tuple #[dkVal v R.1, .int .i64 R.2]) ∧ ((v = fv ∧ R.1.f = l0) ∨ (v = lv ∧ R.1.f = l ∧ R.2 = 0)) ∧ Below w.heap.size w w'

set_option maxRecDepth 100000 in
set_option maxHeartbeats 3200000 in
/-- The document's change, and which slice it answers. -/
theorem rchange_two (fa ga : Option Addr) (fn fc gn gc : Nat) (D : Dk) (l : List Fl) (own : Int) (w : World) (hD : DkB D) (h0 : 0 ≤ D.l) :
    Calls Try.prog 55 #[.agg #[.slice fa fn fc, .int .i64 D.c, .bool D.a, .int .i64 D.l, .bool D.x], .slice ga gn gc, .int .i64 own] w (RcTwo w (.slice fa fn fc) (.slice ga gn gc) D.f l (change D l own)) := by
  obtain ⟨⟨hc1, hc2⟩, hl1, hl2⟩ := hD
  obtain ⟨f, c, a, d, x⟩ := D
  dsimp only at *
  have b2 := Lib.hid fun (A B : Array Value) => ((Below.refl w.heap.size w).alloc (Nat.le_refl _) (.cells A 24)).alloc (by simp) (.cells B 24)
  rcases change_cases ⟨f, c, a, d, x⟩ l own with ⟨e, h1⟩ | ⟨e, h1, h2⟩ | ⟨e, h1, h2, h3, h4⟩ | ⟨e, h1, h2, h3, h4⟩ | ⟨e, h1, h2, h3⟩
  all_goals
    dsimp only at *
    rw [e]
    clear e
  · subst h1
    go_enter Try.func55, Try.ntmps55
    go_wp2_with fail
    refine bodyPost_ret (v := .tuple #[.agg #[.slice fa fn fc, .int .i64 c, .bool a, .int .i64 d, .bool true], .int .i64 10]) (by simp [results, Try.results55, go_sem]) rfl ?_
    exact ⟨.slice fa fn fc, rfl, .inl ⟨rfl, rfl⟩, b2.out _ _⟩
  · subst h2
    have hx : (own != 0) = true := by simpa using h1
    go_enter Try.func55, Try.ntmps55
    go_wp2_with fail
    refine bodyPost_ret (v := .tuple #[.agg #[.slice fa fn fc, .int .i64 c, .bool a, .int .i64 d, .bool false], .int .i64 own]) (by simp [results, Try.results55, go_sem]) rfl ?_
    exact ⟨.slice fa fn fc, rfl, .inl ⟨rfl, rfl⟩, b2.out _ _⟩
  · subst h1 h2 h3 h4
    go_enter Try.func55, Try.ntmps55
    go_wp2_with fail
    refine bodyPost_ret (v := .tuple #[.agg #[.slice fa fn fc, .int .i64 c, .bool true, .int .i64 0, .bool true], .int .i64 10]) (by simp [results, Try.results55, go_sem]) rfl ?_
    exact ⟨.slice fa fn fc, rfl, .inl ⟨rfl, rfl⟩, b2.out _ _⟩
  · subst h1 h2 h3
    have hd0 : ¬ (d = 0) := h4
    have hd1 : (d == 0) = false := by simpa using h4
    go_enter Try.func55, Try.ntmps55
    go_wp2_with fail
    refine bodyPost_ret (v := .tuple #[.agg #[.slice ga gn gc, .int .i64 c, .bool true, .int .i64 (d - 1), .bool false], .int .i64 0]) (by simp [results, Try.results55, go_sem]) rfl ?_
    exact ⟨.slice ga gn gc, rfl, .inr ⟨rfl, rfl, rfl⟩, b2.out _ _⟩
  · subst h1 h2 h3
    go_enter Try.func55, Try.ntmps55
    go_wp2_with fail
    refine bodyPost_ret (v := .tuple #[.agg #[.slice ga gn gc, .int .i64 c, .bool false, .int .i64 d, .bool false], .int .i64 0]) (by simp [results, Try.results55, go_sem]) rfl ?_
    exact ⟨.slice ga gn gc, rfl, .inr ⟨rfl, rfl, rfl⟩, b2.out _ _⟩
theorem RcTwo.slice {w w' : World} {fa ga : Option Addr} {fn fc gn gc : Nat} {v : Value} {P Q : Prop} (h : (v = .slice fa fn fc ∧ P) ∨ (v = .slice ga gn gc ∧ Q)) (_hw : w = w' ∨ True) : ∃ a n c, v = .slice a n c := by
  rcases h with ⟨h, _⟩ | ⟨h, _⟩
  · exact ⟨_, _, _, h⟩
  · exact ⟨_, _, _, h⟩

set_option maxRecDepth 100000 in
set_option maxHeartbeats 3200000 in
theorem rdelete_any (fv : Value) (D : Dk) (n : ByteArray) (w : World) (hv : IsL FL w fv D.f) (hS : Sm D) :
    Calls Try.prog 36 #[dkVal fv D, .string n] w (RkOut w fv D.f (delete D n)) := by
  obtain ⟨fa, fn, fc, rfl⟩ : ∃ a n c, fv = .slice a n c := by obtain ⟨a, c, h, _⟩ := hv; exact ⟨a, _, c, h⟩
  have F := fun (W : World) (h : IsL FL W (.slice fa fn fc) D.f) => rfind_any (.slice fa fn fc) D n W h
  have CH := Lib.hid fun (ga : Option Addr) (gn gc : Nat) (l : List Fl) (own : Int) (W : World) => rchange_two fa ga fn fc gn gc D l own W hS.b hS.l0
  have WO := Lib.hid fun (W : World) (h : IsL FL W (.slice fa fn fc) D.f) => rwithout_any (.slice fa fn fc) D.f n W h (by have := hS.n; omega)
  have HV := Lib.hid hv
  obtain ⟨g0, g1, gb, gs⟩ := boxes2 w #[.slice fa fn fc, .int .i64 D.c, .bool D.a, .int .i64 D.l, .bool D.x] #[.slice none 0 0, .int .i64 0, .bool false, .int .i64 0, .bool false] 24 24
  have G0 := Lib.hid g0
  have G1 := Lib.hid g1
  have GB := Lib.hid gb
  have GS := Lib.hid gs
  clear g0 g1 gb gs hv
  unfold delete
  rcases @find_get D.f n with ⟨hf, hg⟩ | ⟨i, hi, hf, hg⟩
  · rw [hg]
    dsimp only
    simp only [hf] at F
    unfold dkVal at F ⊢
    replace F := Lib.hid F
    clear hf hg
    go_enter Try.func36, Try.ntmps36
    go_wp2_with fail
    generalize World.alloc (World.alloc w _) _ = w0 at G0 G1 GB GS ⊢
    refine (F.out w0 (HV.out.keep GB.out)).mono ?_
    rintro e w1 ⟨rfl, b1⟩
    obtain ⟨p0, p1, p2, p3, p4⟩ := cells5 (hkeep G0.out b1)
    have G1' := Lib.hid (hkeep G1.out b1)
    have B1 := Lib.hid (GB.out.trans (b1.mono (by have := GS.out; omega)))
    have hs1 : w.heap.size + 1 < w1.heap.size := by have := b1.size; have := GS.out; omega
    clear b1
    go_wp2_with fail
    refine (CH.out none 0 0 [] 7 w1).mono ?_
    rintro e w2 ⟨v, rfl, hc2, b2⟩
    obtain ⟨xa, xn, xc, rfl⟩ : ∃ a n c, v = .slice a n c := by
      rcases hc2 with ⟨h, _⟩ | ⟨h, _⟩
      · exact ⟨_, _, _, h⟩
      · exact ⟨_, _, _, h⟩
    obtain ⟨q0, q1, q2, q3, q4⟩ := cells5 (hkeep G1'.out b2)
    obtain ⟨qf0, qf1, qf2, qf3, qf4⟩ := frozen5 (hkeep G1'.out b2)
    have HC2 := Lib.hid hc2
    have B2 := Lib.hid (B1.out.trans (b2.mono B1.out.size))
    clear hc2 b2
    unfold dkVal
    go_wp2_with fail
    refine bodyPost_ret (v := .tuple #[.agg #[.slice xa xn xc, .int .i64 (change D [] 7).1.c, .bool (change D [] 7).1.a, .int .i64 (change D [] 7).1.l, .bool (change D [] 7).1.x], .int .i64 (change D [] 7).2]) (by simp [results, Try.results36, go_sem, q0, q1, q2, q3, q4]) rfl ?_
    refine ⟨xa, xn, xc, rfl, ?_, bel_set5 B2.out (Nat.le_succ _) _ _ _ _ _⟩
    rcases HC2.out with ⟨h1, h2⟩ | ⟨h1, h2, _⟩
    · exact .inl ⟨h1, h2⟩
    · rw [h1, h2]
      exact .inr (OwnL.nil _ _)
  · rw [hg]
    dsimp only
    simp only [hf] at F
    unfold dkVal at F ⊢
    replace F := Lib.hid F
    have hil : i ≤ 1000000 := by have := hS.n; omega
    clear hf hg hi
    go_enter Try.func36, Try.ntmps36
    go_wp2_with fail
    generalize World.alloc (World.alloc w _) _ = w0 at G0 G1 GB GS ⊢
    refine (F.out w0 (HV.out.keep GB.out)).mono ?_
    rintro e w1 ⟨rfl, b1⟩
    obtain ⟨p0, p1, p2, p3, p4⟩ := cells5 (hkeep G0.out b1)
    have G0' := Lib.hid (hkeep (W := w1) (W' := w1.drew) (hkeep G0.out b1) (Below.refl _ _).drew)
    have G1' := Lib.hid (hkeep (W := w1) (W' := w1.drew) (hkeep G1.out b1) (Below.refl _ _).drew)
    have B1 := Lib.hid (show Below w.heap.size w w1.drew from (GB.out.trans (b1.mono (by have := GS.out; omega))).drew)
    have hs1 : w.heap.size + 1 < w1.heap.size := by have := b1.size; have := GS.out; omega
    have WO0 := Lib.hid (WO.out w1.drew (HV.out.keep B1.out))
    clear b1 WO
    go_wp2_with fail
    go_region_with (first | ((with_reducible refine WO0.out.mono ?_); rintro e w4 ⟨lv, rfl, ho4, b4⟩; obtain ⟨ga, gn, gc, rfl⟩ := own_slice ho4; have HO4 := Lib.hid ho4; obtain ⟨z0, z1, z2, z3, z4⟩ := cells5 (hkeep G0'.out b4); have G14 := Lib.hid (hkeep G1'.out b4); have B4 := Lib.hid (B1.out.trans (b4.mono B1.out.size)); have hs4 := b4.size; clear ho4 b4) | (go_at_call 55; refine (CH.out ga gn gc (without D.f n) 0 w4).mono ?_; rintro e w2 ⟨v, rfl, hc2, b2⟩; obtain ⟨xa, xn, xc, rfl⟩ : ∃ a n c, v = .slice a n c := (by rcases hc2 with ⟨h, _⟩ | ⟨h, _⟩ <;> exact ⟨_, _, _, h⟩); obtain ⟨q0, q1, q2, q3, q4⟩ := cells5 (hkeep G14.out b2); obtain ⟨qf0, qf1, qf2, qf3, qf4⟩ := frozen5 (hkeep G14.out b2); have HC2 := Lib.hid hc2; have HO2 := Lib.hid (HO4.out.keep b2); have B2 := Lib.hid (B4.out.trans (b2.mono B4.out.size)); clear hc2 b2; unfold dkVal))
    all_goals
      go_wp2_with fail
      refine bodyPost_ret (v := .tuple #[.agg #[.slice xa xn xc, .int .i64 (change D (without D.f n) 0).1.c, .bool (change D (without D.f n) 0).1.a, .int .i64 (change D (without D.f n) 0).1.l, .bool (change D (without D.f n) 0).1.x], .int .i64 (change D (without D.f n) 0).2]) (by simp [results, Try.results36, go_sem, q0, q1, q2, q3, q4]) rfl ?_
      refine ⟨xa, xn, xc, rfl, ?_, bel_set5 B2.out (Nat.le_succ _) _ _ _ _ _⟩
      rcases HC2.out with ⟨h1, h2⟩ | ⟨h1, h2, _⟩
      · exact .inl ⟨h1, h2⟩
      · refine .inr ?_
        rw [h1, h2]
        exact own_base (own_set5 HO2.out (k := w.heap.size + 1) hs1 _ _ _ _ _) B1.out.size

end Go.Proofs.Ytbkiecjbjehaoaa.Dsk
