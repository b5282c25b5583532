/-
  What the document's Create answers.
-/
import Derived.Test.YtbkiecjbjehaoaaDiskRef4
namespace Go.Proofs.Ytbkiecjbjehaoaa.Dsk
open Go.RowKit Go.Proofs.Ytbkiecjbjehaoaa.Dp

set_option maxRecDepth 100000 in
set_option maxHeartbeats 3200000 in
theorem rcreate_any (fv : Value) (D : Dk) (n : ByteArray) (w : World) (hv : IsL FL w fv D.f) (hS : Sm D) (hn : n.size ≤ 9223372036854775807) :
    Calls Try.prog 31 #[dkVal fv D, .string n] w (RkOut w fv D.f (create D n)) := by
  obtain ⟨fa, fn, fc, rfl⟩ : ∃ a n c, fv = .slice a n c := by obtain ⟨a, c, h, _⟩ := hv; exact ⟨a, _, c, h⟩
  have F := fun (W : World) (h : IsL FL W (.slice fa fn fc) D.f) => rfind_any (.slice fa fn fc) D n W h
  have CH := Lib.hid fun (ga : Option Addr) (gn gc : Nat) (l : List Fl) (own : Int) (W : World) => rchange_two fa ga fn fc gn gc D l own W hS.b hS.l0
  have WO := Lib.hid fun (W : World) (h : IsL FL W (.slice fa fn fc) D.f) => rwith_any (.slice fa fn fc) D.f ⟨n, ⟨#[]⟩, 0⟩ W h hS.r.2.1 hS.n
  have M := fun W : World => named_any n W hn
  have HV := Lib.hid hv
  obtain ⟨g0, g1, gb, gs⟩ := boxes2 w #[.slice fa fn fc, .int .i64 D.c, .bool D.a, .int .i64 D.l, .bool D.x] #[.slice none 0 0, .int .i64 0, .bool false, .int .i64 0, .bool false] 24 24
  have G0 := Lib.hid g0
  have G1 := Lib.hid g1
  have GB := Lib.hid gb
  have GS := Lib.hid gs
  clear g0 g1 gb gs hv
  unfold create
  by_cases hN : Named n
  · rw [if_neg (fun h => h hN)]
    rw [decide_eq_true hN] at M
    replace M := Lib.hid M
    rcases @find_get D.f n with ⟨hf, hg⟩ | ⟨i, hi, hf, hg⟩
    · rw [hg, if_neg (by simp)]
      simp only [hf] at F
      unfold dkVal at F ⊢
      replace F := Lib.hid F
      clear hf hg
      go_enter Try.func31, Try.ntmps31
      go_wp2_with fail
      generalize World.alloc (World.alloc w _) _ = w0 at G0 G1 GB GS ⊢
      refine (M.out w0).mono ?_
      rintro e w1 ⟨rfl, rfl⟩
      obtain ⟨p0, p1, p2, p3, p4⟩ := cells5 G0.out
      go_wp2_with fail
      clear p0 p1 p2 p3 p4
      refine (F.out w0 (HV.out.keep GB.out)).mono ?_
      rintro e w1 ⟨rfl, b1⟩
      obtain ⟨p0, p1, p2, p3, p4⟩ := cells5 (hkeep G0.out b1)
      have G0' := Lib.hid (hkeep (W := w1) (W' := w1.drew) (hkeep G0.out b1) (Below.refl _ _).drew)
      have G1' := Lib.hid (hkeep (W := w1) (W' := w1.drew) (hkeep G1.out b1) (Below.refl _ _).drew)
      have B1 := Lib.hid (show Below w.heap.size w w1.drew from (GB.out.trans (b1.mono (by have := GS.out; omega))).drew)
      have hs1 : w.heap.size + 1 < w1.heap.size := by have := b1.size; have := GS.out; omega
      have WO0 := Lib.hid (WO.out w1.drew (HV.out.keep B1.out))
      clear b1 WO
      go_wp2_with fail
      go_region_with (first | ((with_reducible refine WO0.out.mono ?_); rintro e w4 ⟨lv, rfl, ho4, b4⟩; obtain ⟨ga, gn, gc, rfl⟩ := own_slice ho4; have HO4 := Lib.hid ho4; obtain ⟨z0, z1, z2, z3, z4⟩ := cells5 (hkeep G0'.out b4); have G14 := Lib.hid (hkeep G1'.out b4); have B4 := Lib.hid (B1.out.trans (b4.mono B1.out.size)); have hs4 := b4.size; clear ho4 b4) | (go_at_call 55; refine (CH.out ga gn gc (withF D.f ⟨n, ⟨#[]⟩, 0⟩) 0 w4).mono ?_; rintro e w2 ⟨v, rfl, hc2, b2⟩; obtain ⟨xa, xn, xc, rfl⟩ : ∃ a n c, v = .slice a n c := (by rcases hc2 with ⟨h, _⟩ | ⟨h, _⟩ <;> exact ⟨_, _, _, h⟩); obtain ⟨q0, q1, q2, q3, q4⟩ := cells5 (hkeep G14.out b2); obtain ⟨qf0, qf1, qf2, qf3, qf4⟩ := frozen5 (hkeep G14.out b2); have HC2 := Lib.hid hc2; have HO2 := Lib.hid (HO4.out.keep b2); have B2 := Lib.hid (B4.out.trans (b2.mono B4.out.size)); clear hc2 b2; unfold dkVal))
      all_goals
        go_wp2_with fail
        refine bodyPost_ret (v := .tuple #[.agg #[.slice xa xn xc, .int .i64 (change D (withF D.f ⟨n, ⟨#[]⟩, 0⟩) 0).1.c, .bool (change D (withF D.f ⟨n, ⟨#[]⟩, 0⟩) 0).1.a, .int .i64 (change D (withF D.f ⟨n, ⟨#[]⟩, 0⟩) 0).1.l, .bool (change D (withF D.f ⟨n, ⟨#[]⟩, 0⟩) 0).1.x], .int .i64 (change D (withF D.f ⟨n, ⟨#[]⟩, 0⟩) 0).2]) (by simp [results, Try.results31, go_sem, q0, q1, q2, q3, q4]) rfl ?_
        refine ⟨xa, xn, xc, rfl, ?_, bel_set5 B2.out (Nat.le_succ _) _ _ _ _ _⟩
        rcases HC2.out with ⟨h1, h2⟩ | ⟨h1, h2, _⟩
        · exact .inl ⟨h1, h2⟩
        · refine .inr ?_
          rw [h1, h2]
          exact own_base (own_set5 HO2.out (k := w.heap.size + 1) hs1 _ _ _ _ _) B1.out.size
    · rw [hg, if_pos (by rfl)]
      simp only [hf] at F
      have hil : i ≤ 1000000 := by have := hS.n; omega
      unfold dkVal at F ⊢
      replace F := Lib.hid F
      clear hf hg
      go_enter Try.func31, Try.ntmps31
      go_wp2_with fail
      generalize World.alloc (World.alloc w _) _ = w0 at G0 G1 GB GS ⊢
      refine (M.out w0).mono ?_
      rintro e w1 ⟨rfl, rfl⟩
      obtain ⟨p0, p1, p2, p3, p4⟩ := cells5 G0.out
      go_wp2_with fail
      clear p0 p1 p2 p3 p4
      refine (F.out w0 (HV.out.keep GB.out)).mono ?_
      rintro e w1 ⟨rfl, b1⟩
      obtain ⟨p0, p1, p2, p3, p4⟩ := cells5 (hkeep G0.out b1)
      have G1' := Lib.hid (hkeep G1.out b1)
      have B1 := Lib.hid (GB.out.trans (b1.mono (by have := GS.out; omega)))
      have hs1 : w.heap.size + 1 < w1.heap.size := by have := b1.size; have := GS.out; omega
      clear b1
      go_wp2_with fail
      refine (CH.out none 0 0 [] 8 w1).mono ?_
      rintro e w2 ⟨v, rfl, hc2, b2⟩
      obtain ⟨xa, xn, xc, rfl⟩ : ∃ a n c, v = .slice a n c := by
        rcases hc2 with ⟨h, _⟩ | ⟨h, _⟩
        · exact ⟨_, _, _, h⟩
        · exact ⟨_, _, _, h⟩
      obtain ⟨q0, q1, q2, q3, q4⟩ := cells5 (hkeep G1'.out b2)
      obtain ⟨qf0, qf1, qf2, qf3, qf4⟩ := frozen5 (hkeep G1'.out b2)
      have HC2 := Lib.hid hc2
      have B2 := Lib.hid (B1.out.trans (b2.mono B1.out.size))
      clear hc2 b2
      unfold dkVal
      go_wp2_with fail
      refine bodyPost_ret (v := .tuple #[.agg #[.slice xa xn xc, .int .i64 (change D [] 8).1.c, .bool (change D [] 8).1.a, .int .i64 (change D [] 8).1.l, .bool (change D [] 8).1.x], .int .i64 (change D [] 8).2]) (by simp [results, Try.results31, go_sem, q0, q1, q2, q3, q4]) rfl ?_
      refine ⟨xa, xn, xc, rfl, ?_, bel_set5 B2.out (Nat.le_succ _) _ _ _ _ _⟩
      rcases HC2.out with ⟨h1, h2⟩ | ⟨h1, h2, _⟩
      · exact .inl ⟨h1, h2⟩
      · rw [h1, h2]
        exact .inr (OwnL.nil _ _)
  · rw [if_pos hN]
    rw [decide_eq_false hN] at M
    replace M := Lib.hid M
    unfold dkVal at F ⊢
    clear F
    go_enter Try.func31, Try.ntmps31
    go_wp2_with fail
    generalize World.alloc (World.alloc w _) _ = w0 at G0 G1 GB GS ⊢
    refine (M.out w0).mono ?_
    rintro e w1 ⟨rfl, rfl⟩
    obtain ⟨p0, p1, p2, p3, p4⟩ := cells5 G0.out
    have G1' := Lib.hid G1.out
    have B1 := Lib.hid GB.out
    go_wp2_with fail
    refine (CH.out none 0 0 [] 1 w0).mono ?_
    rintro e w2 ⟨v, rfl, hc2, b2⟩
    obtain ⟨xa, xn, xc, rfl⟩ : ∃ a n c, v = .slice a n c := by
      rcases hc2 with ⟨h, _⟩ | ⟨h, _⟩
      · exact ⟨_, _, _, h⟩
      · exact ⟨_, _, _, h⟩
    obtain ⟨q0, q1, q2, q3, q4⟩ := cells5 (hkeep G1'.out b2)
    obtain ⟨qf0, qf1, qf2, qf3, qf4⟩ := frozen5 (hkeep G1'.out b2)
    have HC2 := Lib.hid hc2
    have B2 := Lib.hid (B1.out.trans (b2.mono B1.out.size))
    clear hc2 b2
    unfold dkVal
    go_wp2_with fail
    refine bodyPost_ret (v := .tuple #[.agg #[.slice xa xn xc, .int .i64 (change D [] 1).1.c, .bool (change D [] 1).1.a, .int .i64 (change D [] 1).1.l, .bool (change D [] 1).1.x], .int .i64 (change D [] 1).2]) (by simp [results, Try.results31, go_sem, q0, q1, q2, q3, q4]) rfl ?_
    refine ⟨xa, xn, xc, rfl, ?_, bel_set5 B2.out (Nat.le_succ _) _ _ _ _ _⟩
    rcases HC2.out with ⟨h1, h2⟩ | ⟨h1, h2, _⟩
    · exact .inl ⟨h1, h2⟩
    · rw [h1, h2]
      exact .inr (OwnL.nil _ _)

end Go.Proofs.Ytbkiecjbjehaoaa.Dsk
