/-
  What the document's Rename answers.
-/
import Derived.Test.YtbkiecjbjehaoaaDiskRef5
namespace Go.Proofs.Ytbkiecjbjehaoaa.Dsk
open Go.RowKit Go.Proofs.Ytbkiecjbjehaoaa.Dp

set_option maxRecDepth 100000 in
set_option maxHeartbeats 3200000 in
theorem rrename_any (fv : Value) (D : Dk) (n m : ByteArray) (w : World) (hv : IsL FL w fv D.f) (hS : Sm D) (hm : m.size ≤ 9223372036854775807) :
    Calls Try.prog 35 #[dkVal fv D, .string n, .string m] w (RkOut w fv D.f (rename D n m)) := by
  obtain ⟨fa, fn, fc, rfl⟩ : ∃ a n c, fv = .slice a n c := by obtain ⟨a, c, h, _⟩ := hv; exact ⟨a, _, c, h⟩
  have F := fun (W : World) (h : IsL FL W (.slice fa fn fc) D.f) => rfind_any (.slice fa fn fc) D n W h
  have CH := Lib.hid fun (ga : Option Addr) (gn gc : Nat) (l : List Fl) (own : Int) (W : World) => rchange_two fa ga fn fc gn gc D l own W hS.b hS.l0
  have WO := Lib.hid fun (W : World) (h : IsL FL W (.slice fa fn fc) D.f) => rwithout_any (.slice fa fn fc) D.f n W h (by have := hS.n; omega)
  have hwl : (without D.f n).length ≤ D.f.length := List.length_filter_le _ _
  have RW := Lib.hid fun (g : Fl) (ga : Option Addr) (gn gc : Nat) (W : World) (h : IsL FL W (.slice ga gn gc) (without D.f n)) => rwith_any (.slice ga gn gc) (without D.f n) g W h (hS.r.2.1.without n) (by have := hS.n; omega)
  have HIS := Lib.hid fun (W : World) (v : Value) (B : Nat) (h : OwnL FL W B v (without D.f n)) => h.is (by have := hS.n; unfold maxLen; omega) (fun x hx => hS.flb x (mem_without.1 hx).1)
  have M := fun W : World => named_any m W hm
  have HFB := Lib.hid hS.flb
  have HFN := Lib.hid hv.len.1
  have HV := Lib.hid hv
  obtain ⟨g0, g1, gb, gs⟩ := boxes2 w #[.slice fa fn fc, .int .i64 D.c, .bool D.a, .int .i64 D.l, .bool D.x] #[.slice none 0 0, .int .i64 0, .bool false, .int .i64 0, .bool false] 24 24
  have G0 := Lib.hid g0
  have G1 := Lib.hid g1
  have GB := Lib.hid gb
  have GS := Lib.hid gs
  clear g0 g1 gb gs hv hwl
  unfold rename
  rcases @find_get D.f n with ⟨hf, hg⟩ | ⟨i, hi, hf, hg⟩
  · rw [hg]
    dsimp only
    simp only [hf] at F
    unfold dkVal at F ⊢
    replace F := Lib.hid F
    clear hf hg M
    go_enter Try.func35, Try.ntmps35
    go_wp2_with fail
    generalize World.alloc (World.alloc w _) _ = w0 at G0 G1 GB GS ⊢
    refine (F.out w0 (HV.out.keep GB.out)).mono ?_
    rintro e w1 ⟨rfl, b1⟩
    obtain ⟨p0, p1, p2, p3, p4⟩ := cells5 (hkeep G0.out b1)
    have G1' := Lib.hid (hkeep G1.out b1)
    have B1 := Lib.hid (GB.out.trans (b1.mono (by have := GS.out; omega)))
    have hs1 : w.heap.size + 1 < w1.heap.size := by have := b1.size; have := GS.out; omega
    clear b1
    go_wp2_with fail
    refine (CH.out none 0 0 [] 7 w1).mono ?_
    rintro e w2 ⟨v, rfl, hc2, b2⟩
    obtain ⟨xa, xn, xc, rfl⟩ : ∃ a n c, v = .slice a n c := by
      rcases hc2 with ⟨h, _⟩ | ⟨h, _⟩
      · exact ⟨_, _, _, h⟩
      · exact ⟨_, _, _, h⟩
    obtain ⟨q0, q1, q2, q3, q4⟩ := cells5 (hkeep G1'.out b2)
    obtain ⟨qf0, qf1, qf2, qf3, qf4⟩ := frozen5 (hkeep G1'.out b2)
    have HC2 := Lib.hid hc2
    have B2 := Lib.hid (B1.out.trans (b2.mono B1.out.size))
    clear hc2 b2
    unfold dkVal
    go_wp2_with fail
    refine bodyPost_ret (v := .tuple #[.agg #[.slice xa xn xc, .int .i64 (change D [] 7).1.c, .bool (change D [] 7).1.a, .int .i64 (change D [] 7).1.l, .bool (change D [] 7).1.x], .int .i64 (change D [] 7).2]) (by simp [results, Try.results35, go_sem, q0, q1, q2, q3, q4]) rfl ?_
    refine ⟨xa, xn, xc, rfl, ?_, bel_set5 B2.out (Nat.le_succ _) _ _ _ _ _⟩
    rcases HC2.out with ⟨h1, h2⟩ | ⟨h1, h2, _⟩
    · exact .inl ⟨h1, h2⟩
    · rw [h1, h2]
      exact .inr (OwnL.nil _ _)
  · obtain ⟨f, hfe⟩ : ∃ f, D.f.getD i zero = f := ⟨_, rfl⟩
    rw [hg]
    dsimp only
    simp only [hf] at F
    have hin : i < fn := by rw [HFN.out]; exact hi
    have hfb : FlB f := by rw [← hfe, getD_fl hi]; exact HFB.out _ (List.getElem_mem hi)
    have hd := hfb.2.1
    have hil : fn ≤ 1000000 := by have := hS.n; have := HFN.out; omega
    unfold dkVal at F ⊢
    replace F := Lib.hid F
    rw [hfe]
    by_cases hN : Named m
    · rw [if_neg (fun h => h hN)]
      rw [decide_eq_true hN] at M
      replace M := Lib.hid M
      clear hf hg hi hfb
      go_enter Try.func35, Try.ntmps35
      go_wp2_with fail
      generalize World.alloc (World.alloc w _) _ = w0 at G0 G1 GB GS ⊢
      refine (F.out w0 (HV.out.keep GB.out)).mono ?_
      rintro e w1 ⟨rfl, b1⟩
      obtain ⟨p0, p1, p2, p3, p4⟩ := cells5 (hkeep G0.out b1)
      have B1a := GB.out.trans (b1.mono (by have := GS.out; omega))
      obtain ⟨g, off, rfl, c0, c1, c2⟩ := isL_at (HV.out.keep B1a) hin
      rw [hfe] at c0 c1 c2
      have hs1 : w.heap.size + 1 < w1.heap.size := by have := b1.size; have := GS.out; omega
      have hgl := block_lt_of_cell c0
      have G0w := halloc (o := .cells #[.string m, .string f.d, .int .i64 f.s] 43) (hkeep G0.out b1)
      have G1w := halloc (o := .cells #[.string m, .string f.d, .int .i64 f.s] 43) (hkeep G1.out b1)
      have GFw := Lib.hid (heap_alloc_new w1 (.cells #[.string m, .string f.d, .int .i64 f.s] 43))
      have B1w := B1a.alloc B1a.size (.cells #[.string m, .string f.d, .int .i64 f.s] 43)
      have hsw : (w1.alloc (.cells #[.string m, .string f.d, .int .i64 f.s] 43)).heap.size = w1.heap.size + 1 := by simp
      have G0' := Lib.hid (hkeep G0w (Below.refl _ _).drew)
      have G1' := Lib.hid (hkeep G1w (Below.refl _ _).drew)
      have B1 := Lib.hid B1w.drew
      have WO0 := Lib.hid (WO.out (w1.alloc (.cells #[.string m, .string f.d, .int .i64 f.s] 43)).drew (HV.out.keep B1.out))
      clear b1 WO B1a G0w G1w B1w hfe
      go_wp2_with fail
      refine (M.out w1).mono ?_
      rintro e w1' ⟨rfl, rfl⟩
      go_wp2_with fail
      generalize w1.alloc _ = w3 at G0' G1' GFw B1 WO0 hsw ⊢
      obtain ⟨r0, r1, r2⟩ := cells3 GFw.out
      obtain ⟨y0, y1, y2, y3, y4⟩ := cells5 (show w3.heap[w.heap.size]? = _ from G0'.out)
      have GF' := Lib.hid (hkeep GFw.out (Below.refl _ _).drew)
      replace hs1 : w.heap.size + 1 < w3.heap.size := by omega
      clear p0 p1 p2 p3 p4 c0 c1 c2
      go_region_with (first | ((with_reducible refine WO0.out.mono ?_); rintro e w4 ⟨lv, rfl, ho4, b4⟩; obtain ⟨ga, gn, gc, rfl⟩ := own_slice ho4; have HI4 := Lib.hid (HIS.out _ _ _ ho4); have G04 := Lib.hid (hkeep G0'.out b4); obtain ⟨z0, z1, z2, z3, z4⟩ := cells5 G04.out; obtain ⟨s0, s1, s2⟩ := cells3 (hkeep GF'.out b4); have G14 := Lib.hid (hkeep G1'.out b4); have B4 := Lib.hid (B1.out.trans (b4.mono B1.out.size)); have hs4 := b4.size; clear ho4 b4) | (go_at_call 56; refine (RW.out ⟨m, f.d, f.s⟩ ga gn gc w4 HI4.out).mono ?_; rintro e w5 ⟨lv, rfl, ho5, b5⟩; obtain ⟨ka, kn, kc, rfl⟩ := own_slice ho5; have HO5 := Lib.hid ho5; obtain ⟨u0, u1, u2, u3, u4⟩ := cells5 (hkeep G04.out b5); have G15 := Lib.hid (hkeep G14.out b5); have B5 := Lib.hid (B4.out.trans (b5.mono B4.out.size)); have hs5 := b5.size; clear ho5 b5) | (go_at_call 55; refine (CH.out ka kn kc (withF (without D.f n) ⟨m, f.d, f.s⟩) 0 w5).mono ?_; rintro e w2 ⟨v, rfl, hc2, b2⟩; obtain ⟨xa, xn, xc, rfl⟩ : ∃ a n c, v = .slice a n c := (by rcases hc2 with ⟨h, _⟩ | ⟨h, _⟩ <;> exact ⟨_, _, _, h⟩); obtain ⟨q0, q1, q2, q3, q4⟩ := cells5 (hkeep G15.out b2); obtain ⟨qf0, qf1, qf2, qf3, qf4⟩ := frozen5 (hkeep G15.out b2); have HC2 := Lib.hid hc2; have HO2 := Lib.hid (HO5.out.keep b2); have B2 := Lib.hid (B5.out.trans (b2.mono B5.out.size)); clear hc2 b2; unfold dkVal))
      all_goals
        go_wp2_with fail
        refine bodyPost_ret (v := .tuple #[.agg #[.slice xa xn xc, .int .i64 (change D (withF (without D.f n) ⟨m, f.d, f.s⟩) 0).1.c, .bool (change D (withF (without D.f n) ⟨m, f.d, f.s⟩) 0).1.a, .int .i64 (change D (withF (without D.f n) ⟨m, f.d, f.s⟩) 0).1.l, .bool (change D (withF (without D.f n) ⟨m, f.d, f.s⟩) 0).1.x], .int .i64 (change D (withF (without D.f n) ⟨m, f.d, f.s⟩) 0).2]) (by simp [results, Try.results35, go_sem, q0, q1, q2, q3, q4]) rfl ?_
        refine ⟨xa, xn, xc, rfl, ?_, bel_set5 B2.out (Nat.le_succ _) _ _ _ _ _⟩
        rcases HC2.out with ⟨h1, h2⟩ | ⟨h1, h2, _⟩
        · exact .inl ⟨h1, h2⟩
        · refine .inr ?_
          rw [h1, h2]
          exact own_base (own_set5 HO2.out (k := w.heap.size + 1) (by have := hs4; have h3 : w3.drew.heap.size = w3.heap.size := rfl; omega) _ _ _ _ _) B4.out.size
    · rw [if_pos hN]
      rw [decide_eq_false hN] at M
      replace M := Lib.hid M
      clear hf hg hi hfb
      go_enter Try.func35, Try.ntmps35
      go_wp2_with fail
      generalize World.alloc (World.alloc w _) _ = w0 at G0 G1 GB GS ⊢
      refine (F.out w0 (HV.out.keep GB.out)).mono ?_
      rintro e w1 ⟨rfl, b1⟩
      obtain ⟨p0, p1, p2, p3, p4⟩ := cells5 (hkeep G0.out b1)
      have G1' := Lib.hid (hkeep G1.out b1)
      have B1 := Lib.hid (GB.out.trans (b1.mono (by have := GS.out; omega)))
      have hs1 : w.heap.size + 1 < w1.heap.size := by have := b1.size; have := GS.out; omega
      clear b1
      go_wp2_with fail
      refine (M.out w1).mono ?_
      rintro e w1' ⟨rfl, rfl⟩
      go_wp2_with fail
      refine (CH.out none 0 0 [] 1 w1).mono ?_
      rintro e w2 ⟨v, rfl, hc2, b2⟩
      obtain ⟨xa, xn, xc, rfl⟩ : ∃ a n c, v = .slice a n c := by
        rcases hc2 with ⟨h, _⟩ | ⟨h, _⟩
        · exact ⟨_, _, _, h⟩
        · exact ⟨_, _, _, h⟩
      obtain ⟨q0, q1, q2, q3, q4⟩ := cells5 (hkeep G1'.out b2)
      obtain ⟨qf0, qf1, qf2, qf3, qf4⟩ := frozen5 (hkeep G1'.out b2)
      have HC2 := Lib.hid hc2
      have B2 := Lib.hid (B1.out.trans (b2.mono B1.out.size))
      clear hc2 b2
      unfold dkVal
      go_wp2_with fail
      refine bodyPost_ret (v := .tuple #[.agg #[.slice xa xn xc, .int .i64 (change D [] 1).1.c, .bool (change D [] 1).1.a, .int .i64 (change D [] 1).1.l, .bool (change D [] 1).1.x], .int .i64 (change D [] 1).2]) (by simp [results, Try.results35, go_sem, q0, q1, q2, q3, q4]) rfl ?_
      refine ⟨xa, xn, xc, rfl, ?_, bel_set5 B2.out (Nat.le_succ _) _ _ _ _ _⟩
      rcases HC2.out with ⟨h1, h2⟩ | ⟨h1, h2, _⟩
      · exact .inl ⟨h1, h2⟩
      · rw [h1, h2]
        exact .inr (OwnL.nil _ _)

end Go.Proofs.Ytbkiecjbjehaoaa.Dsk
