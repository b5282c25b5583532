/-
  What the document's Cut answers.
-/
import Derived.Test.YtbkiecjbjehaoaaDiskRef5
namespace Go.Proofs.Ytbkiecjbjehaoaa.Dsk
open Go.RowKit Go.Proofs.Ytbkiecjbjehaoaa.Dp

set_option maxRecDepth 100000 in
set_option maxHeartbeats 3200000 in
theorem rcut_any (fv : Value) (D : Dk) (n : ByteArray) (k : Int) (w : World) (hv : IsL FL w fv D.f) (hS : Sm D) (hk1 : -9223372036854775808 ≤ k) (hk2 : k ≤ 9223372036854775807) :
    Calls Try.prog 34 #[dkVal fv D, .string n, .int .i64 k] w (RkOut w fv D.f (cut D n k)) := by
  obtain ⟨fa, fn, fc, rfl⟩ : ∃ a n c, fv = .slice a n c := by obtain ⟨a, c, h, _⟩ := hv; exact ⟨a, _, c, h⟩
  have F := fun (W : World) (h : IsL FL W (.slice fa fn fc) D.f) => rfind_any (.slice fa fn fc) D n W h
  have CH := Lib.hid fun (ga : Option Addr) (gn gc : Nat) (l : List Fl) (own : Int) (W : World) => rchange_two fa ga fn fc gn gc D l own W hS.b hS.l0
  have WO := Lib.hid fun (g : Fl) (W : World) (h : IsL FL W (.slice fa fn fc) D.f) => rwith_any (.slice fa fn fc) D.f g W h hS.r.2.1 hS.n
  have HFB := Lib.hid hS.flb
  have HFN := Lib.hid hv.len.1
  have HV := Lib.hid hv
  obtain ⟨g0, g1, gb, gs⟩ := boxes2 w #[.slice fa fn fc, .int .i64 D.c, .bool D.a, .int .i64 D.l, .bool D.x] #[.slice none 0 0, .int .i64 0, .bool false, .int .i64 0, .bool false] 24 24
  have G0 := Lib.hid g0
  have G1 := Lib.hid g1
  have GB := Lib.hid gb
  have GS := Lib.hid gs
  clear g0 g1 gb gs hv
  unfold cut
  rcases @find_get D.f n with ⟨hf, hg⟩ | ⟨i, hi, hf, hg⟩
  · rw [hg]
    dsimp only
    simp only [hf] at F
    unfold dkVal at F ⊢
    replace F := Lib.hid F
    clear hf hg
    go_enter Try.func34, Try.ntmps34
    go_wp2_with fail
    generalize World.alloc (World.alloc w _) _ = w0 at G0 G1 GB GS ⊢
    refine (F.out w0 (HV.out.keep GB.out)).mono ?_
    rintro e w1 ⟨rfl, b1⟩
    obtain ⟨p0, p1, p2, p3, p4⟩ := cells5 (hkeep G0.out b1)
    have G1' := Lib.hid (hkeep G1.out b1)
    have B1 := Lib.hid (GB.out.trans (b1.mono (by have := GS.out; omega)))
    have hs1 : w.heap.size + 1 < w1.heap.size := by have := b1.size; have := GS.out; omega
    clear b1
    go_wp2_with fail
    refine (CH.out none 0 0 [] 7 w1).mono ?_
    rintro e w2 ⟨v, rfl, hc2, b2⟩
    obtain ⟨xa, xn, xc, rfl⟩ : ∃ a n c, v = .slice a n c := by
      rcases hc2 with ⟨h, _⟩ | ⟨h, _⟩
      · exact ⟨_, _, _, h⟩
      · exact ⟨_, _, _, h⟩
    obtain ⟨q0, q1, q2, q3, q4⟩ := cells5 (hkeep G1'.out b2)
    obtain ⟨qf0, qf1, qf2, qf3, qf4⟩ := frozen5 (hkeep G1'.out b2)
    have HC2 := Lib.hid hc2
    have B2 := Lib.hid (B1.out.trans (b2.mono B1.out.size))
    clear hc2 b2
    unfold dkVal
    go_wp2_with fail
    refine bodyPost_ret (v := .tuple #[.agg #[.slice xa xn xc, .int .i64 (change D [] 7).1.c, .bool (change D [] 7).1.a, .int .i64 (change D [] 7).1.l, .bool (change D [] 7).1.x], .int .i64 (change D [] 7).2]) (by simp [results, Try.results34, go_sem, q0, q1, q2, q3, q4]) rfl ?_
    refine ⟨xa, xn, xc, rfl, ?_, bel_set5 B2.out (Nat.le_succ _) _ _ _ _ _⟩
    rcases HC2.out with ⟨h1, h2⟩ | ⟨h1, h2, _⟩
    · exact .inl ⟨h1, h2⟩
    · rw [h1, h2]
      exact .inr (OwnL.nil _ _)
  · obtain ⟨f, hfe⟩ : ∃ f, D.f.getD i zero = f := ⟨_, rfl⟩
    rw [hg]
    dsimp only
    simp only [hf] at F
    have hin : i < fn := by rw [HFN.out]; exact hi
    have hfb : FlB f := by rw [← hfe, getD_fl hi]; exact HFB.out _ (List.getElem_mem hi)
    have hd := hfb.2.1
    have hil : fn ≤ 1000000 := by have := hS.n; have := HFN.out; omega
    unfold dkVal at F ⊢
    replace F := Lib.hid F
    rw [hfe]
    by_cases hx : k < 0 ∨ (f.d.size : Int) < k
    · rw [if_pos hx]
      rcases hx with hx | hx
      · skip
        clear hf hg hi hfb
        go_enter Try.func34, Try.ntmps34
        go_wp2_with fail
        generalize World.alloc (World.alloc w _) _ = w0 at G0 G1 GB GS ⊢
        refine (F.out w0 (HV.out.keep GB.out)).mono ?_
        rintro e w1 ⟨rfl, b1⟩
        obtain ⟨p0, p1, p2, p3, p4⟩ := cells5 (hkeep G0.out b1)
        have B1a := GB.out.trans (b1.mono (by have := GS.out; omega))
        obtain ⟨g, off, rfl, c0, c1, c2⟩ := isL_at (HV.out.keep B1a) hin
        rw [hfe] at c0 c1 c2
        have hs1 : w.heap.size + 1 < w1.heap.size := by have := b1.size; have := GS.out; omega
        have hs0 : w.heap.size < w1.heap.size := by omega
        have hgl := block_lt_of_cell c0
        have G0w := halloc (o := .cells #[.string f.n, .string f.d, .int .i64 f.s] 43) (hkeep G0.out b1)
        have G1w := halloc (o := .cells #[.string f.n, .string f.d, .int .i64 f.s] 43) (hkeep G1.out b1)
        have GFw := Lib.hid (heap_alloc_new w1 (.cells #[.string f.n, .string f.d, .int .i64 f.s] 43))
        have B1w := B1a.alloc B1a.size (.cells #[.string f.n, .string f.d, .int .i64 f.s] 43)
        have hsw : (w1.alloc (.cells #[.string f.n, .string f.d, .int .i64 f.s] 43)).heap.size = w1.heap.size + 1 := by simp
        have G0' := Lib.hid G0w
        have G1' := Lib.hid G1w
        have B1 := Lib.hid B1w
        clear b1 WO B1a G0w G1w B1w hfe
        go_wp2_with fail
        generalize w1.alloc _ = w3 at G0' G1' GFw B1 hsw ⊢
        refine (CH.out none 0 0 [] 6 w3).mono ?_
        rintro e w2 ⟨v, rfl, hc2, b2⟩
        obtain ⟨xa, xn, xc, rfl⟩ : ∃ a n c, v = .slice a n c := by
          rcases hc2 with ⟨h, _⟩ | ⟨h, _⟩
          · exact ⟨_, _, _, h⟩
          · exact ⟨_, _, _, h⟩
        obtain ⟨q0, q1, q2, q3, q4⟩ := cells5 (hkeep G1'.out b2)
        obtain ⟨qf0, qf1, qf2, qf3, qf4⟩ := frozen5 (hkeep G1'.out b2)
        have HC2 := Lib.hid hc2
        have B2 := Lib.hid (B1.out.trans (b2.mono B1.out.size))
        clear hc2 b2
        unfold dkVal
        go_wp2_with fail
        refine bodyPost_ret (v := .tuple #[.agg #[.slice xa xn xc, .int .i64 (change D [] 6).1.c, .bool (change D [] 6).1.a, .int .i64 (change D [] 6).1.l, .bool (change D [] 6).1.x], .int .i64 (change D [] 6).2]) (by simp [results, Try.results34, go_sem, q0, q1, q2, q3, q4]) rfl ?_
        refine ⟨xa, xn, xc, rfl, ?_, bel_set5 B2.out (Nat.le_succ _) _ _ _ _ _⟩
        rcases HC2.out with ⟨h1, h2⟩ | ⟨h1, h2, _⟩
        · exact .inl ⟨h1, h2⟩
        · rw [h1, h2]
          exact .inr (OwnL.nil _ _)
      · have hx0 : ¬ (k < 0) := by omega
        clear hf hg hi hfb
        go_enter Try.func34, Try.ntmps34
        go_wp2_with fail
        generalize World.alloc (World.alloc w _) _ = w0 at G0 G1 GB GS ⊢
        refine (F.out w0 (HV.out.keep GB.out)).mono ?_
        rintro e w1 ⟨rfl, b1⟩
        obtain ⟨p0, p1, p2, p3, p4⟩ := cells5 (hkeep G0.out b1)
        have B1a := GB.out.trans (b1.mono (by have := GS.out; omega))
        obtain ⟨g, off, rfl, c0, c1, c2⟩ := isL_at (HV.out.keep B1a) hin
        rw [hfe] at c0 c1 c2
        have hs1 : w.heap.size + 1 < w1.heap.size := by have := b1.size; have := GS.out; omega
        have hs0 : w.heap.size < w1.heap.size := by omega
        have hgl := block_lt_of_cell c0
        have G0w := halloc (o := .cells #[.string f.n, .string f.d, .int .i64 f.s] 43) (hkeep G0.out b1)
        have G1w := halloc (o := .cells #[.string f.n, .string f.d, .int .i64 f.s] 43) (hkeep G1.out b1)
        have GFw := Lib.hid (heap_alloc_new w1 (.cells #[.string f.n, .string f.d, .int .i64 f.s] 43))
        have B1w := B1a.alloc B1a.size (.cells #[.string f.n, .string f.d, .int .i64 f.s] 43)
        have hsw : (w1.alloc (.cells #[.string f.n, .string f.d, .int .i64 f.s] 43)).heap.size = w1.heap.size + 1 := by simp
        have G0' := Lib.hid G0w
        have G1' := Lib.hid G1w
        have B1 := Lib.hid B1w
        clear b1 WO B1a G0w G1w B1w hfe
        go_wp2_with fail
        generalize w1.alloc _ = w3 at G0' G1' GFw B1 hsw ⊢
        refine (CH.out none 0 0 [] 6 w3).mono ?_
        rintro e w2 ⟨v, rfl, hc2, b2⟩
        obtain ⟨xa, xn, xc, rfl⟩ : ∃ a n c, v = .slice a n c := by
          rcases hc2 with ⟨h, _⟩ | ⟨h, _⟩
          · exact ⟨_, _, _, h⟩
          · exact ⟨_, _, _, h⟩
        obtain ⟨q0, q1, q2, q3, q4⟩ := cells5 (hkeep G1'.out b2)
        obtain ⟨qf0, qf1, qf2, qf3, qf4⟩ := frozen5 (hkeep G1'.out b2)
        have HC2 := Lib.hid hc2
        have B2 := Lib.hid (B1.out.trans (b2.mono B1.out.size))
        clear hc2 b2
        unfold dkVal
        go_wp2_with fail
        refine bodyPost_ret (v := .tuple #[.agg #[.slice xa xn xc, .int .i64 (change D [] 6).1.c, .bool (change D [] 6).1.a, .int .i64 (change D [] 6).1.l, .bool (change D [] 6).1.x], .int .i64 (change D [] 6).2]) (by simp [results, Try.results34, go_sem, q0, q1, q2, q3, q4]) rfl ?_
        refine ⟨xa, xn, xc, rfl, ?_, bel_set5 B2.out (Nat.le_succ _) _ _ _ _ _⟩
        rcases HC2.out with ⟨h1, h2⟩ | ⟨h1, h2, _⟩
        · exact .inl ⟨h1, h2⟩
        · rw [h1, h2]
          exact .inr (OwnL.nil _ _)
    · rw [if_neg hx]
      obtain ⟨j, rfl⟩ : ∃ j : Nat, k = (j : Int) := ⟨k.toNat, by omega⟩
      have hx0 : ¬ ((j : Int) < 0) := by omega
      have hx1 : ¬ ((f.d.size : Int) < (j : Int)) := by omega
      rw [Int.toNat_natCast]
      clear hx
      clear hf hg hi hfb
      go_enter Try.func34, Try.ntmps34
      go_wp2_with fail
      generalize World.alloc (World.alloc w _) _ = w0 at G0 G1 GB GS ⊢
      refine (F.out w0 (HV.out.keep GB.out)).mono ?_
      rintro e w1 ⟨rfl, b1⟩
      obtain ⟨p0, p1, p2, p3, p4⟩ := cells5 (hkeep G0.out b1)
      have B1a := GB.out.trans (b1.mono (by have := GS.out; omega))
      obtain ⟨g, off, rfl, c0, c1, c2⟩ := isL_at (HV.out.keep B1a) hin
      rw [hfe] at c0 c1 c2
      have hs1 : w.heap.size + 1 < w1.heap.size := by have := b1.size; have := GS.out; omega
      have hs0 : w.heap.size < w1.heap.size := by omega
      have hgl := block_lt_of_cell c0
      have G0w := halloc (o := .cells #[.string f.n, .string (f.d.extract 0 j), .int .i64 (min f.s (j : Int))] 43) (hkeep G0.out b1)
      have G1w := halloc (o := .cells #[.string f.n, .string (f.d.extract 0 j), .int .i64 (min f.s (j : Int))] 43) (hkeep G1.out b1)
      have GFw := Lib.hid (heap_alloc_new w1 (.cells #[.string f.n, .string (f.d.extract 0 j), .int .i64 (min f.s (j : Int))] 43))
      have B1w := B1a.alloc B1a.size (.cells #[.string f.n, .string (f.d.extract 0 j), .int .i64 (min f.s (j : Int))] 43)
      have hsw : (w1.alloc (.cells #[.string f.n, .string (f.d.extract 0 j), .int .i64 (min f.s (j : Int))] 43)).heap.size = w1.heap.size + 1 := by simp
      have G0' := Lib.hid (hkeep G0w (Below.refl _ _).drew)
      have G1' := Lib.hid (hkeep G1w (Below.refl _ _).drew)
      have B1 := Lib.hid B1w.drew
      have WO0 := Lib.hid (WO.out ⟨f.n, f.d.extract 0 j, min f.s (j : Int)⟩ (w1.alloc (.cells #[.string f.n, .string (f.d.extract 0 j), .int .i64 (min f.s (j : Int))] 43)).drew (HV.out.keep B1.out))
      clear b1 WO B1a G0w G1w B1w hfe
      go_wp2_with fail
      generalize w1.alloc _ = w3 at G0' G1' GFw B1 WO0 hsw ⊢
      obtain ⟨r0, r1, r2⟩ := cells3 GFw.out
      obtain ⟨y0, y1, y2, y3, y4⟩ := cells5 (show w3.heap[w.heap.size]? = _ from G0'.out)
      replace hs1 : w.heap.size + 1 < w3.heap.size := by omega
      clear p0 p1 p2 p3 p4 c0 c1 c2
      go_region_with (first | ((with_reducible refine WO0.out.mono ?_); rintro e w4 ⟨lv, rfl, ho4, b4⟩; obtain ⟨ga, gn, gc, rfl⟩ := own_slice ho4; have HO4 := Lib.hid ho4; obtain ⟨z0, z1, z2, z3, z4⟩ := cells5 (hkeep G0'.out b4); have G14 := Lib.hid (hkeep G1'.out b4); have B4 := Lib.hid (B1.out.trans (b4.mono B1.out.size)); have hs4 := b4.size; clear ho4 b4) | (go_at_call 55; refine (CH.out ga gn gc (withF D.f ⟨f.n, f.d.extract 0 j, min f.s (j : Int)⟩) 0 w4).mono ?_; rintro e w2 ⟨v, rfl, hc2, b2⟩; obtain ⟨xa, xn, xc, rfl⟩ : ∃ a n c, v = .slice a n c := (by rcases hc2 with ⟨h, _⟩ | ⟨h, _⟩ <;> exact ⟨_, _, _, h⟩); obtain ⟨q0, q1, q2, q3, q4⟩ := cells5 (hkeep G14.out b2); obtain ⟨qf0, qf1, qf2, qf3, qf4⟩ := frozen5 (hkeep G14.out b2); have HC2 := Lib.hid hc2; have HO2 := Lib.hid (HO4.out.keep b2); have B2 := Lib.hid (B4.out.trans (b2.mono B4.out.size)); clear hc2 b2; unfold dkVal))
      all_goals
        go_wp2_with fail
        refine bodyPost_ret (v := .tuple #[.agg #[.slice xa xn xc, .int .i64 (change D (withF D.f ⟨f.n, f.d.extract 0 j, min f.s (j : Int)⟩) 0).1.c, .bool (change D (withF D.f ⟨f.n, f.d.extract 0 j, min f.s (j : Int)⟩) 0).1.a, .int .i64 (change D (withF D.f ⟨f.n, f.d.extract 0 j, min f.s (j : Int)⟩) 0).1.l, .bool (change D (withF D.f ⟨f.n, f.d.extract 0 j, min f.s (j : Int)⟩) 0).1.x], .int .i64 (change D (withF D.f ⟨f.n, f.d.extract 0 j, min f.s (j : Int)⟩) 0).2]) (by simp [results, Try.results34, go_sem, q0, q1, q2, q3, q4]) rfl ?_
        refine ⟨xa, xn, xc, rfl, ?_, bel_set5 B2.out (Nat.le_succ _) _ _ _ _ _⟩
        rcases HC2.out with ⟨h1, h2⟩ | ⟨h1, h2, _⟩
        · exact .inl ⟨h1, h2⟩
        · refine .inr ?_
          rw [h1, h2]
          exact own_base (own_set5 HO2.out (k := w.heap.size + 1) hs1 _ _ _ _ _) B1.out.size

end Go.Proofs.Ytbkiecjbjehaoaa.Dsk
