/-
  Parts of what the laws of this seat stand on: DiskSame, StoSame, DiskRight, Law14T, DiskOpen, DiskOpen2.
-/
import Derived.Test.YtooipogbmfkeeaaGreatQt1
import Derived.BigQuiet
import Derived.IntWalk
import Derived.Laws.Cover1
import Derived.Laws.StructEq
import Derived.Test.YtooipogbmfkeeaaGreatQt12
import Derived.Test.YtooipogbmfkeeaaGreatQt13
import Derived.Test.YtooipogbmfkeeaaGreatQt18
import Derived.Test.YtooipogbmfkeeaaGreatQt30
import Derived.Test.YtooipogbmfkeeaaGreatQt42
import Derived.Test.YtooipogbmfkeeaaGreatQt44
set_option maxRecDepth 100000
set_option maxHeartbeats 6400000
namespace Go.Proofs.YtooipogbmfkeeaaGreat
namespace Dsk
open Go.RowKit Dp
theorem rsame_yes (v1 v2 : Value) (D : Dk) (w : World) (h1 : IsL FL w v1 D.f) (h2 : IsL FL w v2 D.f) :
 Calls Tryz.prog 36 #[dkVal v1 D, dkVal v2 D] w fun e w' => e = .returned (.bool true) ∧ Below w.heap.size w w' := by
 obtain ⟨fa, fn, fc, rfl⟩ : ∃ a n c, v1 = .slice a n c := by obtain ⟨a, c, h, _⟩ := h1; exact ⟨a, _, c, h⟩
 obtain ⟨ga, gn, gc, rfl⟩ : ∃ a n c, v2 = .slice a n c := by obtain ⟨a, c, h, _⟩ := h2; exact ⟨a, _, c, h⟩
 obtain rfl : gn = fn := by rw [h1.len.1, h2.len.1]
 have hl : gn ≤ 9223372036854775807 := by have := h1.len; unfold maxLen at this; omega
 have H1 := zid h1
 have H2 := zid h2
 clear h1 h2
 obtain ⟨fl, dc, da, dl, dx⟩ := D
 unfold dkVal
 dsimp only at *
 obtain ⟨g0, g1, gb, gs⟩ := boxes2 w #[.slice fa gn fc, .int .i64 dc, .bool da, .int .i64 dl, .bool dx] #[.slice ga gn gc, .int .i64 dc, .bool da, .int .i64 dl, .bool dx] 24 24
 obtain ⟨p0, p1, p2, p3, p4⟩ := cells5 g0
 obtain ⟨q0, q1, q2, q3, q4⟩ := cells5 g1
 have GB := zid gb
 clear g0 g1 gb gs
 cases da
 all_goals cases dx
 all_goals
  go_enter Tryz.func36, Tryz.ntmps36
  go_wp2_with fail
  generalize World.alloc (World.alloc w _) _ = w0 at p0 p1 p2 p3 p4 q0 q1 q2 q3 q4 GB ⊢
  go_loopw [5] (fun i wr => ∃ k n : Nat, k ≤ gn ∧ i = .int .i64 k ∧ wr = w0.drewN n) (fun i _ => gn - (intOf i).toNat)
  case atStart => exact ⟨0, 0, Nat.zero_le _, rfl, rfl⟩
  case round =>
   obtain ⟨k, n, hk, rfl, rfl⟩ := hrel
   by_cases hlt : k < gn
   · obtain ⟨b, off, rfl, c0, c1, c2⟩ := isL_at (H1.out.keep GB.out) hlt
     obtain ⟨b', off', rfl, d0, d1, d2⟩ := isL_at (H2.out.keep GB.out) hlt
     generalize fl.getD k zero = f at *
     go_wp2_with fail
     go_quiet (fail)
     go_wp2_with fail
     go_roundw
     case rel => exact ⟨k + 1, _, by omega, by go_num, rfl⟩
     case measure => simp [intOf]; omega
   · go_wp2_with fail
     go_ret
     exact ⟨rfl, GB.out.trans ((bel_drewN n).mono GB.out.size)⟩
end Dsk
namespace Sto
open Go.RowKit So Dsk Rts
theorem rsame12_yes (f1 g1 f2 g2 : Value) (S : St) (w : World) (hf1 : IsL FL w f1 S.d.f) (hg1 : IsL Rts.SL w g1 S.g) (hf2 : IsL FL w f2 S.d.f) (hg2 : IsL Rts.SL w g2 S.g) :
 Calls Tryz.prog 12 #[stVal f1 g1 S, stVal f2 g2 S] w fun e w' => e = .returned (.bool true) ∧ Below w.heap.size w w' := by
 obtain ⟨fa, fn, fc, rfl⟩ : ∃ a n c, f1 = .slice a n c := by obtain ⟨a, c, h, _⟩ := hf1; exact ⟨a, _, c, h⟩
 obtain ⟨ha, hn, hc, rfl⟩ : ∃ a n c, f2 = .slice a n c := by obtain ⟨a, c, h, _⟩ := hf2; exact ⟨a, _, c, h⟩
 obtain ⟨ga, gn, gc, rfl⟩ : ∃ a n c, g1 = .slice a n c := by obtain ⟨a, c, h, _⟩ := hg1; exact ⟨a, _, c, h⟩
 obtain ⟨ka, kn, kc, rfl⟩ : ∃ a n c, g2 = .slice a n c := by obtain ⟨a, c, h, _⟩ := hg2; exact ⟨a, _, c, h⟩
 obtain rfl : kn = gn := by rw [hg1.len.1, hg2.len.1]
 have hl : kn ≤ 9223372036854775807 := by have := hg1.len; unfold maxLen at this; omega
 have DS := zid fun (W : World) (h1 : IsL FL W (.slice fa fn fc) S.d.f) (h2 : IsL FL W (.slice ha hn hc) S.d.f) => rsame_yes (.slice fa fn fc) (.slice ha hn hc) S.d W h1 h2
 have F1 := zid hf1
 have F2 := zid hf2
 have G1 := zid hg1
 have G2 := zid hg2
 clear hf1 hg1 hf2 hg2
 obtain ⟨⟨df, dc, da, dl, dx⟩, sv, sg, sx, ss, sz, sc⟩ := S
 unfold stVal
 unfold dkVal at DS
 dsimp only at *
 obtain ⟨g0, g1, gb, gs⟩ := boxes2 w #[.slice fa fn fc, .int .i64 dc, .bool da, .int .i64 dl, .bool dx, .int .i64 sv, .slice ga kn gc, .int .i64 sx, .int .i64 ss, .int .i64 sz, .int .u32 sc] #[.slice ha hn hc, .int .i64 dc, .bool da, .int .i64 dl, .bool dx, .int .i64 sv, .slice ka kn kc, .int .i64 sx, .int .i64 ss, .int .i64 sz, .int .u32 sc] 30 30
 obtain ⟨⟨p0, p1, p2, p3, p4⟩, p5, p6, p7, p8, p9, p10⟩ := cellsS g0
 obtain ⟨⟨q0, q1, q2, q3, q4⟩, q5, q6, q7, q8, q9, q10⟩ := cellsS g1
 have H0 := zid g0
 have H1 := zid g1
 have GB := zid gb
 clear g0 g1 gb gs
 go_enter Tryz.func12, Tryz.ntmps12
 go_wp2_with fail
 generalize World.alloc (World.alloc w _) _ = w0 at p0 p1 p2 p3 p4 p5 p6 p7 p8 p9 p10 q0 q1 q2 q3 q4 q5 q6 q7 q8 q9 q10 H0 H1 GB ⊢
 refine (DS.out w0 (F1.out.keep GB.out) (F2.out.keep GB.out)).mono ?_
 rintro e w1 ⟨rfl, b1⟩
 clear p0 p1 p2 p3 p4 p5 p6 p7 p8 p9 p10 q0 q1 q2 q3 q4 q5 q6 q7 q8 q9 q10
 obtain ⟨⟨p0, p1, p2, p3, p4⟩, p5, p6, p7, p8, p9, p10⟩ := cellsS (hkeep H0.out b1)
 obtain ⟨⟨q0, q1, q2, q3, q4⟩, q5, q6, q7, q8, q9, q10⟩ := cellsS (hkeep H1.out b1)
 have GB1 := zid (GB.out.trans (b1.mono GB.out.size))
 clear b1
 go_wp2_with fail
 go_loopw [5] (fun i wr => ∃ k n : Nat, k ≤ kn ∧ i = .int .i64 k ∧ wr = w1.drewN n) (fun i _ => kn - (intOf i).toNat)
 case atStart => exact ⟨0, 0, Nat.zero_le _, rfl, rfl⟩
 case round =>
  obtain ⟨k, n, hk, rfl, rfl⟩ := hrel
  by_cases hlt : k < kn
  · obtain ⟨b, off, rfl, c0, c1, c2⟩ := sg_at (G1.out.keep GB1.out) hlt
    obtain ⟨b', off', rfl, d0, d1, d2⟩ := sg_at (G2.out.keep GB1.out) hlt
    generalize sg.getD k Rt.zero = f at *
    go_wp2_with fail
    go_quiet (fail)
    go_wp2_with fail
    go_roundw
    case rel => exact ⟨k + 1, _, by omega, by go_num, rfl⟩
    case measure => simp [intOf]; omega
  · go_wp2_with fail
    go_ret
    exact ⟨rfl, GB1.out.trans ((bel_drewN n).mono GB1.out.size)⟩
end Sto
namespace Dp
def AtOk (l : List Fl) (k : Nat) : Prop := FOk (l.getD k Dsk.zero) ∧ (0 < k → Lt (l.getD (k - 1) Dsk.zero).n (l.getD k Dsk.zero).n)
theorem up_adj {l : List Fl} (h : ∀ k, k + 1 < l.length → Lt (l.getD k Dsk.zero).n (l.getD (k + 1) Dsk.zero).n) : Up l := by
 unfold Up
 rw [List.pairwise_iff_getElem]
 intro i j hi hj hij
 obtain ⟨d, rfl⟩ : ∃ d, j = i + d + 1 := ⟨j - i - 1, by omega⟩
 induction d with
 | zero =>
  have := h i hj
  rw [getD_fl hi, getD_fl hj] at this
  exact this
 | succ d ih =>
  have h1 := ih (by omega) (by omega)
  have h2 := h (i + d + 1) hj
  rw [getD_fl (show i + d + 1 < l.length by omega), getD_fl (show i + d + 1 + 1 < l.length from hj)] at h2
  exact h1.trans h2
theorem right_at {l : List Fl} : ((∀ f ∈ l, FOk f) → Up l → ∀ k, k < l.length → AtOk l k) ∧ ((∀ k, k < l.length → AtOk l k) → (∀ f ∈ l, FOk f) ∧ Up l) := by
 constructor
 · intro h1 h2 k hk
   refine ⟨by rw [getD_fl hk]; exact h1 _ (List.getElem_mem hk), fun h0 => ?_⟩
   rw [getD_fl hk, getD_fl (by omega : k - 1 < l.length)]
   exact List.pairwise_iff_getElem.1 h2 (k - 1) k (by omega) hk (by omega)
 · intro h
   refine ⟨fun f hf => ?_, up_adj fun k hk => ?_⟩
   · obtain ⟨k, hk, rfl⟩ := List.getElem_of_mem hf
     have := (h k hk).1
     rw [getD_fl hk] at this
     exact this
   · exact (h (k + 1) hk).2 (by omega)
theorem less_no {a b : ByteArray} (h : Op.bytesLess a.toList b.toList = false) : (Op.bytesLess b.toList a.toList = true) ∨ (Op.bytesLess b.toList a.toList = false ∧ (b.toList == a.toList) = true) := by
 rw [Dsk.less_eq] at h
 have h1 : ¬ Lt a b := by simpa using h
 by_cases h2 : Lt b a
 · exact .inl (by rw [Dsk.less_eq, decide_eq_true h2])
 · refine .inr ⟨by rw [Dsk.less_eq, decide_eq_false h2], ?_⟩
   rcases lt_tri a b with h | h | h
   · exact absurd h h1
   · rw [h]; simp
   · exact absurd h h2
theorem less_yes {a b : ByteArray} (h : Op.bytesLess a.toList b.toList = true) : Op.bytesLess b.toList a.toList = false ∧ (b.toList == a.toList) = false := by
 rw [Dsk.less_eq] at h
 have h1 : Lt a b := by simpa using h
 exact ⟨by rw [Dsk.less_eq, decide_eq_false h1.asymm], Dsk.str_ne fun e => h1.ne e.symm⟩
theorem at_cases (l : List Fl) (k : Nat) :
 (¬ AtOk l k ∧ (decide (Named (l.getD k Dsk.zero).n) = false ∨ (decide (Named (l.getD k Dsk.zero).n) = true ∧ (l.getD k Dsk.zero).s < 0) ∨ (decide (Named (l.getD k Dsk.zero).n) = true ∧ 0 ≤ (l.getD k Dsk.zero).s ∧ ((l.getD k Dsk.zero).d.size : Int) < (l.getD k Dsk.zero).s) ∨
  (decide (Named (l.getD k Dsk.zero).n) = true ∧ 0 ≤ (l.getD k Dsk.zero).s ∧ (l.getD k Dsk.zero).s ≤ ((l.getD k Dsk.zero).d.size : Int) ∧ ∃ j, k = j + 1 ∧ Op.bytesLess (l.getD j Dsk.zero).n.toList (l.getD k Dsk.zero).n.toList = false))) ∨
 (AtOk l k ∧ decide (Named (l.getD k Dsk.zero).n) = true ∧ 0 ≤ (l.getD k Dsk.zero).s ∧ (l.getD k Dsk.zero).s ≤ ((l.getD k Dsk.zero).d.size : Int) ∧ (k = 0 ∨ ∃ j, k = j + 1 ∧ Op.bytesLess (l.getD j Dsk.zero).n.toList (l.getD k Dsk.zero).n.toList = true)) := by
 by_cases h1 : Named (l.getD k Dsk.zero).n
 · by_cases h2 : (l.getD k Dsk.zero).s < 0
   · exact .inl ⟨fun h => by have := h.1.2.1; omega, .inr (.inl ⟨decide_eq_true h1, h2⟩)⟩
   · by_cases h3 : ((l.getD k Dsk.zero).d.size : Int) < (l.getD k Dsk.zero).s
     · exact .inl ⟨fun h => by have := h.1.2.2; omega, .inr (.inr (.inl ⟨decide_eq_true h1, by omega, h3⟩))⟩
     · cases k with
       | zero => exact .inr ⟨⟨⟨h1, by omega, by omega⟩, fun h => absurd h (Nat.lt_irrefl 0)⟩, decide_eq_true h1, by omega, by omega, .inl rfl⟩
       | succ j =>
        by_cases h4 : Lt (l.getD j Dsk.zero).n (l.getD (j + 1) Dsk.zero).n
        · exact .inr ⟨⟨⟨h1, by omega, by omega⟩, fun _ => h4⟩, decide_eq_true h1, by omega, by omega, .inr ⟨j, rfl, by rw [Dsk.less_eq, decide_eq_true h4]⟩⟩
        · exact .inl ⟨fun h => h4 (h.2 (by omega)), .inr (.inr (.inr ⟨decide_eq_true h1, by omega, by omega, j, rfl, by rw [Dsk.less_eq, decide_eq_false h4]⟩))⟩
 · exact .inl ⟨fun h => h1 h.1.1, .inl (decide_eq_false h1)⟩
theorem all_next {l : List Fl} {k : Nat} (h : ∀ j, j < k → AtOk l j) (hk : AtOk l k) : ∀ j, j < k + 1 → AtOk l j := by
 intro j hj
 by_cases e : j = k
 · subst e; exact hk
 · exact h j (by omega)
end Dp
namespace Dsk
open Go.RowKit Dp
theorem rright_any (fv : Value) (D : Dk) (b : Bool) (w : World) (hv : IsL FL w fv D.f) (hb : b = true ↔ Right D) :
 Calls Tryz.prog 8 #[dkVal fv D] w fun e w' => e = .returned (.bool b) ∧ Below w.heap.size w w' := by
 obtain ⟨fa, fn, fc, rfl⟩ : ∃ a n c, fv = .slice a n c := by obtain ⟨a, c, h, _⟩ := hv; exact ⟨a, _, c, h⟩
 have HV := zid hv
 have hl := hv.len.2
 have hfl := hv.len.1
 unfold maxLen at hl
 have hl2 : D.f.length ≤ 9223372036854775807 := by omega
 clear hl
 have HOK := zid hv.ok
 have HRN := zid (show ∀ k, k < D.f.length → ¬ AtOk D.f k → b = false from fun k hk hn => by
  rw [← Bool.not_eq_true, hb]
  exact fun hr => hn (right_at.1 hr.1 hr.2.1 k hk))
 have HRY := zid (show (∀ k, k < D.f.length → AtOk D.f k) → b = (decide (0 ≤ D.c) && decide (0 ≤ D.l)) from fun h => by
  obtain ⟨h1, h2⟩ := right_at.2 h
  rw [Bool.eq_iff_iff, hb]
  simp only [Right, Bool.and_eq_true, decide_eq_true_eq]
  exact ⟨fun h => h.2.2, fun h => ⟨h1, h2, h⟩⟩)
 rw [← hfl] at hl2 HRN HRY
 have HFL := zid hfl
 have G0 := zid (heap_alloc_new w (.cells #[.slice fa fn fc, .int .i64 D.c, .bool D.a, .int .i64 D.l, .bool D.x] 24))
 have B0 := zid ((Below.refl w.heap.size w).alloc (Nat.le_refl _) (.cells #[.slice fa fn fc, .int .i64 D.c, .bool D.a, .int .i64 D.l, .bool D.x] 24))
 have S0 := zid (show (w.alloc (.cells #[.slice fa fn fc, .int .i64 D.c, .bool D.a, .int .i64 D.l, .bool D.x] 24)).heap.size = w.heap.size + 1 by simp)
 obtain ⟨fl, dc, da, dl, dx⟩ := D
 dsimp only at *
 clear hv hb hfl
 unfold dkVal
 dsimp only
 obtain ⟨q0, q1, q2, q3, q4⟩ := cells5 G0.out
 go_enter Tryz.func8, Tryz.ntmps8
 go_wp2_with fail
 generalize World.alloc w _ = w0 at G0 B0 S0 q0 q1 q2 q3 q4 ⊢
 go_loopw [3] (fun i wr => ∃ k : Nat, k ≤ fn ∧ i = .int .i64 k ∧ (∀ j, j < k → AtOk fl j) ∧ Below w0.heap.size w0 wr) (fun i _ => fn - (intOf i).toNat)
 case atStart => exact ⟨0, Nat.zero_le _, rfl, fun j hj => absurd hj (Nat.not_lt_zero j), Below.refl _ _⟩
 case round =>
  clear q0 q1 q2 q3 q4
  obtain ⟨k, hk, rfl, hall, hB⟩ := hrel
  have HALL := zid hall
  have HB := zid hB
  have HBW := zid (B0.out.trans (hB.mono B0.out.size))
  have hh := hkeep G0.out hB
  obtain ⟨p0, p1, p2, p3, p4⟩ := cells5 hh
  have hwl := (Array.getElem?_eq_some_iff.1 hh).1
  clear hall hB hh
  by_cases hlt : k < fn
  · have HIS := zid (HV.out.keep HBW.out)
    obtain ⟨g, off, rfl, c0, c1, c2⟩ := isL_at HIS.out hlt
    have hfb := HOK.out _ (show fl.getD k zero ∈ fl by rw [getD_fl (by rw [← HFL.out]; exact hlt)]; exact List.getElem_mem _)
    have NM := fun W : World => named_any (fl.getD k zero).n W hfb.1
    have hgl := block_lt_of_cell c0
    have hz2 := hfb.2.1
    have hz1 := hfb.1
    clear hfb
    have BFw := zid ((Below.refl _ wr).alloc (Nat.le_refl _) (.cells #[.string (fl.getD k zero).n, .string (fl.getD k zero).d, .int .i64 (fl.getD k zero).s] 45))
    rcases at_cases fl k with ⟨hno, hbad⟩ | ⟨hyes, y1, y2, y3, hy⟩
    · have HBF := zid (HRN.out k hlt hno)
      clear hno
      rcases hbad with i1 | ⟨i1, i2⟩ | ⟨i1, i2, i3⟩ | ⟨i1, i2, i3, j, rfl, i4⟩
      · rw [i1] at NM
        replace NM := zid NM
        generalize fl.getD k zero = f at *
        clear i1
        go_wp2_with fail
        go_quiet ((go_at_call 20; exact Calls.quiet_of_same ((NM.out _).mono fun _ _ ⟨he, hw⟩ => ⟨he, hw.symm⟩)))
        go_wp2_with fail
        go_ret
        first | exact ⟨by rw [HBF.out]; rfl, HBW.out.trans (BFw.out.mono HBW.out.size)⟩ | exact ⟨by rw [HBF.out]; rfl, HBW.out.trans ((BFw.out.trans ((bel_drewN _).mono BFw.out.size)).mono HBW.out.size)⟩
      · rw [i1] at NM
        replace NM := zid NM
        generalize fl.getD k zero = f at *
        clear i1
        go_wp2_with fail
        go_quiet ((go_at_call 20; exact Calls.quiet_of_same ((NM.out _).mono fun _ _ ⟨he, hw⟩ => ⟨he, hw.symm⟩)))
        go_wp2_with fail
        go_ret
        first | exact ⟨by rw [HBF.out]; rfl, HBW.out.trans (BFw.out.mono HBW.out.size)⟩ | exact ⟨by rw [HBF.out]; rfl, HBW.out.trans ((BFw.out.trans ((bel_drewN _).mono BFw.out.size)).mono HBW.out.size)⟩
      · rw [i1] at NM
        replace NM := zid NM
        generalize fl.getD k zero = f at *
        have e2 : decide (f.s < 0) = false := by simpa using i2
        clear i1
        go_wp2_with fail
        go_quiet ((go_at_call 20; exact Calls.quiet_of_same ((NM.out _).mono fun _ _ ⟨he, hw⟩ => ⟨he, hw.symm⟩)))
        go_wp2_with fail
        go_ret
        first | exact ⟨by rw [HBF.out]; rfl, HBW.out.trans (BFw.out.mono HBW.out.size)⟩ | exact ⟨by rw [HBF.out]; rfl, HBW.out.trans ((BFw.out.trans ((bel_drewN _).mono BFw.out.size)).mono HBW.out.size)⟩
      · rw [i1] at NM
        replace NM := zid NM
        obtain ⟨g', off', e, u0, u1, u2⟩ := isL_at HIS.out (show j < fn by omega)
        obtain ⟨rfl, rfl⟩ : g = g' ∧ off = off' := by simpa using e
        generalize fl.getD (j + 1) zero = f at *
        generalize fl.getD j zero = f' at *
        have e2 : decide (f.s < 0) = false := by simpa using i2
        have e3 : decide ((f.d.size : Int) < f.s) = false := by simpa using i3
        have e4 : decide (0 < j + 1) = true := by simp
        have hjn : j < fn := by omega
        have hwr : IntKind.i64.wrap (j : Int) = (j : Int) := IntWalk.i64_in _ ⟨by omega, by omega⟩
        clear i1 e u1 u2
        rcases less_no i4 with i5 | ⟨i5, i6⟩
        all_goals
         go_wp2_with fail
         go_quiet ((go_at_call 20; exact Calls.quiet_of_same ((NM.out _).mono fun _ _ ⟨he, hw⟩ => ⟨he, hw.symm⟩)))
         go_wp2_with fail
         go_ret
         first | exact ⟨by rw [HBF.out]; rfl, HBW.out.trans (BFw.out.mono HBW.out.size)⟩ | exact ⟨by rw [HBF.out]; rfl, HBW.out.trans ((BFw.out.trans ((bel_drewN _).mono BFw.out.size)).mono HBW.out.size)⟩
    · have GY := zid (all_next HALL.out hyes)
      clear hyes
      rcases hy with rfl | ⟨j, rfl, i4⟩
      · rw [y1] at NM
        replace NM := zid NM
        simp only [Nat.zero_mul, Nat.add_zero] at c0 c1 c2
        generalize fl.getD 0 zero = f at *
        have e2 : decide (f.s < 0) = false := by simpa using y2
        have e3 : decide ((f.d.size : Int) < f.s) = false := by simpa using y3
        clear y1
        go_wp2_with fail
        go_quiet ((go_at_call 20; exact Calls.quiet_of_same ((NM.out _).mono fun _ _ ⟨he, hw⟩ => ⟨he, hw.symm⟩)))
        go_wp2_with fail
        go_roundw
        case rel => first | exact ⟨_, by first | (clear hwr; omega) | omega, by go_num, GY.out, HB.out.trans ((BFw.out.trans ((bel_drewN _).mono BFw.out.size)).mono HB.out.size)⟩ | exact ⟨_, by first | (clear hwr; omega) | omega, by go_num, GY.out, HB.out.trans (BFw.out.mono HB.out.size)⟩
        case measure => first | (clear hwr; simp [intOf]; omega) | (simp [intOf]; omega)
      · rw [y1] at NM
        replace NM := zid NM
        obtain ⟨g', off', e, u0, u1, u2⟩ := isL_at HIS.out (show j < fn by omega)
        obtain ⟨rfl, rfl⟩ : g = g' ∧ off = off' := by simpa using e
        generalize fl.getD (j + 1) zero = f at *
        generalize fl.getD j zero = f' at *
        have e2 : decide (f.s < 0) = false := by simpa using y2
        have e3 : decide ((f.d.size : Int) < f.s) = false := by simpa using y3
        have e4 : decide (0 < j + 1) = true := by simp
        have hjn : j < fn := by omega
        have hwr : IntKind.i64.wrap (j : Int) = (j : Int) := IntWalk.i64_in _ ⟨by omega, by omega⟩
        clear y1 e u1 u2
        obtain ⟨i5, i6⟩ := less_yes i4
        go_wp2_with fail
        go_quiet ((go_at_call 20; exact Calls.quiet_of_same ((NM.out _).mono fun _ _ ⟨he, hw⟩ => ⟨he, hw.symm⟩)))
        go_wp2_with fail
        go_roundw
        case rel => first | exact ⟨_, by first | (clear hwr; omega) | omega, by go_num, GY.out, HB.out.trans ((BFw.out.trans ((bel_drewN _).mono BFw.out.size)).mono HB.out.size)⟩ | exact ⟨_, by first | (clear hwr; omega) | omega, by go_num, GY.out, HB.out.trans (BFw.out.mono HB.out.size)⟩
        case measure => first | (clear hwr; simp [intOf]; omega) | (simp [intOf]; omega)
  · have HBF := HRY.out (fun j hj => HALL.out j (by omega))
    replace HBF := zid HBF
    by_cases g1 : 0 ≤ dc
    · by_cases g2 : 0 ≤ dl
      · rw [decide_eq_true g1, decide_eq_true g2] at HBF
        go_wp2_with fail
        go_ret
        exact ⟨by rw [HBF.out]; rfl, HBW.out⟩
      · have g3 : dl < 0 := by omega
        rw [decide_eq_true g1, decide_eq_false g2] at HBF
        go_wp2_with fail
        go_ret
        exact ⟨by rw [HBF.out]; rfl, HBW.out⟩
    · have g3 : dc < 0 := by omega
      rw [decide_eq_false g1] at HBF
      go_wp2_with fail
      go_ret
      exact ⟨by rw [HBF.out]; rfl, HBW.out⟩
end Dsk
namespace Ro
open Go.RowKit So Dsk Rts Sto
theorem few_bd {D : Dp.Dk} (hb : DkB D) (hr : Dp.Right D) (h : FewF D.f) : Bd D 40 := by
 refine ⟨hb, hr, h.1, ?_⟩
 obtain ⟨h1, h2⟩ := h
 have key : ∀ l : List Dp.Fl, (∀ f ∈ l, f.d.size ≤ 3000) → Dp.used l ≤ l.length * 3000 := by
  intro l
  induction l with
  | nil => intro _; exact Nat.le_refl _
  | cons f l ih =>
   intro h
   have h1 := h f (by simp)
   have h2 := ih fun g hg => h g (by simp [hg])
   rw [Dp.used_cons, List.length_cons]
   omega
 exact Nat.le_trans (key D.f fun f hf => (h2 f hf).1) (Nat.mul_le_mul_right 3000 h1)
theorem tells14 (fv : Value) (D : Dp.Dk) (w : World) (hv : IsL FL w fv D.f) (hb : DkB D) :
 Calls Tryz.prog 3 #[dkVal fv D] w fun e w' => e = .returned (.bool true) ∧ Below w.heap.size w w' := by
 obtain ⟨fa, fn, fc, rfl⟩ : ∃ a n c, fv = .slice a n c := by obtain ⟨a, c, h, _⟩ := hv; exact ⟨a, _, c, h⟩
 obtain ⟨b, hbR⟩ : ∃ b : Bool, (b = true ↔ Dp.Right D) := by
  by_cases h : Dp.Right D
  · exact ⟨true, by simp [h]⟩
  · exact ⟨false, by simp [h]⟩
 have R2 := fun (W : World) (h : IsL FL W (.slice fa fn fc) D.f) => Dsk.rright_any (.slice fa fn fc) D b W h hbR
 have FW := fun (W : World) (h : IsL FL W (.slice fa fn fc) D.f) => rfew_any (.slice fa fn fc) D _ W h rfl
 have AW := zid fun W : World => awake14 W
 have HV := zid hv
 have A0 := zid (al_bel w (.cells #[.slice fa fn fc, .int .i64 D.c, .bool D.a, .int .i64 D.l, .bool D.x] 24))
 have X0 := zid (heap_alloc_new w (.cells #[.slice fa fn fc, .int .i64 D.c, .bool D.a, .int .i64 D.l, .bool D.x] 24))
 clear hv
 unfold dkVal at R2 FW ⊢
 go_enter Tryz.func3, Tryz.ntmps3
 go_upto_region 1 with (fail)
 generalize w.alloc _ = w0 at A0 X0 ⊢
 generalize w.heap.size = t0 at X0 ⊢
 obtain ⟨p0, p1, p2, p3, p4⟩ := cells5 X0.out
 by_cases hf : FewF D.f
 · rw [decide_eq_true hf] at FW
   replace FW := zid FW
   go_wp2_with fail
   refine (FW.out _ (HV.out.keep A0.out)).mono ?_
   rintro e w1 ⟨rfl, b1⟩
   have B1 := zid (A0.out.trans (b1.mono A0.out.size))
   have X1 := zid (hkeep X0.out b1)
   clear b1 p0 p1 p2 p3 p4 X0 A0 FW
   obtain ⟨p0, p1, p2, p3, p4⟩ := cells5 X1.out
   cases b with
   | false =>
    replace R2 := zid R2
    go_wp2_with fail
    refine (R2.out _ (HV.out.keep B1.out)).mono ?_
    rintro e w2 ⟨rfl, b2⟩
    have B2 := zid (B1.out.trans (b2.mono B1.out.size))
    clear b2 p0 p1 p2 p3 p4 X1 B1 R2
    go_wp2_with fail
    refine (AW.out _).mono ?_
    rintro e w3 ⟨rfl, b3⟩
    have B3 := zid (B2.out.trans (b3.mono B2.out.size))
    clear b3
    go_wp2_with fail
    go_ret
    exact ⟨rfl, B3.out⟩
   | true =>
    have hS := few_bd hb (hbR.1 rfl) hf
    replace R2 := zid R2
    go_wp2_with fail
    refine (R2.out _ (HV.out.keep B1.out)).mono ?_
    rintro e w2 ⟨rfl, b2⟩
    have B2 := zid (B1.out.trans (b2.mono B1.out.size))
    have X2 := zid (hkeep X1.out b2)
    clear b2 p0 p1 p2 p3 p4 X1 B1 R2
    obtain ⟨p0, p1, p2, p3, p4⟩ := cells5 X2.out
    have OP := fun (W : World) (h : IsL FL W (.slice fa fn fc) D.f) => open14_any fa fn fc D W 40 h hS (by decide)
    have RO := fun (W : World) (h : IsL FL W (.slice fa fn fc) D.f) => ropen14_any fa fn fc D W 40 h hS (by decide)
    obtain ⟨⟨X, E⟩, hX⟩ : ∃ R, Lg.openT D = R := ⟨_, rfl⟩
    rw [hX] at OP RO
    unfold dkVal at OP RO
    replace OP := zid OP
    replace RO := zid RO
    clear hX hS hf hbR
    go_wp2_with fail
    refine (OP.out _ (HV.out.keep B2.out)).mono ?_
    rintro e w3 ⟨a1, n1, c1, a2, n2, c2, rfl, ks⟩
    have X3 := zid (halloc (o := .cells #[.slice a1 n1 c1, .int .i64 X.d.c, .bool X.d.a, .int .i64 X.d.l, .bool X.d.x, .int .i64 X.v, .slice a2 n2 c2, .int .i64 X.x, .int .i64 X.s, .int .i64 X.z, .int .u32 X.c] 30) (hkeep X2.out ks.w))
    have Y3 := zid (heap_alloc_new w3 (.cells #[.slice a1 n1 c1, .int .i64 X.d.c, .bool X.d.a, .int .i64 X.d.l, .bool X.d.x, .int .i64 X.v, .slice a2 n2 c2, .int .i64 X.x, .int .i64 X.s, .int .i64 X.z, .int .u32 X.c] 30))
    have AL3 := zid (al_bel w3 (.cells #[.slice a1 n1 c1, .int .i64 X.d.c, .bool X.d.a, .int .i64 X.d.l, .bool X.d.x, .int .i64 X.v, .slice a2 n2 c2, .int .i64 X.x, .int .i64 X.s, .int .i64 X.z, .int .u32 X.c] 30))
    have B3 := zid (B2.out.trans ((ks.w.trans (AL3.out.mono ks.w.size)).mono B2.out.size))
    have F3 := zid (ks.f.keep AL3.out)
    have G3 := zid (ks.g.keep AL3.out)
    clear ks p0 p1 p2 p3 p4 X2 B2 OP AL3
    unfold stVal
    dsimp only
    go_upto_region 4 with (fail)
    generalize w3.alloc _ = w4 at X3 Y3 B3 F3 G3 ⊢
    generalize w3.heap.size = tx at Y3 ⊢
    obtain ⟨p0, p1, p2, p3, p4⟩ := cells5 X3.out
    go_wp2_with fail
    refine (RO.out _ (HV.out.keep B3.out)).mono ?_
    rintro e w5 ⟨a3, n3, c3, a4, n4, c4, rfl, ks⟩
    have Y5 := zid (halloc (o := .cells #[.slice a3 n3 c3, .int .i64 X.d.c, .bool X.d.a, .int .i64 X.d.l, .bool X.d.x, .int .i64 X.v, .slice a4 n4 c4, .int .i64 X.x, .int .i64 X.s, .int .i64 X.z, .int .u32 X.c] 30) (hkeep Y3.out ks.w))
    have Z5 := zid (heap_alloc_new w5 (.cells #[.slice a3 n3 c3, .int .i64 X.d.c, .bool X.d.a, .int .i64 X.d.l, .bool X.d.x, .int .i64 X.v, .slice a4 n4 c4, .int .i64 X.x, .int .i64 X.s, .int .i64 X.z, .int .u32 X.c] 30))
    have AL5 := zid (al_bel w5 (.cells #[.slice a3 n3 c3, .int .i64 X.d.c, .bool X.d.a, .int .i64 X.d.l, .bool X.d.x, .int .i64 X.v, .slice a4 n4 c4, .int .i64 X.x, .int .i64 X.s, .int .i64 X.z, .int .u32 X.c] 30))
    have B5 := zid (B3.out.trans ((ks.w.trans (AL5.out.mono ks.w.size)).mono B3.out.size))
    have F5 := zid (ks.f.keep AL5.out)
    have G5 := zid (ks.g.keep AL5.out)
    have F4 := zid ((F3.out.keep ks.w).keep AL5.out)
    have G4 := zid ((G3.out.keep ks.w).keep AL5.out)
    clear ks p0 p1 p2 p3 p4 X3 Y3 B3 RO AL5 F3 G3
    unfold stVal
    dsimp only
    go_upto_region 5 with (fail)
    generalize w5.alloc _ = w6 at Y5 Z5 B5 F5 G5 F4 G4 ⊢
    generalize w5.heap.size = ty at Z5 ⊢
    go_wp2_with fail
    refine (AW.out _).mono ?_
    rintro e w7 ⟨rfl, b7⟩
    obtain ⟨⟨p0, p1, p2, p3, p4⟩, p5, p6, p7, p8, p9, p10⟩ := cellsS (hkeep Y5.out b7)
    obtain ⟨⟨q0, q1, q2, q3, q4⟩, q5, q6, q7, q8, q9, q10⟩ := cellsS (hkeep Z5.out b7)
    have SM := rsame12_yes (.slice a1 n1 c1) (.slice a2 n2 c2) (.slice a3 n3 c3) (.slice a4 n4 c4) X w7 (F4.out.keep b7) (G4.out.keep b7) (F5.out.keep b7) (G5.out.keep b7)
    unfold stVal at SM
    replace SM := zid SM
    have B7 := zid (B5.out.trans (b7.mono B5.out.size))
    clear b7 B5 F4 G4 F5 G5 Y5 Z5
    go_wp2_with fail
    refine SM.out.mono ?_
    rintro e w8 ⟨rfl, b8⟩
    have B8 := zid (B7.out.trans (b8.mono B7.out.size))
    clear b8 B7 SM p0 p1 p2 p3 p4 p5 p6 p7 p8 p9 p10 q0 q1 q2 q3 q4 q5 q6 q7 q8 q9 q10
    go_wp2_with fail
    go_ret
    exact ⟨by first | rfl | simp, B8.out⟩
 · rw [decide_eq_false hf] at FW
   replace FW := zid FW
   clear R2 hbR hf
   go_wp2_with fail
   refine (FW.out _ (HV.out.keep A0.out)).mono ?_
   rintro e w1 ⟨rfl, b1⟩
   have B1 := zid (A0.out.trans (b1.mono A0.out.size))
   clear b1 p0 p1 p2 p3 p4 X0 A0 FW
   go_wp2_with fail
   refine (AW.out _).mono ?_
   rintro e w2 ⟨rfl, b2⟩
   have B2 := zid (B1.out.trans (b2.mono B1.out.size))
   clear b2
   go_wp2_with fail
   go_ret
   exact ⟨rfl, B2.out⟩
end Ro
namespace Dsk
open Go.RowKit Go.ChangeShapes Go.WideShapes Go.Deep Go.Joins Dp
theorem isL_of {α : Type} {Y : Lay α} {w : World} {b off cap : Nat} {l : List α} (hm : l.length ≤ maxLen) (hcap : l.length ≤ cap) (hok : ∀ x ∈ l, Y.ok x)
 (hc : ∀ i, i < l.length → ∀ r u, (Y.enc (l.getD i Y.z))[r]? = some u → w.cell? ⟨b, off + (i * Y.k + r), none⟩ = some u) : IsL Y w (.slice (some ⟨b, off, none⟩) l.length cap) l := by
 refine ⟨_, cap, rfl, ⟨hm, hcap⟩, hok, .inr ⟨b, off, rfl, fun j u hj => ?_⟩⟩
 have hlt := (List.getElem?_eq_some_iff.1 hj).1
 rw [Y.vals_len] at hlt
 have hk := Y.pos
 have h1 : j / Y.k < l.length := Nat.div_lt_of_lt_mul (by rw [Nat.mul_comm]; exact hlt)
 have h2 : j % Y.k < Y.k := Nat.mod_lt _ hk
 have e : j = j / Y.k * Y.k + j % Y.k := by rw [Nat.mul_comm]; exact (Nat.div_add_mod j Y.k).symm
 have h3 := Y.vals_get l (j / Y.k) (j % Y.k) h1 h2
 rw [← e, hj] at h3
 have := hc (j / Y.k) h1 (j % Y.k) u h3.symm
 rwa [← e] at this
section
variable {H : Type} {enc : TypeId × Value → H} {w : World} {base : Nat} {spare : Nat → Bool} {held : Bool}
end
theorem array5 {α : Type} {cs : Array α} (h : cs.size = 5) : ∃ c0 c1 c2 c3 c4, cs = #[c0, c1, c2, c3, c4] := by
 obtain ⟨l⟩ := cs
 match l, h with
 | [c0, c1, c2, c3, c4], _ => exact ⟨c0, c1, c2, c3, c4, rfl⟩
section
variable {H : Type} {P : Program} {enc : TypeId × Value → H} {w : World} {base : Nat} {spare : Nat → Bool} {held : Bool}
theorem open_agg5 {r : Reach} {b0 : Nat} {t : TypeId} {f0 f1 f2 f3 f4 : Field} {v : Value} {d : DataW H} {p : List MemPlace} (hs : P.underlying t = some (.struct #[f0, f1, f2, f3, f4])) (hone : oneCellFields P #[f0, f1, f2, f3, f4] = true) (hC : P.cellsOf t = 5)
 (hv : Value.okWide P w r b0 t v) (h : DataW.Trod enc P w base spare held t v d p) :
 ∃ (v0 v1 v2 v3 v4 : Value) (y0 y1 y2 y3 y4 : DataW H × List MemPlace) (n : Nat), v = .agg #[v0, v1, v2, v3, v4] ∧
  DataW.trod enc P w base spare held n f0.type [v0] = some y0 ∧ DataW.trod enc P w base spare held n f1.type [v1] = some y1 ∧ DataW.trod enc P w base spare held n f2.type [v2] = some y2 ∧ DataW.trod enc P w base spare held n f3.type [v3] = some y3 ∧ DataW.trod enc P w base spare held n f4.type [v4] = some y4 := by
 obtain ⟨cs, rfl, hsz⟩ := okWide_struct hs hv
 obtain ⟨c0, c1, c2, c3, c4, rfl⟩ := array5 (hsz.trans hC)
 obtain ⟨fuel, hf⟩ := h
 obtain ⟨y0, y1, y2, y3, y4, n, _, h0, h1, h2, h3, h4⟩ := trod_struct5 hs hf
 obtain ⟨o0, k0⟩ := hone_of hone 0 f0 rfl
 obtain ⟨o1, k1⟩ := hone_of hone 1 f1 rfl
 obtain ⟨o2, k2⟩ := hone_of hone 2 f2 rfl
 obtain ⟨o3, k3⟩ := hone_of hone 3 f3 rfl
 obtain ⟨o4, k4⟩ := hone_of hone 4 f4 rfl
 exact ⟨c0, c1, c2, c3, c4, y0, y1, y2, y3, y4, n, rfl, by simpa [Value.cells, o0, k0] using h0, by simpa [Value.cells, o1, k1] using h1, by simpa [Value.cells, o2, k2] using h2, by simpa [Value.cells, o3, k3] using h3, by simpa [Value.cells, o4, k4] using h4⟩
end
section
variable {H : Type} {enc : TypeId × Value → H} {w : World} {base : Nat} {spare : Nat → Bool} {held : Bool}
theorem open_files {n : Nat} {cs : List Value} {y : DataW H × List MemPlace} (h : DataW.trod enc Tryz.prog w base spare held n 22 cs = some y) : ∃ a l c fs, cs = [.slice a l c] ∧ IsL FL w (.slice a l c) fs := by
 rcases open_slice Tryz.underlying22 h with ⟨hc, _⟩ | ⟨x, len, cap, m, n, D, Pl, hc, _, hl, hm, hmm, _, hi⟩
 · exact ⟨none, 0, 0, [], hc, IsL.nil w none 0⟩
 · refine ⟨some x, len, cap, ?_⟩
   have hlm : len ≤ m := by rw [hmm]; split <;> omega
   have hC : Tryz.prog.cellsOf 45 = 3 := by kernel_rfl
   have hO : Tryz.prog.cellsOf 3 = 1 := by kernel_rfl
   have hS : Tryz.prog.cellsOf 9 = 1 := by kernel_rfl
   rw [hC] at hi
   have key : ∀ i, i < len → ∃ r : Fl, FlB r ∧ ∀ j u, (flCells r)[j]? = some u → w.cell? ((x.add (i * 3)).add j) = some u := by
    intro i hil
    obtain ⟨cs', hcs, ht⟩ := hi i (by omega)
    obtain ⟨_, hlen, hat⟩ := World.cells?_some hcs
    obtain ⟨y0, y1, y2, n', _, _, h0, h1, h2⟩ := trod_struct3 Tryz.underlying45 ht
    obtain ⟨rn, hnn, _, wn⟩ := DataW.trod_string Tryz.underlying9 h0
    obtain ⟨rd, hd, _, wd⟩ := DataW.trod_string Tryz.underlying9 h1
    obtain ⟨rs, hrs, _, ws⟩ := DataW.trod_int Tryz.underlying3 h2
    obtain ⟨c0, c1, c2, rfl⟩ : ∃ c0 c1 c2, cs' = [c0, c1, c2] := by
     match cs', hlen with
     | [c0, c1, c2], _ => exact ⟨c0, c1, c2, rfl⟩
    simp [hO, hS] at hnn hd hrs
    subst hnn hd hrs
    unfold maxLen at wn wd
    refine ⟨⟨rn, rd, rs⟩, ⟨wn, wd, i64_wf ws⟩, fun j u hj => ?_⟩
    have hjl : j < 3 := (List.getElem?_eq_some_iff.1 hj).1
    have := hat j hjl
    exact this.trans hj
   obtain ⟨f, hf'⟩ : ∃ f : Nat → Fl, ∀ i, i < len → FlB (f i) ∧ ∀ j u, (flCells (f i))[j]? = some u → w.cell? ((x.add (i * 3)).add j) = some u := by
    refine ⟨fun i => if h : i < len then Classical.choose (key i h) else zero, fun i h => ?_⟩
    simp only [dif_pos h]
    exact Classical.choose_spec (key i h)
   have hlen : ((List.range len).map f).length = len := by simp
   have hall : ∀ r ∈ (List.range len).map f, FlB r := fun r hr => by
    rw [List.mem_map] at hr
    obtain ⟨i, hi', rfl⟩ := hr
    exact (hf' i (by simpa using hi')).1
   refine ⟨(List.range len).map f, hc, ?_⟩
   by_cases h0 : len = 0
   · subst h0
     exact IsL.nil w _ cap
   · obtain ⟨b, off, spot⟩ := x
     have h1 := (hf' 0 (by omega)).2 0 _ rfl
     rw [Nat.zero_mul] at h1
     have hspot : spot = none := by simpa [Addr.add] using World.cell?_spot h1
     subst hspot
     have := isL_of (Y := FL) (w := w) (b := b) (off := off) (cap := cap) (l := (List.range len).map f) (by rw [hlen]; omega) (by rw [hlen]; exact hl) hall (fun i hi' r u hu => by
      rw [hlen] at hi'
      have e : ((List.range len).map f).getD i FL.z = f i := by simp [List.getD_eq_getElem?_getD, hi']
      rw [e] at hu
      have := (hf' i hi').2 r u hu
      rw [addr_plain, addr_plain] at this
      rw [← Nat.add_assoc]
      exact this)
     rw [hlen] at this
     exact this
theorem open_dk {r : Reach} {b0 : Nat} {v : Value} {d : DataW H} {p : List MemPlace} (hv : Value.okWide Tryz.prog w r b0 24 v) (h : DataW.Trod enc Tryz.prog w base spare held 24 v d p) :
 ∃ fv D, v = dkVal fv D ∧ IsL FL w fv D.f ∧ DkB D := by
 obtain ⟨v0, v1, v2, v3, v4, y0, y1, y2, y3, y4, n, rfl, h0, h1, h2, h3, h4⟩ := open_agg5 Tryz.underlying24 (by kernel_rfl) (by kernel_rfl) hv h
 obtain ⟨fa, fn, fc, fs, hf, hfs⟩ := open_files h0
 obtain ⟨rc, hc, _, wc⟩ := DataW.trod_int Tryz.underlying3 h1
 obtain ⟨ra, ha, _⟩ := DataW.trod_bool Tryz.underlying4 h2
 obtain ⟨rl, hl, _, wl⟩ := DataW.trod_int Tryz.underlying3 h3
 obtain ⟨rx, hx, _⟩ := DataW.trod_bool Tryz.underlying4 h4
 simp only [List.cons.injEq, and_true] at hf hc ha hl hx
 subst hf hc ha hl hx
 exact ⟨_, ⟨fs, rc, ra, rl, rx⟩, rfl, hfs, ⟨i64_wf wc, i64_wf wl⟩⟩
end
end Dsk
end Go.Proofs.YtooipogbmfkeeaaGreat
