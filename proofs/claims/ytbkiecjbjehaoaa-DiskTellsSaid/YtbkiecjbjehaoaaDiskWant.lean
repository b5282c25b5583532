/-
  What the law's want answers of any act: the document's answer.
-/
import Derived.Test.YtbkiecjbjehaoaaDiskDoAny
import Derived.Test.YtbkiecjbjehaoaaDiskRef6
import Derived.Test.YtbkiecjbjehaoaaDiskRef7
import Derived.Test.YtbkiecjbjehaoaaDiskRef8
import Derived.Test.YtbkiecjbjehaoaaDiskRef9
import Derived.Test.YtbkiecjbjehaoaaDiskRef10
namespace Go.Proofs.Ytbkiecjbjehaoaa.Dsk
open Go.RowKit Go.Proofs.Ytbkiecjbjehaoaa.Dp

theorem RkOut.do {w w' : World} {fv : Value} {l0 : List Fl} {R : Dk × Int} {e : Ending} (h : RkOut w fv l0 R e w') : DoOut w fv l0 R e w' := by
  obtain ⟨a, n, c, h1, h2, h3⟩ := h
  exact ⟨_, h1, h2, h3⟩

set_option maxRecDepth 100000 in
set_option maxHeartbeats 1600000 in
theorem want_create (fv : Value) (D : Dk) (r : Ra) (w : World) (hv : IsL FL w fv D.f) (hS : Sm D) (hr : RaOk w r) (ht : r.x.t.size ≤ 1000000000) (hk : r.x.k = 0) :
    Calls Try.prog 12 #[dkVal fv D, raVal r] w (DoOut w fv D.f (create D r.x.n)) := by
  obtain ⟨fa, fn, fc, rfl⟩ : ∃ a n c, fv = .slice a n c := by obtain ⟨a, c, h, _⟩ := hv; exact ⟨a, _, c, h⟩
  obtain ⟨⟨⟨hk1, hk2⟩, ⟨hi1, hi2⟩, hn1, hn2⟩, hks⟩ := hr
  have HV := Lib.hid hv
  have HKS := Lib.hid hks
  have HC := Lib.hid fun (W : World) (h : IsL FL W (.slice fa fn fc) D.f) => rcreate_any _ D r.x.n W h hS hn1

  obtain ⟨⟨rk, ri, rn, rt, re⟩, ra, rcn, rcc⟩ := r
  obtain ⟨g0, g1, g2, gb, gs⟩ := boxes3 w #[.slice fa fn fc, .int .i64 D.c, .bool D.a, .int .i64 D.l, .bool D.x] #[.int .i64 rk, .int .i64 ri, .string rn, .string rt, .slice ra rcn rcc] #[.slice none 0 0, .int .i64 0, .bool false, .int .i64 0, .bool false] 24 27 24
  have G2 := Lib.hid g2
  have GB := Lib.hid gb
  have GS := Lib.hid gs
  dsimp only at *
  generalize (create D rn) = R at *
  clear hv hS hks g0 g1 g2 gb gs
  unfold dkVal raVal
  dsimp only
  subst hk
  go_enter Try.func12, Try.ntmps12
  go_wp2_with fail
  generalize World.alloc (World.alloc (World.alloc w _) _) _ = w0 at G2 GB GS ⊢
  have HL := Lib.hid (show w.heap.size + 1 + 1 < w0.heap.size by have := GS.out; omega)
  refine (HC.out w0 (HV.out.keep GB.out)).mono ?_
  rintro e w1 hres
  obtain ⟨v1, rfl, hk, hb1⟩ := RkOut.do hres
  obtain ⟨ga, gn, gc, rfl⟩ := kept_slice hk rfl
  obtain ⟨q0, q1, q2, q3, q4⟩ := cells5 (hkeep G2.out hb1)
  obtain ⟨qf0, qf1, qf2, qf3, qf4⟩ := frozen5 (hkeep G2.out hb1)
  have HB := Lib.hid (GB.out.trans (hb1.mono GB.out.size))
  have HK := Lib.hid hk
  clear hk hb1
  unfold dkVal
  go_wp2_with fail
  refine bodyPost_ret (v := .tuple #[.agg #[.slice ga gn gc, .int .i64 R.1.c, .bool R.1.a, .int .i64 R.1.l, .bool R.1.x], .int .i64 R.2]) (by simp [results, Try.results12, go_sem, q0, q1, q2, q3, q4]) rfl ?_
  exact ⟨_, rfl, do_set5 HK.out GB.out HL.out _ _ _ _ _, bel_set5 HB.out (by omega) _ _ _ _ _⟩

set_option maxRecDepth 100000 in
set_option maxHeartbeats 1600000 in
theorem want_append (fv : Value) (D : Dk) (r : Ra) (w : World) (hv : IsL FL w fv D.f) (hS : Sm D) (hr : RaOk w r) (ht : r.x.t.size ≤ 1000000000) (hk : r.x.k = 1) :
    Calls Try.prog 12 #[dkVal fv D, raVal r] w (DoOut w fv D.f (append D r.x.n r.x.t)) := by
  obtain ⟨fa, fn, fc, rfl⟩ : ∃ a n c, fv = .slice a n c := by obtain ⟨a, c, h, _⟩ := hv; exact ⟨a, _, c, h⟩
  obtain ⟨⟨⟨hk1, hk2⟩, ⟨hi1, hi2⟩, hn1, hn2⟩, hks⟩ := hr
  have HV := Lib.hid hv
  have HKS := Lib.hid hks
  have HC := Lib.hid fun (W : World) (h : IsL FL W (.slice fa fn fc) D.f) => rappend_any _ D r.x.n r.x.t W h hS ht

  obtain ⟨⟨rk, ri, rn, rt, re⟩, ra, rcn, rcc⟩ := r
  obtain ⟨g0, g1, g2, gb, gs⟩ := boxes3 w #[.slice fa fn fc, .int .i64 D.c, .bool D.a, .int .i64 D.l, .bool D.x] #[.int .i64 rk, .int .i64 ri, .string rn, .string rt, .slice ra rcn rcc] #[.slice none 0 0, .int .i64 0, .bool false, .int .i64 0, .bool false] 24 27 24
  have G2 := Lib.hid g2
  have GB := Lib.hid gb
  have GS := Lib.hid gs
  dsimp only at *
  generalize (append D rn rt) = R at *
  clear hv hS hks g0 g1 g2 gb gs
  unfold dkVal raVal
  dsimp only
  subst hk
  go_enter Try.func12, Try.ntmps12
  go_wp2_with fail
  generalize World.alloc (World.alloc (World.alloc w _) _) _ = w0 at G2 GB GS ⊢
  have HL := Lib.hid (show w.heap.size + 1 + 1 < w0.heap.size by have := GS.out; omega)
  refine (HC.out w0 (HV.out.keep GB.out)).mono ?_
  rintro e w1 hres
  obtain ⟨v1, rfl, hk, hb1⟩ := RkOut.do hres
  obtain ⟨ga, gn, gc, rfl⟩ := kept_slice hk rfl
  obtain ⟨q0, q1, q2, q3, q4⟩ := cells5 (hkeep G2.out hb1)
  obtain ⟨qf0, qf1, qf2, qf3, qf4⟩ := frozen5 (hkeep G2.out hb1)
  have HB := Lib.hid (GB.out.trans (hb1.mono GB.out.size))
  have HK := Lib.hid hk
  clear hk hb1
  unfold dkVal
  go_wp2_with fail
  refine bodyPost_ret (v := .tuple #[.agg #[.slice ga gn gc, .int .i64 R.1.c, .bool R.1.a, .int .i64 R.1.l, .bool R.1.x], .int .i64 R.2]) (by simp [results, Try.results12, go_sem, q0, q1, q2, q3, q4]) rfl ?_
  exact ⟨_, rfl, do_set5 HK.out GB.out HL.out _ _ _ _ _, bel_set5 HB.out (by omega) _ _ _ _ _⟩

set_option maxRecDepth 100000 in
set_option maxHeartbeats 1600000 in
theorem want_sync (fv : Value) (D : Dk) (r : Ra) (w : World) (hv : IsL FL w fv D.f) (hS : Sm D) (hr : RaOk w r) (ht : r.x.t.size ≤ 1000000000) (hk : r.x.k = 2) :
    Calls Try.prog 12 #[dkVal fv D, raVal r] w (DoOut w fv D.f (sync D r.x.n)) := by
  obtain ⟨fa, fn, fc, rfl⟩ : ∃ a n c, fv = .slice a n c := by obtain ⟨a, c, h, _⟩ := hv; exact ⟨a, _, c, h⟩
  obtain ⟨⟨⟨hk1, hk2⟩, ⟨hi1, hi2⟩, hn1, hn2⟩, hks⟩ := hr
  have HV := Lib.hid hv
  have HKS := Lib.hid hks
  have HC := Lib.hid fun (W : World) (h : IsL FL W (.slice fa fn fc) D.f) => rsync_any _ D r.x.n W h hS

  obtain ⟨⟨rk, ri, rn, rt, re⟩, ra, rcn, rcc⟩ := r
  obtain ⟨g0, g1, g2, gb, gs⟩ := boxes3 w #[.slice fa fn fc, .int .i64 D.c, .bool D.a, .int .i64 D.l, .bool D.x] #[.int .i64 rk, .int .i64 ri, .string rn, .string rt, .slice ra rcn rcc] #[.slice none 0 0, .int .i64 0, .bool false, .int .i64 0, .bool false] 24 27 24
  have G2 := Lib.hid g2
  have GB := Lib.hid gb
  have GS := Lib.hid gs
  dsimp only at *
  generalize (sync D rn) = R at *
  clear hv hS hks g0 g1 g2 gb gs
  unfold dkVal raVal
  dsimp only
  subst hk
  go_enter Try.func12, Try.ntmps12
  go_wp2_with fail
  generalize World.alloc (World.alloc (World.alloc w _) _) _ = w0 at G2 GB GS ⊢
  have HL := Lib.hid (show w.heap.size + 1 + 1 < w0.heap.size by have := GS.out; omega)
  refine (HC.out w0 (HV.out.keep GB.out)).mono ?_
  rintro e w1 hres
  obtain ⟨v1, rfl, hk, hb1⟩ := RkOut.do hres
  obtain ⟨ga, gn, gc, rfl⟩ := kept_slice hk rfl
  obtain ⟨q0, q1, q2, q3, q4⟩ := cells5 (hkeep G2.out hb1)
  obtain ⟨qf0, qf1, qf2, qf3, qf4⟩ := frozen5 (hkeep G2.out hb1)
  have HB := Lib.hid (GB.out.trans (hb1.mono GB.out.size))
  have HK := Lib.hid hk
  clear hk hb1
  unfold dkVal
  go_wp2_with fail
  refine bodyPost_ret (v := .tuple #[.agg #[.slice ga gn gc, .int .i64 R.1.c, .bool R.1.a, .int .i64 R.1.l, .bool R.1.x], .int .i64 R.2]) (by simp [results, Try.results12, go_sem, q0, q1, q2, q3, q4]) rfl ?_
  exact ⟨_, rfl, do_set5 HK.out GB.out HL.out _ _ _ _ _, bel_set5 HB.out (by omega) _ _ _ _ _⟩

set_option maxRecDepth 100000 in
set_option maxHeartbeats 1600000 in
theorem want_cut (fv : Value) (D : Dk) (r : Ra) (w : World) (hv : IsL FL w fv D.f) (hS : Sm D) (hr : RaOk w r) (ht : r.x.t.size ≤ 1000000000) (hk : r.x.k = 3) :
    Calls Try.prog 12 #[dkVal fv D, raVal r] w (DoOut w fv D.f (cut D r.x.n r.x.i)) := by
  obtain ⟨fa, fn, fc, rfl⟩ : ∃ a n c, fv = .slice a n c := by obtain ⟨a, c, h, _⟩ := hv; exact ⟨a, _, c, h⟩
  obtain ⟨⟨⟨hk1, hk2⟩, ⟨hi1, hi2⟩, hn1, hn2⟩, hks⟩ := hr
  have HV := Lib.hid hv
  have HKS := Lib.hid hks
  have HC := Lib.hid fun (W : World) (h : IsL FL W (.slice fa fn fc) D.f) => rcut_any _ D r.x.n r.x.i W h hS hi1 hi2

  obtain ⟨⟨rk, ri, rn, rt, re⟩, ra, rcn, rcc⟩ := r
  obtain ⟨g0, g1, g2, gb, gs⟩ := boxes3 w #[.slice fa fn fc, .int .i64 D.c, .bool D.a, .int .i64 D.l, .bool D.x] #[.int .i64 rk, .int .i64 ri, .string rn, .string rt, .slice ra rcn rcc] #[.slice none 0 0, .int .i64 0, .bool false, .int .i64 0, .bool false] 24 27 24
  have G2 := Lib.hid g2
  have GB := Lib.hid gb
  have GS := Lib.hid gs
  dsimp only at *
  generalize (cut D rn ri) = R at *
  clear hv hS hks g0 g1 g2 gb gs
  unfold dkVal raVal
  dsimp only
  subst hk
  go_enter Try.func12, Try.ntmps12
  go_wp2_with fail
  generalize World.alloc (World.alloc (World.alloc w _) _) _ = w0 at G2 GB GS ⊢
  have HL := Lib.hid (show w.heap.size + 1 + 1 < w0.heap.size by have := GS.out; omega)
  refine (HC.out w0 (HV.out.keep GB.out)).mono ?_
  rintro e w1 hres
  obtain ⟨v1, rfl, hk, hb1⟩ := RkOut.do hres
  obtain ⟨ga, gn, gc, rfl⟩ := kept_slice hk rfl
  obtain ⟨q0, q1, q2, q3, q4⟩ := cells5 (hkeep G2.out hb1)
  obtain ⟨qf0, qf1, qf2, qf3, qf4⟩ := frozen5 (hkeep G2.out hb1)
  have HB := Lib.hid (GB.out.trans (hb1.mono GB.out.size))
  have HK := Lib.hid hk
  clear hk hb1
  unfold dkVal
  go_wp2_with fail
  refine bodyPost_ret (v := .tuple #[.agg #[.slice ga gn gc, .int .i64 R.1.c, .bool R.1.a, .int .i64 R.1.l, .bool R.1.x], .int .i64 R.2]) (by simp [results, Try.results12, go_sem, q0, q1, q2, q3, q4]) rfl ?_
  exact ⟨_, rfl, do_set5 HK.out GB.out HL.out _ _ _ _ _, bel_set5 HB.out (by omega) _ _ _ _ _⟩

set_option maxRecDepth 100000 in
set_option maxHeartbeats 1600000 in
theorem want_rename (fv : Value) (D : Dk) (r : Ra) (w : World) (hv : IsL FL w fv D.f) (hS : Sm D) (hr : RaOk w r) (ht : r.x.t.size ≤ 1000000000) (hk : r.x.k = 4) :
    Calls Try.prog 12 #[dkVal fv D, raVal r] w (DoOut w fv D.f (rename D r.x.n r.x.t)) := by
  obtain ⟨fa, fn, fc, rfl⟩ : ∃ a n c, fv = .slice a n c := by obtain ⟨a, c, h, _⟩ := hv; exact ⟨a, _, c, h⟩
  obtain ⟨⟨⟨hk1, hk2⟩, ⟨hi1, hi2⟩, hn1, hn2⟩, hks⟩ := hr
  have HV := Lib.hid hv
  have HKS := Lib.hid hks
  have HC := Lib.hid fun (W : World) (h : IsL FL W (.slice fa fn fc) D.f) => rrename_any _ D r.x.n r.x.t W h hS hn2

  obtain ⟨⟨rk, ri, rn, rt, re⟩, ra, rcn, rcc⟩ := r
  obtain ⟨g0, g1, g2, gb, gs⟩ := boxes3 w #[.slice fa fn fc, .int .i64 D.c, .bool D.a, .int .i64 D.l, .bool D.x] #[.int .i64 rk, .int .i64 ri, .string rn, .string rt, .slice ra rcn rcc] #[.slice none 0 0, .int .i64 0, .bool false, .int .i64 0, .bool false] 24 27 24
  have G2 := Lib.hid g2
  have GB := Lib.hid gb
  have GS := Lib.hid gs
  dsimp only at *
  generalize (rename D rn rt) = R at *
  clear hv hS hks g0 g1 g2 gb gs
  unfold dkVal raVal
  dsimp only
  subst hk
  go_enter Try.func12, Try.ntmps12
  go_wp2_with fail
  generalize World.alloc (World.alloc (World.alloc w _) _) _ = w0 at G2 GB GS ⊢
  have HL := Lib.hid (show w.heap.size + 1 + 1 < w0.heap.size by have := GS.out; omega)
  refine (HC.out w0 (HV.out.keep GB.out)).mono ?_
  rintro e w1 hres
  obtain ⟨v1, rfl, hk, hb1⟩ := RkOut.do hres
  obtain ⟨ga, gn, gc, rfl⟩ := kept_slice hk rfl
  obtain ⟨q0, q1, q2, q3, q4⟩ := cells5 (hkeep G2.out hb1)
  obtain ⟨qf0, qf1, qf2, qf3, qf4⟩ := frozen5 (hkeep G2.out hb1)
  have HB := Lib.hid (GB.out.trans (hb1.mono GB.out.size))
  have HK := Lib.hid hk
  clear hk hb1
  unfold dkVal
  go_wp2_with fail
  refine bodyPost_ret (v := .tuple #[.agg #[.slice ga gn gc, .int .i64 R.1.c, .bool R.1.a, .int .i64 R.1.l, .bool R.1.x], .int .i64 R.2]) (by simp [results, Try.results12, go_sem, q0, q1, q2, q3, q4]) rfl ?_
  exact ⟨_, rfl, do_set5 HK.out GB.out HL.out _ _ _ _ _, bel_set5 HB.out (by omega) _ _ _ _ _⟩

set_option maxRecDepth 100000 in
set_option maxHeartbeats 1600000 in
theorem want_delete (fv : Value) (D : Dk) (r : Ra) (w : World) (hv : IsL FL w fv D.f) (hS : Sm D) (hr : RaOk w r) (ht : r.x.t.size ≤ 1000000000) (hk : r.x.k = 5) :
    Calls Try.prog 12 #[dkVal fv D, raVal r] w (DoOut w fv D.f (delete D r.x.n)) := by
  obtain ⟨fa, fn, fc, rfl⟩ : ∃ a n c, fv = .slice a n c := by obtain ⟨a, c, h, _⟩ := hv; exact ⟨a, _, c, h⟩
  obtain ⟨⟨⟨hk1, hk2⟩, ⟨hi1, hi2⟩, hn1, hn2⟩, hks⟩ := hr
  have HV := Lib.hid hv
  have HKS := Lib.hid hks
  have HC := Lib.hid fun (W : World) (h : IsL FL W (.slice fa fn fc) D.f) => rdelete_any _ D r.x.n W h hS

  obtain ⟨⟨rk, ri, rn, rt, re⟩, ra, rcn, rcc⟩ := r
  obtain ⟨g0, g1, g2, gb, gs⟩ := boxes3 w #[.slice fa fn fc, .int .i64 D.c, .bool D.a, .int .i64 D.l, .bool D.x] #[.int .i64 rk, .int .i64 ri, .string rn, .string rt, .slice ra rcn rcc] #[.slice none 0 0, .int .i64 0, .bool false, .int .i64 0, .bool false] 24 27 24
  have G2 := Lib.hid g2
  have GB := Lib.hid gb
  have GS := Lib.hid gs
  dsimp only at *
  generalize (delete D rn) = R at *
  clear hv hS hks g0 g1 g2 gb gs
  unfold dkVal raVal
  dsimp only
  subst hk
  go_enter Try.func12, Try.ntmps12
  go_wp2_with fail
  generalize World.alloc (World.alloc (World.alloc w _) _) _ = w0 at G2 GB GS ⊢
  have HL := Lib.hid (show w.heap.size + 1 + 1 < w0.heap.size by have := GS.out; omega)
  refine (HC.out w0 (HV.out.keep GB.out)).mono ?_
  rintro e w1 hres
  obtain ⟨v1, rfl, hk, hb1⟩ := RkOut.do hres
  obtain ⟨ga, gn, gc, rfl⟩ := kept_slice hk rfl
  obtain ⟨q0, q1, q2, q3, q4⟩ := cells5 (hkeep G2.out hb1)
  obtain ⟨qf0, qf1, qf2, qf3, qf4⟩ := frozen5 (hkeep G2.out hb1)
  have HB := Lib.hid (GB.out.trans (hb1.mono GB.out.size))
  have HK := Lib.hid hk
  clear hk hb1
  unfold dkVal
  go_wp2_with fail
  refine bodyPost_ret (v := .tuple #[.agg #[.slice ga gn gc, .int .i64 R.1.c, .bool R.1.a, .int .i64 R.1.l, .bool R.1.x], .int .i64 R.2]) (by simp [results, Try.results12, go_sem, q0, q1, q2, q3, q4]) rfl ?_
  exact ⟨_, rfl, do_set5 HK.out GB.out HL.out _ _ _ _ _, bel_set5 HB.out (by omega) _ _ _ _ _⟩

set_option maxRecDepth 100000 in
set_option maxHeartbeats 1600000 in
theorem want_arm (fv : Value) (D : Dk) (r : Ra) (w : World) (hv : IsL FL w fv D.f) (hr : RaOk w r) (ht : r.x.t.size ≤ 1000000000) (hk : r.x.k = 6) :
    Calls Try.prog 12 #[dkVal fv D, raVal r] w (DoOut w fv D.f ((arm D r.x.i), 0)) := by
  obtain ⟨fa, fn, fc, rfl⟩ : ∃ a n c, fv = .slice a n c := by obtain ⟨a, c, h, _⟩ := hv; exact ⟨a, _, c, h⟩
  obtain ⟨⟨⟨hk1, hk2⟩, ⟨hi1, hi2⟩, hn1, hn2⟩, hks⟩ := hr
  have HV := Lib.hid hv
  have HKS := Lib.hid hks
  have HC := Lib.hid fun (W : World) (h : IsL FL W (.slice fa fn fc) D.f) => rarm_val _ D r.x.i W h

  obtain ⟨⟨rk, ri, rn, rt, re⟩, ra, rcn, rcc⟩ := r
  obtain ⟨g0, g1, g2, gb, gs⟩ := boxes3 w #[.slice fa fn fc, .int .i64 D.c, .bool D.a, .int .i64 D.l, .bool D.x] #[.int .i64 rk, .int .i64 ri, .string rn, .string rt, .slice ra rcn rcc] #[.slice none 0 0, .int .i64 0, .bool false, .int .i64 0, .bool false] 24 27 24
  have G2 := Lib.hid g2
  have GB := Lib.hid gb
  have GS := Lib.hid gs
  dsimp only at *
  obtain ⟨R, hR⟩ : ∃ R : Dk × Int, ((arm D ri), (0 : Int)) = R := ⟨_, rfl⟩
  have HRF := Lib.hid (show R.1.f = D.f by rw [← hR]; rfl)
  have HR2 := Lib.hid (show R.2 = 0 by rw [← hR])
  rw [show (arm D ri) = R.1 from by rw [← hR]] at HC
  rw [hR]
  clear hR
  clear hv hks g0 g1 g2 gb gs
  unfold dkVal raVal
  dsimp only
  subst hk
  go_enter Try.func12, Try.ntmps12
  go_wp2_with fail
  generalize World.alloc (World.alloc (World.alloc w _) _) _ = w0 at G2 GB GS ⊢
  have HL := Lib.hid (show w.heap.size + 1 + 1 < w0.heap.size by have := GS.out; omega)
  refine (HC.out w0 (HV.out.keep GB.out)).mono ?_
  rintro e w1 ⟨rfl, hb1⟩
  have hk : KeptOr w1 w0.heap.size (.slice fa fn fc) D.f (.slice fa fn fc) R.1.f := .inl ⟨rfl, HRF.out⟩
  obtain ⟨q0, q1, q2, q3, q4⟩ := cells5 (hkeep G2.out hb1)
  obtain ⟨qf0, qf1, qf2, qf3, qf4⟩ := frozen5 (hkeep G2.out hb1)
  have HB := Lib.hid (GB.out.trans (hb1.mono GB.out.size))
  have HK := Lib.hid hk
  clear hk hb1
  unfold dkVal
  go_wp2_with fail
  refine bodyPost_ret (v := .tuple #[.agg #[.slice fa fn fc, .int .i64 R.1.c, .bool R.1.a, .int .i64 R.1.l, .bool R.1.x], .int .i64 0]) (by simp [results, Try.results12, go_sem, q0, q1, q2, q3, q4]) rfl ?_
  exact ⟨_, by rw [HR2.out]; rfl, do_set5 HK.out GB.out HL.out _ _ _ _ _, bel_set5 HB.out (by omega) _ _ _ _ _⟩

set_option maxRecDepth 100000 in
set_option maxHeartbeats 1600000 in
theorem want_limit (fv : Value) (D : Dk) (r : Ra) (w : World) (hv : IsL FL w fv D.f) (hr : RaOk w r) (ht : r.x.t.size ≤ 1000000000) (hk : r.x.k = 7) :
    Calls Try.prog 12 #[dkVal fv D, raVal r] w (DoOut w fv D.f ((limit D r.x.i), 0)) := by
  obtain ⟨fa, fn, fc, rfl⟩ : ∃ a n c, fv = .slice a n c := by obtain ⟨a, c, h, _⟩ := hv; exact ⟨a, _, c, h⟩
  obtain ⟨⟨⟨hk1, hk2⟩, ⟨hi1, hi2⟩, hn1, hn2⟩, hks⟩ := hr
  have HV := Lib.hid hv
  have HKS := Lib.hid hks
  have HC := Lib.hid fun (W : World) (h : IsL FL W (.slice fa fn fc) D.f) => rlimit_val _ D r.x.i W h

  obtain ⟨⟨rk, ri, rn, rt, re⟩, ra, rcn, rcc⟩ := r
  obtain ⟨g0, g1, g2, gb, gs⟩ := boxes3 w #[.slice fa fn fc, .int .i64 D.c, .bool D.a, .int .i64 D.l, .bool D.x] #[.int .i64 rk, .int .i64 ri, .string rn, .string rt, .slice ra rcn rcc] #[.slice none 0 0, .int .i64 0, .bool false, .int .i64 0, .bool false] 24 27 24
  have G2 := Lib.hid g2
  have GB := Lib.hid gb
  have GS := Lib.hid gs
  dsimp only at *
  obtain ⟨R, hR⟩ : ∃ R : Dk × Int, ((limit D ri), (0 : Int)) = R := ⟨_, rfl⟩
  have HRF := Lib.hid (show R.1.f = D.f by rw [← hR]; rfl)
  have HR2 := Lib.hid (show R.2 = 0 by rw [← hR])
  rw [show (limit D ri) = R.1 from by rw [← hR]] at HC
  rw [hR]
  clear hR
  clear hv hks g0 g1 g2 gb gs
  unfold dkVal raVal
  dsimp only
  subst hk
  go_enter Try.func12, Try.ntmps12
  go_wp2_with fail
  generalize World.alloc (World.alloc (World.alloc w _) _) _ = w0 at G2 GB GS ⊢
  have HL := Lib.hid (show w.heap.size + 1 + 1 < w0.heap.size by have := GS.out; omega)
  refine (HC.out w0 (HV.out.keep GB.out)).mono ?_
  rintro e w1 ⟨rfl, hb1⟩
  have hk : KeptOr w1 w0.heap.size (.slice fa fn fc) D.f (.slice fa fn fc) R.1.f := .inl ⟨rfl, HRF.out⟩
  obtain ⟨q0, q1, q2, q3, q4⟩ := cells5 (hkeep G2.out hb1)
  obtain ⟨qf0, qf1, qf2, qf3, qf4⟩ := frozen5 (hkeep G2.out hb1)
  have HB := Lib.hid (GB.out.trans (hb1.mono GB.out.size))
  have HK := Lib.hid hk
  clear hk hb1
  unfold dkVal
  go_wp2_with fail
  refine bodyPost_ret (v := .tuple #[.agg #[.slice fa fn fc, .int .i64 R.1.c, .bool R.1.a, .int .i64 R.1.l, .bool R.1.x], .int .i64 0]) (by simp [results, Try.results12, go_sem, q0, q1, q2, q3, q4]) rfl ?_
  exact ⟨_, by rw [HR2.out]; rfl, do_set5 HK.out GB.out HL.out _ _ _ _ _, bel_set5 HB.out (by omega) _ _ _ _ _⟩

set_option maxRecDepth 100000 in
set_option maxHeartbeats 1600000 in
theorem want_crash (fv : Value) (D : Dk) (r : Ra) (w : World) (hv : IsL FL w fv D.f) (hS : Sm D) (hr : RaOk w r) (ht : r.x.t.size ≤ 1000000000) (hk : ∀ j : Int, 0 ≤ j → j ≤ 7 → r.x.k ≠ j) :
    Calls Try.prog 12 #[dkVal fv D, raVal r] w (DoOut w fv D.f (crash D r.x.e, 0)) := by
  obtain ⟨fa, fn, fc, rfl⟩ : ∃ a n c, fv = .slice a n c := by obtain ⟨a, c, h, _⟩ := hv; exact ⟨a, _, c, h⟩
  obtain ⟨⟨⟨hk1, hk2⟩, ⟨hi1, hi2⟩, hn1, hn2⟩, hks⟩ := hr
  have HV := Lib.hid hv
  have HKS := Lib.hid hks
  have HC := Lib.hid fun (W : World) (h : IsL FL W (.slice fa fn fc) D.f) (h2 : IsL KL W r.kv r.x.e) => rcrash_any _ D r.kv r.x.e W h hS h2

  obtain ⟨⟨rk, ri, rn, rt, re⟩, ra, rcn, rcc⟩ := r
  obtain ⟨g0, g1, g2, gb, gs⟩ := boxes3 w #[.slice fa fn fc, .int .i64 D.c, .bool D.a, .int .i64 D.l, .bool D.x] #[.int .i64 rk, .int .i64 ri, .string rn, .string rt, .slice ra rcn rcc] #[.slice none 0 0, .int .i64 0, .bool false, .int .i64 0, .bool false] 24 27 24
  have G2 := Lib.hid g2
  have GB := Lib.hid gb
  have GS := Lib.hid gs
  dsimp only at *
  unfold Ra.kv at HC HKS
  dsimp only at HC HKS
  obtain ⟨R, hR⟩ : ∃ R : Dk × Int, (crash D re, (0 : Int)) = R := ⟨_, rfl⟩
  have HRF := Lib.hid (show R.1.f = crashF D.f re by rw [← hR]; rfl)
  have HR2 := Lib.hid (show R.2 = 0 by rw [← hR])
  rw [show crash D re = R.1 from by rw [← hR]] at HC
  rw [hR]
  clear hR
  clear hv hS hks g0 g1 g2 gb gs
  unfold dkVal raVal
  dsimp only
  have n0 : ¬ (rk = 0) := hk 0 (by decide) (by decide)
  have n1 : ¬ (rk = 1) := hk 1 (by decide) (by decide)
  have n2 : ¬ (rk = 2) := hk 2 (by decide) (by decide)
  have n3 : ¬ (rk = 3) := hk 3 (by decide) (by decide)
  have n4 : ¬ (rk = 4) := hk 4 (by decide) (by decide)
  have n5 : ¬ (rk = 5) := hk 5 (by decide) (by decide)
  have n6 : ¬ (rk = 6) := hk 6 (by decide) (by decide)
  have n7 : ¬ (rk = 7) := hk 7 (by decide) (by decide)
  clear hk
  go_enter Try.func12, Try.ntmps12
  go_wp2_with fail
  generalize World.alloc (World.alloc (World.alloc w _) _) _ = w0 at G2 GB GS ⊢
  have HL := Lib.hid (show w.heap.size + 1 + 1 < w0.heap.size by have := GS.out; omega)
  refine (HC.out w0 (HV.out.keep GB.out) (HKS.out.keep GB.out)).mono ?_
  rintro e w1 ⟨v1, rfl, ho, hb1⟩
  have hk : KeptOr w1 w0.heap.size (.slice fa fn fc) D.f v1 R.1.f := .inr (by rw [HRF.out]; exact ho)
  obtain ⟨ga, gn, gc, rfl⟩ := kept_slice hk rfl
  clear ho
  obtain ⟨q0, q1, q2, q3, q4⟩ := cells5 (hkeep G2.out hb1)
  obtain ⟨qf0, qf1, qf2, qf3, qf4⟩ := frozen5 (hkeep G2.out hb1)
  have HB := Lib.hid (GB.out.trans (hb1.mono GB.out.size))
  have HK := Lib.hid hk
  clear hk hb1
  unfold dkVal
  go_wp2_with fail
  refine bodyPost_ret (v := .tuple #[.agg #[.slice ga gn gc, .int .i64 R.1.c, .bool R.1.a, .int .i64 R.1.l, .bool R.1.x], .int .i64 0]) (by simp [results, Try.results12, go_sem, q0, q1, q2, q3, q4]) rfl ?_
  exact ⟨_, by rw [HR2.out]; rfl, do_set5 HK.out GB.out HL.out _ _ _ _ _, bel_set5 HB.out (by omega) _ _ _ _ _⟩

/-- The law's want. -/
theorem want_any (fv : Value) (D : Dk) (r : Ra) (w : World) (hv : IsL FL w fv D.f) (hS : Sm D) (hr : RaOk w r) (ht : r.x.t.size ≤ 1000000000) :
    Calls Try.prog 12 #[dkVal fv D, raVal r] w (DoOut w fv D.f (act D r.x)) := by
  unfold act
  by_cases h0 : r.x.k = 0
  · rw [if_pos h0]; exact want_create fv D r w hv hS hr ht h0
  by_cases h1 : r.x.k = 1
  · rw [if_neg h0, if_pos h1]; exact want_append fv D r w hv hS hr ht h1
  by_cases h2 : r.x.k = 2
  · rw [if_neg h0, if_neg h1, if_pos h2]; exact want_sync fv D r w hv hS hr ht h2
  by_cases h3 : r.x.k = 3
  · rw [if_neg h0, if_neg h1, if_neg h2, if_pos h3]; exact want_cut fv D r w hv hS hr ht h3
  by_cases h4 : r.x.k = 4
  · rw [if_neg h0, if_neg h1, if_neg h2, if_neg h3, if_pos h4]; exact want_rename fv D r w hv hS hr ht h4
  by_cases h5 : r.x.k = 5
  · rw [if_neg h0, if_neg h1, if_neg h2, if_neg h3, if_neg h4, if_pos h5]; exact want_delete fv D r w hv hS hr ht h5
  by_cases h6 : r.x.k = 6
  · rw [if_neg h0, if_neg h1, if_neg h2, if_neg h3, if_neg h4, if_neg h5, if_pos h6]; exact want_arm fv D r w hv hr ht h6
  by_cases h7 : r.x.k = 7
  · rw [if_neg h0, if_neg h1, if_neg h2, if_neg h3, if_neg h4, if_neg h5, if_neg h6, if_pos h7]; exact want_limit fv D r w hv hr ht h7
  rw [if_neg h0, if_neg h1, if_neg h2, if_neg h3, if_neg h4, if_neg h5, if_neg h6, if_neg h7]
  exact want_crash fv D r w hv hS hr ht (fun j hj1 hj2 => by intro e; omega)

end Go.Proofs.Ytbkiecjbjehaoaa.Dsk
