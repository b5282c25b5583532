/-
  How many bytes all files have; what the steps of a file answer.
-/
import Derived.Test.YtbkiecjbjehaoaaDiskChg
import Derived.Test.YtbkiecjbjehaoaaDiskFacts
import Derived.Deep.RegionHeld3
import Derived.Deep.DeepCutAuto
import Derived.RegionTactic
namespace Go.Proofs.Ytbkiecjbjehaoaa.Dsk
open Go.RowKit Go.Proofs.Ytbkiecjbjehaoaa.Dp

theorem used_take {l : List Fl} {k : Nat} {z : Fl} (h : k < l.length) : used (l.take (k + 1)) = used (l.take k) + (l.getD k z).d.size := by
  rw [take_snocD (z := z) h, used_append, used_cons]
  rfl
theorem used_take_le (l : List Fl) (k : Nat) : used (l.take k) ≤ used l := by
  have h : used (l.take k ++ l.drop k) = used (l.take k) + used (l.drop k) := used_append _ _
  rw [List.take_append_drop] at h
  omega

set_option maxRecDepth 100000 in
set_option maxHeartbeats 1600000 in
theorem used_some (b off cap : Nat) (l : List Fl) (c d : Int) (a x : Bool) (w : World) (hv : IsL FL w (.slice (some ⟨b, off, none⟩) l.length cap) l) (hs : used l ≤ 4000000000000000000) :
    Calls Try.prog 18 #[.agg #[.slice (some ⟨b, off, none⟩) l.length cap, .int .i64 c, .bool a, .int .i64 d, .bool x]] w fun e w' => e = .returned (.int .i64 (used l : Int)) ∧ Below w.heap.size w w' := by
  have HC := Lib.hid fun i (hi : i < l.length) => at3 hv hi
  have HT := Lib.hid fun k (hk : k < l.length) => used_take (z := zero) hk
  have HE := Lib.hid fun k => used_take_le l k
  have HA := Lib.hid (show ∀ k, l.length ≤ k → used (l.take k) = used l from fun k hk => by rw [List.take_of_length_le hk])
  have hl := hv.len.2
  unfold maxLen at hl
  clear hv
  obtain ⟨u, hu⟩ : ∃ u, used l = u := ⟨_, rfl⟩
  rw [hu] at hs HE HA ⊢
  have H0 := Lib.hid (show used (l.take 0) = 0 from rfl)
  obtain ⟨len, hlen⟩ : ∃ len, l.length = len := ⟨_, rfl⟩
  rw [hlen] at hl HC HT HA ⊢
  clear hlen hu
  go_enter Try.func18, Try.ntmps18
  go_wp2_with fail
  go_loopw [3, 9] (fun s i wr => ∃ k : Nat, k ≤ len ∧ i = .int .i64 k ∧ s = .int .i64 (used (l.take k) : Int) ∧ Below w.heap.size w wr) (fun _ i _ => len - (intOf i).toNat)
  case atStart => exact ⟨0, Nat.zero_le _, rfl, by rw [H0.out]; rfl, (Below.refl _ _).alloc (Nat.le_refl _) _⟩
  case round =>
    obtain ⟨k, hk, rfl, rfl, bel⟩ := hrel
    by_cases hlt : k < len
    · obtain ⟨c0, c1, c2⟩ := HC.out k hlt
      have hbb := block_lt_of_cell c0
      have z0 : wr.cell? ⟨b, off + k * 3, none⟩ = some (.string (l.getD k zero).n) := by rw [bel.cell (p := ⟨b, off + k * 3, none⟩) hbb]; exact c0
      have z1 : wr.cell? ⟨b, off + k * 3 + 1, none⟩ = some (.string (l.getD k zero).d) := by rw [bel.cell (p := ⟨b, off + k * 3 + 1, none⟩) hbb]; exact c1
      have z2 : wr.cell? ⟨b, off + k * 3 + 2, none⟩ = some (.int .i64 (l.getD k zero).s) := by rw [bel.cell (p := ⟨b, off + k * 3 + 2, none⟩) hbb]; exact c2
      have ht := HT.out k hlt
      have hle := HE.out (k + 1)
      have B2 := Lib.hid (bel.alloc bel.size (.cells #[.string (l.getD k zero).n, .string (l.getD k zero).d, .int .i64 (l.getD k zero).s] 43))
      clear c0 c1 c2
      obtain ⟨m, hm⟩ : ∃ m, used (l.take k) = m := ⟨_, rfl⟩
      rw [hm] at ht ⊢
      have HM := Lib.hid ht
      rw [ht] at hle
      clear ht hm
      generalize l.getD k zero = p at *
      go_wp2_with fail
      go_roundw
      case rel => exact ⟨k + 1, by omega, by go_num, by rw [HM.out]; go_num, B2.out⟩
      case measure => simp [intOf]; omega
    · have HF := Lib.hid (HA.out k (by omega))
      go_wp2_with fail
      go_ret
      refine ⟨?_, bel⟩
      rw [HF.out]
      rfl

set_option maxRecDepth 100000 in
theorem used_none (fa : Option Addr) (cap : Nat) (c d : Int) (a x : Bool) (w : World) :
    Calls Try.prog 18 #[.agg #[.slice fa 0 cap, .int .i64 c, .bool a, .int .i64 d, .bool x]] w fun e w' => e = .returned (.int .i64 0) ∧ Below w.heap.size w w' := by
  go_enter Try.func18, Try.ntmps18
  go_wp2_with fail
  refine wp_loop_rounds 1 ?_
  rw [rounds_succ]
  go_wp2_with fail
  go_ret
  exact ⟨rfl, (Below.refl _ _).alloc (Nat.le_refl _) _⟩
/-- disk's Used. -/
theorem used_any (fv : Value) (l : List Fl) (c d : Int) (a x : Bool) (w : World) (hv : IsL FL w fv l) (hs : used l ≤ 4000000000000000000) :
    Calls Try.prog 18 #[.agg #[fv, .int .i64 c, .bool a, .int .i64 d, .bool x]] w fun e w' => e = .returned (.int .i64 (used l : Int)) ∧ Below w.heap.size w w' := by
  have hv' := hv
  obtain ⟨fa, cap, rfl, _, _, h3⟩ := hv
  rcases h3 with rfl | ⟨b, off, rfl, _⟩
  · exact used_none fa cap c d a x w
  · exact used_some b off cap l c d a x w hv' hs

/-- What a step of one file answers. -/
def FileOut (w : World) (f : Fl) (er : Int) (e : Ending) (w' : World) : Prop := e = .returned (.tuple #[.agg #[.string f.n, .string f.d, .int .i64 f.s], .int .i64 er]) ∧ Below w.heap.size w w'

set_option maxRecDepth 100000 in
theorem allSure_any (f : Fl) (w : World) :
    Calls Try.prog 49 #[.agg #[.string f.n, .string f.d, .int .i64 f.s]] w (FileOut w ⟨f.n, f.d, f.d.size⟩ 0) := by
  go_enter Try.func49, Try.ntmps49
  go_wp2_with fail
  refine bodyPost_ret (v := .tuple #[.agg #[.string f.n, .string f.d, .int .i64 (f.d.size : Int)], .int .i64 0]) (by simp [results, Try.results49, go_sem]) rfl ?_
  exact ⟨rfl, ((Below.refl _ _).alloc (Nat.le_refl _) _).alloc (by simp) _⟩

set_option maxRecDepth 100000 in
theorem cut1_no (f : Fl) (n : Int) (b1 : Nat) (w : World) (hb : f.d.size ≤ 9223372036854775807) (h1 : w.cell? ⟨b1, 0, none⟩ = some (.int .i64 n)) (h : n < 0 ∨ (f.d.size : Int) < n) :
    Calls Try.prog 50 #[.agg #[.string f.n, .string f.d, .int .i64 f.s], .pointer (some ⟨b1, 0, none⟩)] w (FileOut w f 6) := by
  have hb1 := block_lt_of_cell h1
  rcases h with h | h
  · go_enter Try.func50, Try.ntmps50
    go_wp2_with fail
    refine bodyPost_ret (v := .tuple #[.agg #[.string f.n, .string f.d, .int .i64 f.s], .int .i64 6]) (by simp [results, Try.results50, go_sem]) rfl ?_
    exact ⟨rfl, ((Below.refl _ _).alloc (Nat.le_refl _) _).alloc (by simp) _⟩
  · have h0 : ¬ (n < 0) := by omega
    go_enter Try.func50, Try.ntmps50
    go_wp2_with fail
    refine bodyPost_ret (v := .tuple #[.agg #[.string f.n, .string f.d, .int .i64 f.s], .int .i64 6]) (by simp [results, Try.results50, go_sem]) rfl ?_
    exact ⟨rfl, ((Below.refl _ _).alloc (Nat.le_refl _) _).alloc (by simp) _⟩

set_option maxRecDepth 100000 in
set_option maxHeartbeats 1600000 in
theorem cut1_yes (f : Fl) (n : Nat) (b1 : Nat) (w : World) (h1 : w.cell? ⟨b1, 0, none⟩ = some (.int .i64 (n : Int))) (h : n ≤ f.d.size) :
    Calls Try.prog 50 #[.agg #[.string f.n, .string f.d, .int .i64 f.s], .pointer (some ⟨b1, 0, none⟩)] w (FileOut w ⟨f.n, f.d.extract 0 n, min f.s n⟩ 0) := by
  have hb1 := block_lt_of_cell h1
  have h0 : ¬ ((n : Int) < 0) := by omega
  have h2 : ¬ ((f.d.size : Int) < (n : Int)) := by omega
  go_enter Try.func50, Try.ntmps50
  go_wp2_with fail
  go_region
  go_wp2_with fail
  refine bodyPost_ret (v := .tuple #[.agg #[.string f.n, .string (f.d.extract 0 n), .int .i64 (min f.s n)], .int .i64 0]) (by simp [results, Try.results50, go_sem]) rfl ?_
  exact ⟨rfl, (((Below.refl _ _).alloc (Nat.le_refl _) _).alloc (by simp) _).drew⟩

/-- What is kept of six cells while old blocks stay. -/
theorem keep6 {w W W' : World} {b1 b2 : Nat} {x y z u v s : Value} (h : W.cell? ⟨b1, 0, none⟩ = some x ∧ W.cell? ⟨b1, 1, none⟩ = some y ∧ W.cell? ⟨b1, 2, none⟩ = some z ∧ W.cell? ⟨b1, 3, none⟩ = some u ∧ W.cell? ⟨b1, 4, none⟩ = some v ∧ W.cell? ⟨b2, 0, none⟩ = some s ∧ Below w.heap.size w W)
    (b : Below W.heap.size W W') : W'.cell? ⟨b1, 0, none⟩ = some x ∧ W'.cell? ⟨b1, 1, none⟩ = some y ∧ W'.cell? ⟨b1, 2, none⟩ = some z ∧ W'.cell? ⟨b1, 3, none⟩ = some u ∧ W'.cell? ⟨b1, 4, none⟩ = some v ∧ W'.cell? ⟨b2, 0, none⟩ = some s ∧ Below w.heap.size w W' := by
  obtain ⟨h0, h1, h2, h3, h4, h5, hb⟩ := h
  have l1 := block_lt_of_cell h0
  have l2 := block_lt_of_cell h5
  exact ⟨(b.cell (p := ⟨b1, 0, none⟩) l1).trans h0, (b.cell (p := ⟨b1, 1, none⟩) l1).trans h1, (b.cell (p := ⟨b1, 2, none⟩) l1).trans h2, (b.cell (p := ⟨b1, 3, none⟩) l1).trans h3, (b.cell (p := ⟨b1, 4, none⟩) l1).trans h4, (b.cell (p := ⟨b2, 0, none⟩) l2).trans h5, hb.trans (b.mono hb.size)⟩
theorem have6 {W W' : World} {b1 b2 : Nat} {x y z u v s : Value} {T : TypeId} (hp : W.heap[b1]? = some (.cells #[x, y, z, u, v] T (0, 0))) (h2 : W.cell? ⟨b2, 0, none⟩ = some s) (b : Below W.heap.size W W') :
    W'.cell? ⟨b1, 0, none⟩ = some x ∧ W'.cell? ⟨b1, 1, none⟩ = some y ∧ W'.cell? ⟨b1, 2, none⟩ = some z ∧ W'.cell? ⟨b1, 3, none⟩ = some u ∧ W'.cell? ⟨b1, 4, none⟩ = some v ∧ W'.cell? ⟨b2, 0, none⟩ = some s ∧ Below W.heap.size W W' := by
  obtain ⟨p0, p1, p2, p3, p4⟩ := cells5 hp
  exact keep6 ⟨p0, p1, p2, p3, p4, h2, Below.refl _ _⟩ b

set_option maxRecDepth 100000 in
set_option maxHeartbeats 1600000 in
theorem append1_free (f : Fl) (s : ByteArray) (fv : Value) (D : Dk) (b1 b2 : Nat) (w : World) (hp : w.heap[b1]? = some (.cells #[fv, .int .i64 D.c, .bool D.a, .int .i64 D.l, .bool D.x] 24 (0, 0))) (h2 : w.cell? ⟨b2, 0, none⟩ = some (.string s))
    (hs : f.d.size + s.size ≤ 4000000000000000000) (h : D.c = 0) :
    Calls Try.prog 48 #[.agg #[.string f.n, .string f.d, .int .i64 f.s], .pointer (some ⟨b1, 0, none⟩), .pointer (some ⟨b2, 0, none⟩)] w (FileOut w ⟨f.n, f.d ++ s, f.s⟩ 0) := by
  have l1 := (Array.getElem?_eq_some_iff.1 hp).1
  have l2 := block_lt_of_cell h2
  obtain ⟨p0, p1, p2, p3, p4⟩ := cells5 hp
  have hs1 : ¬ 9223372036854775807 < f.d.size + s.size := by omega
  rw [h] at p1
  clear hp hs
  go_enter Try.func48, Try.ntmps48
  go_wp2_with fail
  go_quiet (fail)
  obtain ⟨g0, g1, bb, gs⟩ := boxes2 w #[.string f.n, .string f.d, .int .i64 f.s] #[.string ⟨#[]⟩, .string ⟨#[]⟩, .int .i64 0] 43 43
  have hd := hkeep g0 (bel_drewN nq)
  have hr := hkeep g1 (bel_drewN nq)
  have hb := bb.trans ((bel_drewN nq).mono (by omega))
  generalize World.drewN _ nq = w1 at hd hr hb ⊢
  have x2 : w1.cell? ⟨b2, 0, none⟩ = some (.string s) := by rw [hb.cell (p := ⟨b2, 0, none⟩) l2]; exact h2
  obtain ⟨d0, d1, d2⟩ := cells3 hd
  obtain ⟨e0, e1, e2⟩ := frozen3 hd
  obtain ⟨r0, r1, r2⟩ := cells3 hr
  obtain ⟨q0, q1, q2⟩ := frozen3 hr
  clear g0 g1 bb gs hd hr p0 p1 p2 p3 p4
  go_wp2_with fail
  refine bodyPost_ret (v := .tuple #[.agg #[.string f.n, .string (f.d ++ s), .int .i64 f.s], .int .i64 0]) (by simp [results, Try.results48, go_sem, r0, r1, r2]) rfl ?_
  exact ⟨rfl, bel_st3 (hb.setCell (p := ⟨w.heap.size, 1, none⟩) (Nat.le_refl _) _) (Nat.le_succ _) _ _ _⟩

set_option maxRecDepth 100000 in
set_option maxHeartbeats 3200000 in
theorem append1_full (f : Fl) (s : ByteArray) (fv : Value) (D : Dk) (b1 b2 : Nat) (w : World) (hp : w.heap[b1]? = some (.cells #[fv, .int .i64 D.c, .bool D.a, .int .i64 D.l, .bool D.x] 24 (0, 0))) (h2 : w.cell? ⟨b2, 0, none⟩ = some (.string s))
    (hv : IsL FL w fv D.f) (hu : used D.f ≤ 4000000000000000000) (hs : f.d.size + s.size ≤ 4000000000000000000) (h0 : 0 < D.c) (hc : D.c ≤ 9223372036854775807) (hx : D.c < (used D.f : Int) + (s.size : Int)) :
    Calls Try.prog 48 #[.agg #[.string f.n, .string f.d, .int .i64 f.s], .pointer (some ⟨b1, 0, none⟩), .pointer (some ⟨b2, 0, none⟩)] w (FileOut w f 9) := by
  have l1 := (Array.getElem?_eq_some_iff.1 hp).1
  have l2 := block_lt_of_cell h2
  have U := fun (W : World) (h : IsL FL W fv D.f) => used_any fv D.f D.c D.l D.a D.x W h hu
  have HV := Lib.hid hv
  have hs1 : ¬ 9223372036854775807 < f.d.size + s.size := by omega
  have H6 := Lib.hid fun W' b => have6 (W' := W') hp h2 b
  obtain ⟨u, hue⟩ : ∃ u, used D.f = u := ⟨_, rfl⟩
  rw [hue] at U hu hx
  have U := Lib.hid U
  have hcne : ¬ (D.c = 0) := by omega
  have hcb : (D.c != 0) = true := by simp [hcne]
  have hs2 : (s.size : Int) ≤ 4000000000000000000 := by omega
  have hu2 : (u : Int) ≤ 4000000000000000000 := by omega
  have hcmp : D.c - (u : Int) < (s.size : Int) := by omega
  obtain ⟨fl, c, a, d, x⟩ := D
  dsimp only at *
  clear hp hs hv hue hu h2 hx
  obtain ⟨g0, g1, bb, gs⟩ := boxes2 w #[.string f.n, .string f.d, .int .i64 f.s] #[.string ⟨#[]⟩, .string ⟨#[]⟩, .int .i64 0] 43 43
  have G0 := Lib.hid g0
  have G1 := Lib.hid g1
  have BB := Lib.hid bb
  have GS := Lib.hid gs
  clear g0 g1 gs bb
  go_enter Try.func48, Try.ntmps48
  go_wp2_with fail
  generalize (w.alloc _).alloc _ = w0 at G0 G1 BB GS ⊢
  have K0 := H6.out w0 BB.out
  have K1 : w0.cell? ⟨b1, 0, none⟩ = some fv ∧ w0.cell? ⟨b1, 1, none⟩ = some (.int .i64 c) ∧ w0.cell? ⟨b1, 2, none⟩ = some (.bool a) ∧ w0.cell? ⟨b1, 3, none⟩ = some (.int .i64 d) ∧ w0.cell? ⟨b1, 4, none⟩ = some (.bool x) ∧ w0.cell? ⟨b2, 0, none⟩ = some (.string s) ∧ Below w0.heap.size w0 w0 := by
    obtain ⟨k0, k1, k2, k3, k4, k5, _⟩ := K0
    exact ⟨k0, k1, k2, k3, k4, k5, Below.refl _ _⟩
  have HB := Lib.hid fun W (b : Below w0.heap.size w0 W) => BB.out.trans (b.mono (by have := GS.out; omega))
  have HV0 := Lib.hid fun W (b : Below w0.heap.size w0 W) => HV.out.keep (HB.out W b)
  have hw : IntKind.i64.wrap (c - (u : Int)) = c - (u : Int) := by rw [IntKind.wrap_i64]; omega
  clear K0
  go_region_held3 (fun w' => w'.cell? ⟨b1, 0, none⟩ = some fv ∧ w'.cell? ⟨b1, 1, none⟩ = some (.int .i64 c) ∧ w'.cell? ⟨b1, 2, none⟩ = some (.bool a) ∧ w'.cell? ⟨b1, 3, none⟩ = some (.int .i64 d) ∧ w'.cell? ⟨b1, 4, none⟩ = some (.bool x) ∧ w'.cell? ⟨b2, 0, none⟩ = some (.string s) ∧ Below w0.heap.size w0 w')
    (first | assumption | exact keep6 (by assumption) (Below.refl _ _).drew | exact keep6 (by assumption) (by assumption))
    (first | (go_at_call 18; refine (U.out _ (HV0.out _ (by obtain ⟨_, _, _, _, _, _, h⟩ := ‹_ ∧ _ ∧ _ ∧ _ ∧ _ ∧ _ ∧ Below w0.heap.size w0 _›; exact h))).mono ?_; rintro e w4 ⟨rfl, b4⟩))
  obtain ⟨_, _, _, _, _, x2, hb0⟩ := ‹_ ∧ _ ∧ _ ∧ _ ∧ _ ∧ _ ∧ Below w0.heap.size w0 w4›
  obtain ⟨d0, d1, d2⟩ := cells3 (hkeep G0.out hb0)
  obtain ⟨e0, e1, e2⟩ := frozen3 (hkeep G0.out hb0)
  obtain ⟨r0, r1, r2⟩ := cells3 (hkeep G1.out hb0)
  obtain ⟨q0, q1, q2⟩ := frozen3 (hkeep G1.out hb0)
  have hb := HB.out _ hb0
  go_wp2_with fail
  refine bodyPost_ret (v := .tuple #[.agg #[.string f.n, .string f.d, .int .i64 f.s], .int .i64 9]) (by simp [results, Try.results48, go_sem, r0, r1, r2]) rfl ?_
  exact ⟨rfl, bel_st3 hb (Nat.le_succ _) _ _ _⟩

set_option maxRecDepth 100000 in
set_option maxHeartbeats 3200000 in
theorem append1_room (f : Fl) (s : ByteArray) (fv : Value) (D : Dk) (b1 b2 : Nat) (w : World) (hp : w.heap[b1]? = some (.cells #[fv, .int .i64 D.c, .bool D.a, .int .i64 D.l, .bool D.x] 24 (0, 0))) (h2 : w.cell? ⟨b2, 0, none⟩ = some (.string s))
    (hv : IsL FL w fv D.f) (hu : used D.f ≤ 4000000000000000000) (hs : f.d.size + s.size ≤ 4000000000000000000) (h0 : 0 < D.c) (hc : D.c ≤ 9223372036854775807) (hx : (used D.f : Int) + (s.size : Int) ≤ D.c) :
    Calls Try.prog 48 #[.agg #[.string f.n, .string f.d, .int .i64 f.s], .pointer (some ⟨b1, 0, none⟩), .pointer (some ⟨b2, 0, none⟩)] w (FileOut w ⟨f.n, f.d ++ s, f.s⟩ 0) := by
  have l1 := (Array.getElem?_eq_some_iff.1 hp).1
  have l2 := block_lt_of_cell h2
  have U := fun (W : World) (h : IsL FL W fv D.f) => used_any fv D.f D.c D.l D.a D.x W h hu
  have HV := Lib.hid hv
  have hs1 : ¬ 9223372036854775807 < f.d.size + s.size := by omega
  have H6 := Lib.hid fun W' b => have6 (W' := W') hp h2 b
  obtain ⟨u, hue⟩ : ∃ u, used D.f = u := ⟨_, rfl⟩
  rw [hue] at U hu hx
  have U := Lib.hid U
  have hcne : ¬ (D.c = 0) := by omega
  have hcb : (D.c != 0) = true := by simp [hcne]
  have hs2 : (s.size : Int) ≤ 4000000000000000000 := by omega
  have hu2 : (u : Int) ≤ 4000000000000000000 := by omega
  have hcmp : ¬ (D.c - (u : Int) < (s.size : Int)) := by omega
  obtain ⟨fl, c, a, d, x⟩ := D
  dsimp only at *
  clear hp hs hv hue hu h2 hx
  obtain ⟨g0, g1, bb, gs⟩ := boxes2 w #[.string f.n, .string f.d, .int .i64 f.s] #[.string ⟨#[]⟩, .string ⟨#[]⟩, .int .i64 0] 43 43
  have G0 := Lib.hid g0
  have G1 := Lib.hid g1
  have BB := Lib.hid bb
  have GS := Lib.hid gs
  clear g0 g1 gs bb
  go_enter Try.func48, Try.ntmps48
  go_wp2_with fail
  generalize (w.alloc _).alloc _ = w0 at G0 G1 BB GS ⊢
  have K0 := H6.out w0 BB.out
  have K1 : w0.cell? ⟨b1, 0, none⟩ = some fv ∧ w0.cell? ⟨b1, 1, none⟩ = some (.int .i64 c) ∧ w0.cell? ⟨b1, 2, none⟩ = some (.bool a) ∧ w0.cell? ⟨b1, 3, none⟩ = some (.int .i64 d) ∧ w0.cell? ⟨b1, 4, none⟩ = some (.bool x) ∧ w0.cell? ⟨b2, 0, none⟩ = some (.string s) ∧ Below w0.heap.size w0 w0 := by
    obtain ⟨k0, k1, k2, k3, k4, k5, _⟩ := K0
    exact ⟨k0, k1, k2, k3, k4, k5, Below.refl _ _⟩
  have HB := Lib.hid fun W (b : Below w0.heap.size w0 W) => BB.out.trans (b.mono (by have := GS.out; omega))
  have HV0 := Lib.hid fun W (b : Below w0.heap.size w0 W) => HV.out.keep (HB.out W b)
  have hw : IntKind.i64.wrap (c - (u : Int)) = c - (u : Int) := by rw [IntKind.wrap_i64]; omega
  clear K0
  go_region_held3 (fun w' => w'.cell? ⟨b1, 0, none⟩ = some fv ∧ w'.cell? ⟨b1, 1, none⟩ = some (.int .i64 c) ∧ w'.cell? ⟨b1, 2, none⟩ = some (.bool a) ∧ w'.cell? ⟨b1, 3, none⟩ = some (.int .i64 d) ∧ w'.cell? ⟨b1, 4, none⟩ = some (.bool x) ∧ w'.cell? ⟨b2, 0, none⟩ = some (.string s) ∧ Below w0.heap.size w0 w')
    (first | assumption | exact keep6 (by assumption) (Below.refl _ _).drew | exact keep6 (by assumption) (by assumption))
    (first | (go_at_call 18; refine (U.out _ (HV0.out _ (by obtain ⟨_, _, _, _, _, _, h⟩ := ‹_ ∧ _ ∧ _ ∧ _ ∧ _ ∧ _ ∧ Below w0.heap.size w0 _›; exact h))).mono ?_; rintro e w4 ⟨rfl, b4⟩))
  obtain ⟨_, _, _, _, _, x2, hb0⟩ := ‹_ ∧ _ ∧ _ ∧ _ ∧ _ ∧ _ ∧ Below w0.heap.size w0 w4›
  obtain ⟨d0, d1, d2⟩ := cells3 (hkeep G0.out hb0)
  obtain ⟨e0, e1, e2⟩ := frozen3 (hkeep G0.out hb0)
  obtain ⟨r0, r1, r2⟩ := cells3 (hkeep G1.out hb0)
  obtain ⟨q0, q1, q2⟩ := frozen3 (hkeep G1.out hb0)
  have hb := HB.out _ hb0
  go_wp2_with fail
  refine bodyPost_ret (v := .tuple #[.agg #[.string f.n, .string (f.d ++ s), .int .i64 f.s], .int .i64 0]) (by simp [results, Try.results48, go_sem, r0, r1, r2]) rfl ?_
  exact ⟨rfl, bel_st3 (hb.setCell (p := ⟨w.heap.size, 1, none⟩) (Nat.le_refl _) _) (Nat.le_succ _) _ _ _⟩

end Go.Proofs.Ytbkiecjbjehaoaa.Dsk
