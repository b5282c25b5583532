/-
  Parts of what the laws of this seat stand on: DiskUsed, DiskStep, DiskRen.
-/
import Derived.Deep.DeepCutAuto
import Derived.Deep.RegionHeld3
import Derived.Deep.RegionWith
import Derived.RegionTactic
import Derived.Test.YthhhocgpoenigaaGreatBu3
namespace Go.Proofs.YthhhocgpoenigaaGreat.Dsk
open Go.RowKit Go.Proofs.YthhhocgpoenigaaGreat.Dp

theorem used_take {l : List Fl} {k : Nat} {z : Fl} (h : k < l.length) : used (l.take (k + 1)) = used (l.take k) + (l.getD k z).d.size := by
  rw [take_snocD (z := z) h, used_append, used_cons]
  rfl
theorem used_take_le (l : List Fl) (k : Nat) : used (l.take k) ≤ used l := by
  have h : used (l.take k ++ l.drop k) = used (l.take k) + used (l.drop k) := used_append _ _
  rw [List.take_append_drop] at h
  omega

set_option maxRecDepth 100000 in
set_option maxHeartbeats 1600000 in
theorem used_some (b off cap : Nat) (l : List Fl) (c d : Int) (a x : Bool) (w : World) (hv : IsL FL w (.slice (some ⟨b, off, none⟩) l.length cap) l) (hs : used l ≤ 4000000000000000000) :
    Calls Tryz.prog 126 #[.agg #[.slice (some ⟨b, off, none⟩) l.length cap, .int .i64 c, .bool a, .int .i64 d, .bool x]] w fun e w' => e = .returned (.int .i64 (used l : Int)) ∧ Below w.heap.size w w' := by
  have HC := Lib.hid fun i (hi : i < l.length) => at3 hv hi
  have HT := Lib.hid fun k (hk : k < l.length) => used_take (z := zero) hk
  have HE := Lib.hid fun k => used_take_le l k
  have HA := Lib.hid (show ∀ k, l.length ≤ k → used (l.take k) = used l from fun k hk => by rw [List.take_of_length_le hk])
  have hl := hv.len.2
  unfold maxLen at hl
  clear hv
  obtain ⟨u, hu⟩ : ∃ u, used l = u := ⟨_, rfl⟩
  rw [hu] at hs HE HA ⊢
  have H0 := Lib.hid (show used (l.take 0) = 0 from rfl)
  obtain ⟨len, hlen⟩ : ∃ len, l.length = len := ⟨_, rfl⟩
  rw [hlen] at hl HC HT HA ⊢
  clear hlen hu
  go_enter Tryz.func126, Tryz.ntmps126
  go_wp2_with fail
  go_loopw [3, 9] (fun s i wr => ∃ k : Nat, k ≤ len ∧ i = .int .i64 k ∧ s = .int .i64 (used (l.take k) : Int) ∧ Below w.heap.size w wr) (fun _ i _ => len - (intOf i).toNat)
  case atStart => exact ⟨0, Nat.zero_le _, rfl, by rw [H0.out]; rfl, (Below.refl _ _).alloc (Nat.le_refl _) _⟩
  case round =>
    obtain ⟨k, hk, rfl, rfl, bel⟩ := hrel
    by_cases hlt : k < len
    · obtain ⟨c0, c1, c2⟩ := HC.out k hlt
      have hbb := block_lt_of_cell c0
      have z0 : wr.cell? ⟨b, off + k * 3, none⟩ = some (.string (l.getD k zero).n) := by rw [bel.cell (p := ⟨b, off + k * 3, none⟩) hbb]; exact c0
      have z1 : wr.cell? ⟨b, off + k * 3 + 1, none⟩ = some (.string (l.getD k zero).d) := by rw [bel.cell (p := ⟨b, off + k * 3 + 1, none⟩) hbb]; exact c1
      have z2 : wr.cell? ⟨b, off + k * 3 + 2, none⟩ = some (.int .i64 (l.getD k zero).s) := by rw [bel.cell (p := ⟨b, off + k * 3 + 2, none⟩) hbb]; exact c2
      have ht := HT.out k hlt
      have hle := HE.out (k + 1)
      have B2 := Lib.hid (bel.alloc bel.size (.cells #[.string (l.getD k zero).n, .string (l.getD k zero).d, .int .i64 (l.getD k zero).s] 81))
      clear c0 c1 c2
      obtain ⟨m, hm⟩ : ∃ m, used (l.take k) = m := ⟨_, rfl⟩
      rw [hm] at ht ⊢
      have HM := Lib.hid ht
      rw [ht] at hle
      clear ht hm
      generalize l.getD k zero = p at *
      go_wp2_with fail
      go_roundw
      case rel => exact ⟨k + 1, by omega, by go_num, by rw [HM.out]; go_num, B2.out⟩
      case measure => simp [intOf]; omega
    · have HF := Lib.hid (HA.out k (by omega))
      go_wp2_with fail
      go_ret
      refine ⟨?_, bel⟩
      rw [HF.out]
      rfl

set_option maxRecDepth 100000 in
theorem used_none (fa : Option Addr) (cap : Nat) (c d : Int) (a x : Bool) (w : World) :
    Calls Tryz.prog 126 #[.agg #[.slice fa 0 cap, .int .i64 c, .bool a, .int .i64 d, .bool x]] w fun e w' => e = .returned (.int .i64 0) ∧ Below w.heap.size w w' := by
  go_enter Tryz.func126, Tryz.ntmps126
  go_wp2_with fail
  refine wp_loop_rounds 1 ?_
  rw [rounds_succ]
  go_wp2_with fail
  go_ret
  exact ⟨rfl, (Below.refl _ _).alloc (Nat.le_refl _) _⟩
/-- disk's Used. -/
theorem used_any (fv : Value) (l : List Fl) (c d : Int) (a x : Bool) (w : World) (hv : IsL FL w fv l) (hs : used l ≤ 4000000000000000000) :
    Calls Tryz.prog 126 #[.agg #[fv, .int .i64 c, .bool a, .int .i64 d, .bool x]] w fun e w' => e = .returned (.int .i64 (used l : Int)) ∧ Below w.heap.size w w' := by
  have hv' := hv
  obtain ⟨fa, cap, rfl, _, _, h3⟩ := hv
  rcases h3 with rfl | ⟨b, off, rfl, _⟩
  · exact used_none fa cap c d a x w
  · exact used_some b off cap l c d a x w hv' hs

/-- What a step of one file answers. -/
def FileOut (w : World) (f : Fl) (er : Int) (e : Ending) (w' : World) : Prop := e = .returned (.tuple #[.agg #[.string f.n, .string f.d, .int .i64 f.s], .int .i64 er]) ∧ Below w.heap.size w w'

set_option maxRecDepth 100000 in
theorem allSure_any (f : Fl) (w : World) :
    Calls Tryz.prog 114 #[.agg #[.string f.n, .string f.d, .int .i64 f.s]] w (FileOut w ⟨f.n, f.d, f.d.size⟩ 0) := by
  go_enter Tryz.func114, Tryz.ntmps114
  go_wp2_with fail
  refine bodyPost_ret (v := .tuple #[.agg #[.string f.n, .string f.d, .int .i64 (f.d.size : Int)], .int .i64 0]) (by simp [results, Tryz.results114, go_sem]) rfl ?_
  exact ⟨rfl, ((Below.refl _ _).alloc (Nat.le_refl _) _).alloc (by simp) _⟩

/-- What is kept of six cells while old blocks stay. -/
theorem keep6 {w W W' : World} {b1 b2 : Nat} {x y z u v s : Value} (h : W.cell? ⟨b1, 0, none⟩ = some x ∧ W.cell? ⟨b1, 1, none⟩ = some y ∧ W.cell? ⟨b1, 2, none⟩ = some z ∧ W.cell? ⟨b1, 3, none⟩ = some u ∧ W.cell? ⟨b1, 4, none⟩ = some v ∧ W.cell? ⟨b2, 0, none⟩ = some s ∧ Below w.heap.size w W)
    (b : Below W.heap.size W W') : W'.cell? ⟨b1, 0, none⟩ = some x ∧ W'.cell? ⟨b1, 1, none⟩ = some y ∧ W'.cell? ⟨b1, 2, none⟩ = some z ∧ W'.cell? ⟨b1, 3, none⟩ = some u ∧ W'.cell? ⟨b1, 4, none⟩ = some v ∧ W'.cell? ⟨b2, 0, none⟩ = some s ∧ Below w.heap.size w W' := by
  obtain ⟨h0, h1, h2, h3, h4, h5, hb⟩ := h
  have l1 := block_lt_of_cell h0
  have l2 := block_lt_of_cell h5
  exact ⟨(b.cell (p := ⟨b1, 0, none⟩) l1).trans h0, (b.cell (p := ⟨b1, 1, none⟩) l1).trans h1, (b.cell (p := ⟨b1, 2, none⟩) l1).trans h2, (b.cell (p := ⟨b1, 3, none⟩) l1).trans h3, (b.cell (p := ⟨b1, 4, none⟩) l1).trans h4, (b.cell (p := ⟨b2, 0, none⟩) l2).trans h5, hb.trans (b.mono hb.size)⟩
theorem have6 {W W' : World} {b1 b2 : Nat} {x y z u v s : Value} {T : TypeId} (hp : W.heap[b1]? = some (.cells #[x, y, z, u, v] T (0, 0))) (h2 : W.cell? ⟨b2, 0, none⟩ = some s) (b : Below W.heap.size W W') :
    W'.cell? ⟨b1, 0, none⟩ = some x ∧ W'.cell? ⟨b1, 1, none⟩ = some y ∧ W'.cell? ⟨b1, 2, none⟩ = some z ∧ W'.cell? ⟨b1, 3, none⟩ = some u ∧ W'.cell? ⟨b1, 4, none⟩ = some v ∧ W'.cell? ⟨b2, 0, none⟩ = some s ∧ Below W.heap.size W W' := by
  obtain ⟨p0, p1, p2, p3, p4⟩ := cells5 hp
  exact keep6 ⟨p0, p1, p2, p3, p4, h2, Below.refl _ _⟩ b

set_option maxRecDepth 100000 in
set_option maxHeartbeats 1600000 in
theorem append1_free (f : Fl) (s : ByteArray) (fv : Value) (D : Dk) (b1 b2 : Nat) (w : World) (hp : w.heap[b1]? = some (.cells #[fv, .int .i64 D.c, .bool D.a, .int .i64 D.l, .bool D.x] 27 (0, 0))) (h2 : w.cell? ⟨b2, 0, none⟩ = some (.string s))
    (hs : f.d.size + s.size ≤ 4000000000000000000) (h : D.c = 0) :
    Calls Tryz.prog 125 #[.agg #[.string f.n, .string f.d, .int .i64 f.s], .pointer (some ⟨b1, 0, none⟩), .pointer (some ⟨b2, 0, none⟩)] w (FileOut w ⟨f.n, f.d ++ s, f.s⟩ 0) := by
  have l1 := (Array.getElem?_eq_some_iff.1 hp).1
  have l2 := block_lt_of_cell h2
  obtain ⟨p0, p1, p2, p3, p4⟩ := cells5 hp
  have hs1 : ¬ 9223372036854775807 < f.d.size + s.size := by omega
  rw [h] at p1
  clear hp hs
  go_enter Tryz.func125, Tryz.ntmps125
  go_wp2_with fail
  go_quiet (fail)
  obtain ⟨g0, g1, bb, gs⟩ := boxes2 w #[.string f.n, .string f.d, .int .i64 f.s] #[.string ⟨#[]⟩, .string ⟨#[]⟩, .int .i64 0] 81 81
  have hd := hkeep g0 (bel_drewN nq)
  have hr := hkeep g1 (bel_drewN nq)
  have hb := bb.trans ((bel_drewN nq).mono (by omega))
  generalize World.drewN _ nq = w1 at hd hr hb ⊢
  have x2 : w1.cell? ⟨b2, 0, none⟩ = some (.string s) := by rw [hb.cell (p := ⟨b2, 0, none⟩) l2]; exact h2
  obtain ⟨d0, d1, d2⟩ := cells3 hd
  obtain ⟨e0, e1, e2⟩ := frozen3 hd
  obtain ⟨r0, r1, r2⟩ := cells3 hr
  obtain ⟨q0, q1, q2⟩ := frozen3 hr
  clear g0 g1 bb gs hd hr p0 p1 p2 p3 p4
  go_wp2_with fail
  refine bodyPost_ret (v := .tuple #[.agg #[.string f.n, .string (f.d ++ s), .int .i64 f.s], .int .i64 0]) (by simp [results, Tryz.results125, go_sem, r0, r1, r2]) rfl ?_
  exact ⟨rfl, bel_st3 (hb.setCell (p := ⟨w.heap.size, 1, none⟩) (Nat.le_refl _) _) (Nat.le_succ _) _ _ _⟩

set_option maxRecDepth 100000 in
set_option maxHeartbeats 3200000 in
theorem append1_full (f : Fl) (s : ByteArray) (fv : Value) (D : Dk) (b1 b2 : Nat) (w : World) (hp : w.heap[b1]? = some (.cells #[fv, .int .i64 D.c, .bool D.a, .int .i64 D.l, .bool D.x] 27 (0, 0))) (h2 : w.cell? ⟨b2, 0, none⟩ = some (.string s))
    (hv : IsL FL w fv D.f) (hu : used D.f ≤ 4000000000000000000) (hs : f.d.size + s.size ≤ 4000000000000000000) (h0 : 0 < D.c) (hc : D.c ≤ 9223372036854775807) (hx : D.c < (used D.f : Int) + (s.size : Int)) :
    Calls Tryz.prog 125 #[.agg #[.string f.n, .string f.d, .int .i64 f.s], .pointer (some ⟨b1, 0, none⟩), .pointer (some ⟨b2, 0, none⟩)] w (FileOut w f 9) := by
  have l1 := (Array.getElem?_eq_some_iff.1 hp).1
  have l2 := block_lt_of_cell h2
  have U := fun (W : World) (h : IsL FL W fv D.f) => used_any fv D.f D.c D.l D.a D.x W h hu
  have HV := Lib.hid hv
  have hs1 : ¬ 9223372036854775807 < f.d.size + s.size := by omega
  have H6 := Lib.hid fun W' b => have6 (W' := W') hp h2 b
  obtain ⟨u, hue⟩ : ∃ u, used D.f = u := ⟨_, rfl⟩
  rw [hue] at U hu hx
  have U := Lib.hid U
  have hcne : ¬ (D.c = 0) := by omega
  have hcb : (D.c != 0) = true := by simp [hcne]
  have hs2 : (s.size : Int) ≤ 4000000000000000000 := by omega
  have hu2 : (u : Int) ≤ 4000000000000000000 := by omega
  have hcmp : D.c - (u : Int) < (s.size : Int) := by omega
  obtain ⟨fl, c, a, d, x⟩ := D
  dsimp only at *
  clear hp hs hv hue hu h2 hx
  obtain ⟨g0, g1, bb, gs⟩ := boxes2 w #[.string f.n, .string f.d, .int .i64 f.s] #[.string ⟨#[]⟩, .string ⟨#[]⟩, .int .i64 0] 81 81
  have G0 := Lib.hid g0
  have G1 := Lib.hid g1
  have BB := Lib.hid bb
  have GS := Lib.hid gs
  clear g0 g1 gs bb
  go_enter Tryz.func125, Tryz.ntmps125
  go_wp2_with fail
  generalize (w.alloc _).alloc _ = w0 at G0 G1 BB GS ⊢
  have K0 := H6.out w0 BB.out
  have K1 : w0.cell? ⟨b1, 0, none⟩ = some fv ∧ w0.cell? ⟨b1, 1, none⟩ = some (.int .i64 c) ∧ w0.cell? ⟨b1, 2, none⟩ = some (.bool a) ∧ w0.cell? ⟨b1, 3, none⟩ = some (.int .i64 d) ∧ w0.cell? ⟨b1, 4, none⟩ = some (.bool x) ∧ w0.cell? ⟨b2, 0, none⟩ = some (.string s) ∧ Below w0.heap.size w0 w0 := by
    obtain ⟨k0, k1, k2, k3, k4, k5, _⟩ := K0
    exact ⟨k0, k1, k2, k3, k4, k5, Below.refl _ _⟩
  have HB := Lib.hid fun W (b : Below w0.heap.size w0 W) => BB.out.trans (b.mono (by have := GS.out; omega))
  have HV0 := Lib.hid fun W (b : Below w0.heap.size w0 W) => HV.out.keep (HB.out W b)
  have hw : IntKind.i64.wrap (c - (u : Int)) = c - (u : Int) := by rw [IntKind.wrap_i64]; omega
  clear K0
  go_region_held3 (fun w' => w'.cell? ⟨b1, 0, none⟩ = some fv ∧ w'.cell? ⟨b1, 1, none⟩ = some (.int .i64 c) ∧ w'.cell? ⟨b1, 2, none⟩ = some (.bool a) ∧ w'.cell? ⟨b1, 3, none⟩ = some (.int .i64 d) ∧ w'.cell? ⟨b1, 4, none⟩ = some (.bool x) ∧ w'.cell? ⟨b2, 0, none⟩ = some (.string s) ∧ Below w0.heap.size w0 w')
    (first | assumption | exact keep6 (by assumption) (Below.refl _ _).drew | exact keep6 (by assumption) (by assumption))
    (first | (go_at_call 126; refine (U.out _ (HV0.out _ (by obtain ⟨_, _, _, _, _, _, h⟩ := ‹_ ∧ _ ∧ _ ∧ _ ∧ _ ∧ _ ∧ Below w0.heap.size w0 _›; exact h))).mono ?_; rintro e w4 ⟨rfl, b4⟩))
  obtain ⟨_, _, _, _, _, x2, hb0⟩ := ‹_ ∧ _ ∧ _ ∧ _ ∧ _ ∧ _ ∧ Below w0.heap.size w0 w4›
  obtain ⟨d0, d1, d2⟩ := cells3 (hkeep G0.out hb0)
  obtain ⟨e0, e1, e2⟩ := frozen3 (hkeep G0.out hb0)
  obtain ⟨r0, r1, r2⟩ := cells3 (hkeep G1.out hb0)
  obtain ⟨q0, q1, q2⟩ := frozen3 (hkeep G1.out hb0)
  have hb := HB.out _ hb0
  go_wp2_with fail
  refine bodyPost_ret (v := .tuple #[.agg #[.string f.n, .string f.d, .int .i64 f.s], .int .i64 9]) (by simp [results, Tryz.results125, go_sem, r0, r1, r2]) rfl ?_
  exact ⟨rfl, bel_st3 hb (Nat.le_succ _) _ _ _⟩

set_option maxRecDepth 100000 in
set_option maxHeartbeats 3200000 in
theorem append1_room (f : Fl) (s : ByteArray) (fv : Value) (D : Dk) (b1 b2 : Nat) (w : World) (hp : w.heap[b1]? = some (.cells #[fv, .int .i64 D.c, .bool D.a, .int .i64 D.l, .bool D.x] 27 (0, 0))) (h2 : w.cell? ⟨b2, 0, none⟩ = some (.string s))
    (hv : IsL FL w fv D.f) (hu : used D.f ≤ 4000000000000000000) (hs : f.d.size + s.size ≤ 4000000000000000000) (h0 : 0 < D.c) (hc : D.c ≤ 9223372036854775807) (hx : (used D.f : Int) + (s.size : Int) ≤ D.c) :
    Calls Tryz.prog 125 #[.agg #[.string f.n, .string f.d, .int .i64 f.s], .pointer (some ⟨b1, 0, none⟩), .pointer (some ⟨b2, 0, none⟩)] w (FileOut w ⟨f.n, f.d ++ s, f.s⟩ 0) := by
  have l1 := (Array.getElem?_eq_some_iff.1 hp).1
  have l2 := block_lt_of_cell h2
  have U := fun (W : World) (h : IsL FL W fv D.f) => used_any fv D.f D.c D.l D.a D.x W h hu
  have HV := Lib.hid hv
  have hs1 : ¬ 9223372036854775807 < f.d.size + s.size := by omega
  have H6 := Lib.hid fun W' b => have6 (W' := W') hp h2 b
  obtain ⟨u, hue⟩ : ∃ u, used D.f = u := ⟨_, rfl⟩
  rw [hue] at U hu hx
  have U := Lib.hid U
  have hcne : ¬ (D.c = 0) := by omega
  have hcb : (D.c != 0) = true := by simp [hcne]
  have hs2 : (s.size : Int) ≤ 4000000000000000000 := by omega
  have hu2 : (u : Int) ≤ 4000000000000000000 := by omega
  have hcmp : ¬ (D.c - (u : Int) < (s.size : Int)) := by omega
  obtain ⟨fl, c, a, d, x⟩ := D
  dsimp only at *
  clear hp hs hv hue hu h2 hx
  obtain ⟨g0, g1, bb, gs⟩ := boxes2 w #[.string f.n, .string f.d, .int .i64 f.s] #[.string ⟨#[]⟩, .string ⟨#[]⟩, .int .i64 0] 81 81
  have G0 := Lib.hid g0
  have G1 := Lib.hid g1
  have BB := Lib.hid bb
  have GS := Lib.hid gs
  clear g0 g1 gs bb
  go_enter Tryz.func125, Tryz.ntmps125
  go_wp2_with fail
  generalize (w.alloc _).alloc _ = w0 at G0 G1 BB GS ⊢
  have K0 := H6.out w0 BB.out
  have K1 : w0.cell? ⟨b1, 0, none⟩ = some fv ∧ w0.cell? ⟨b1, 1, none⟩ = some (.int .i64 c) ∧ w0.cell? ⟨b1, 2, none⟩ = some (.bool a) ∧ w0.cell? ⟨b1, 3, none⟩ = some (.int .i64 d) ∧ w0.cell? ⟨b1, 4, none⟩ = some (.bool x) ∧ w0.cell? ⟨b2, 0, none⟩ = some (.string s) ∧ Below w0.heap.size w0 w0 := by
    obtain ⟨k0, k1, k2, k3, k4, k5, _⟩ := K0
    exact ⟨k0, k1, k2, k3, k4, k5, Below.refl _ _⟩
  have HB := Lib.hid fun W (b : Below w0.heap.size w0 W) => BB.out.trans (b.mono (by have := GS.out; omega))
  have HV0 := Lib.hid fun W (b : Below w0.heap.size w0 W) => HV.out.keep (HB.out W b)
  have hw : IntKind.i64.wrap (c - (u : Int)) = c - (u : Int) := by rw [IntKind.wrap_i64]; omega
  clear K0
  go_region_held3 (fun w' => w'.cell? ⟨b1, 0, none⟩ = some fv ∧ w'.cell? ⟨b1, 1, none⟩ = some (.int .i64 c) ∧ w'.cell? ⟨b1, 2, none⟩ = some (.bool a) ∧ w'.cell? ⟨b1, 3, none⟩ = some (.int .i64 d) ∧ w'.cell? ⟨b1, 4, none⟩ = some (.bool x) ∧ w'.cell? ⟨b2, 0, none⟩ = some (.string s) ∧ Below w0.heap.size w0 w')
    (first | assumption | exact keep6 (by assumption) (Below.refl _ _).drew | exact keep6 (by assumption) (by assumption))
    (first | (go_at_call 126; refine (U.out _ (HV0.out _ (by obtain ⟨_, _, _, _, _, _, h⟩ := ‹_ ∧ _ ∧ _ ∧ _ ∧ _ ∧ _ ∧ Below w0.heap.size w0 _›; exact h))).mono ?_; rintro e w4 ⟨rfl, b4⟩))
  obtain ⟨_, _, _, _, _, x2, hb0⟩ := ‹_ ∧ _ ∧ _ ∧ _ ∧ _ ∧ _ ∧ Below w0.heap.size w0 w4›
  obtain ⟨d0, d1, d2⟩ := cells3 (hkeep G0.out hb0)
  obtain ⟨e0, e1, e2⟩ := frozen3 (hkeep G0.out hb0)
  obtain ⟨r0, r1, r2⟩ := cells3 (hkeep G1.out hb0)
  obtain ⟨q0, q1, q2⟩ := frozen3 (hkeep G1.out hb0)
  have hb := HB.out _ hb0
  go_wp2_with fail
  refine bodyPost_ret (v := .tuple #[.agg #[.string f.n, .string (f.d ++ s), .int .i64 f.s], .int .i64 0]) (by simp [results, Tryz.results125, go_sem, r0, r1, r2]) rfl ?_
  exact ⟨rfl, bel_st3 (hb.setCell (p := ⟨w.heap.size, 1, none⟩) (Nat.le_refl _) _) (Nat.le_succ _) _ _ _⟩

end Go.Proofs.YthhhocgpoenigaaGreat.Dsk

namespace Go.Proofs.YthhhocgpoenigaaGreat.Dsk
open Go.RowKit Go.Proofs.YthhhocgpoenigaaGreat.Dp

/-- What a search tells of the file of that name. -/
theorem found_no {l : List Fl} {n : ByteArray} {i : Nat} {b : Bool} (h : FoundF l n i b) (hu : Up l) (hg : get l n = none) : b = false := by
  have h1 := h.get hu zero
  rw [hg] at h1
  cases b with
  | false => rfl
  | true => simp at h1
theorem found_yes {l : List Fl} {n : ByteArray} {i : Nat} {b : Bool} {f : Fl} (h : FoundF l n i b) (hu : Up l) (hg : get l n = some f) : b = true ∧ i < l.length ∧ l.getD i zero = f := by
  have h1 := h.get hu zero
  rw [hg] at h1
  cases b with
  | false => simp at h1
  | true => exact ⟨rfl, (h.hit rfl).1, by simpa using h1.symm⟩

set_option maxRecDepth 100000 in
set_option maxHeartbeats 800000 in
theorem within1_no (n : ByteArray) (l : List Fl) (base : Nat) (v : Value) (b1 b2 : Nat) (w : World) (h1 : w.cell? ⟨b1, 0, none⟩ = some (.string n)) (ho : OwnL FL w base v l) (hbw : base ≤ w.heap.size) (hu : Up l) (hl : l.length ≤ 1000000000) (hb : ∀ x ∈ l, FlB x) (hg : get l n = none) :
    Calls Tryz.prog 136 #[v, .pointer (some ⟨b1, 0, none⟩), .pointer (some ⟨b2, 0, none⟩)] w (StepOut w base [] 7) := by
  obtain ⟨va, vn, vc, rfl⟩ := own_slice ho
  have F := Lib.hid (find_any _ l n w hu (by omega) (ho.is (by unfold maxLen; omega) hb))
  have HG := Lib.hid fun i b (h : FoundF l n i b) => found_no h hu hg
  clear ho hu hl hb hg
  go_enter Tryz.func136, Tryz.ntmps136
  go_wp2_with fail
  refine F.out.mono ?_
  rintro e w1 ⟨i, b, rfl, hf, b1'⟩
  obtain rfl := HG.out i b hf
  have HB := Lib.hid (b1'.mono hbw)
  clear hf b1'
  go_wp2_with fail
  go_ret2
  exact StepOut.no _ _ _ (by decide) HB.out

set_option maxRecDepth 100000 in
set_option maxHeartbeats 3200000 in
theorem within1_yes (n : ByteArray) (l : List Fl) (base : Nat) (v : Value) (b1 b2 : Nat) (w : World) (h1 : w.cell? ⟨b1, 0, none⟩ = some (.string n)) (ho : OwnL FL w base v l) (hbw : base ≤ w.heap.size) (hu : Up l) (hl : l.length ≤ 1000000000) (hb : ∀ x ∈ l, FlB x)
    (f g : Fl) (er : Int) (N : Nat) (caps : Array Value) (hg : get l n = some f) (hn : g.n = n) (EN : ∀ args w, (callFunc N args).run Tryz.prog w = .ok (.enter N args) w) (h2 : w.cell? ⟨b2, 0, none⟩ = some (.func (.func N) #[] caps))
    (IN : ∀ W, Below w.heap.size w W → Calls Tryz.prog N (#[.agg #[.string f.n, .string f.d, .int .i64 f.s]] ++ caps) W (FileOut W g er)) :
    Calls Tryz.prog 136 #[v, .pointer (some ⟨b1, 0, none⟩), .pointer (some ⟨b2, 0, none⟩)] w (StepOut w base (withF l g) er) := by
  obtain ⟨va, vn, vc, rfl⟩ := own_slice ho
  have F := Lib.hid (find_any _ l n w hu (by omega) (ho.is (by unfold maxLen; omega) hb))
  have HG := Lib.hid fun i b (h : FoundF l n i b) => found_yes h hu hg
  have HH := Lib.hid fun i (h : FoundF l n i true) => h.with_hit hu hn
  have HO := Lib.hid ho
  have HI := Lib.hid IN
  have HE := Lib.hid EN
  have HW := Lib.hid hbw
  clear ho hu hl hb hg IN EN hbw hn
  go_enter Tryz.func136, Tryz.ntmps136
  go_wp2_with fail
  refine F.out.mono ?_
  rintro e w1 ⟨i, b, rfl, hf, b1'⟩
  obtain ⟨rfl, hi, hfe⟩ := HG.out i b hf
  have HF := Lib.hid (HH.out i hf)
  have HO1 := HO.out.keep b1'
  have B1 := Lib.hid b1'
  have x2 : w1.cell? ⟨b2, 0, none⟩ = some (.func (.func N) #[] caps) := by rw [b1'.cell (p := ⟨b2, 0, none⟩) (block_lt_of_cell h2)]; exact h2
  obtain ⟨gb, cap, cur, he, hgb, hgc, hcl, hcm, hcs, hct⟩ := own_open HO1 (by omega)
  injection he with e1 e2 e3
  subst e1 e2 e3
  have hci := fun j u (hj : (FL.vals l)[j]? = some u) => World.ownsRow.cells HO1 (g := gb) rfl j u hj
  have k0 := hci (i * 3 + 0) _ (FL.vals_get l i 0 hi (by decide))
  have k1 := hci (i * 3 + 1) _ (FL.vals_get l i 1 hi (by decide))
  have k2 := hci (i * 3 + 2) _ (FL.vals_get l i 2 hi (by decide))
  rw [addr_plain] at k0 k1 k2
  change w1.cell? _ = some (.string (l.getD i zero).n) at k0
  change w1.cell? _ = some (.string (l.getD i zero).d) at k1
  change w1.cell? _ = some (.int .i64 (l.getD i zero).s) at k2
  rw [hfe] at k0 k1 k2
  simp only [Nat.zero_add, Nat.add_zero] at k0 k1 k2
  have HO1 := Lib.hid HO1
  clear hf b1' hci hfe hgc hct hcs
  have hgl := block_lt_of_cell k0
  have hbl := block_lt_of_cell x2
  obtain ⟨len, hlen⟩ : ∃ len, l.length = len := ⟨_, rfl⟩
  rw [hlen] at hi hcl HO1 F HO ⊢
  have HL := Lib.hid hlen
  clear hlen
  go_wp2_with fail
  go_cut [8, 9] (fun p q w2 => ∃ t : Nat, p = .pointer (some ⟨t, 0, none⟩) ∧ q = .int .i64 er ∧ w2.heap[t]? = some (.cells #[.string g.n, .string g.d, .int .i64 g.s] 81 (0, 0)) ∧ Below w1.heap.size w1 w2)
  case first =>
    go_region_with (first | (rw [HE.out, Oper.upon_enter]; refine (HI.out _ (by first | exact B1.out.drew | exact B1.out.drew.alloc B1.out.size _)).mono ?_; rintro e w4 ⟨rfl, b4⟩; obtain ⟨hc4, hf4⟩ := bcell b4))
    all_goals go_wp2_with fail
    all_goals go_meet
    all_goals
      case rel =>
        first
          | exact ⟨_, rfl, rfl, heap_alloc_new w4 _, ((Below.refl _ w1).drew.trans b4).alloc b4.size _⟩
          | exact ⟨_, rfl, rfl, heap_set3 (hkeep (heap_alloc_new w1.drew _) b4) _ _ _, bel_st3 (((Below.refl _ w1).drew.alloc (Nat.le_refl _) _).trans (b4.mono (by simp))) (Nat.le_refl _) _ _ _⟩
  case rest =>
    obtain ⟨t, rfl, rfl, hh, b2⟩ := hcut
    have HO2 := HO1.out.keep b2
    have B2 := Lib.hid ((B1.out.mono HW.out).trans (b2.mono (by have := B1.out.size; have := HW.out; omega)))
    obtain ⟨gb', cap', cur', he', hgb', hgc', hcl', hcm', hcs', hct'⟩ := own_open HO2 (by rw [HL.out]; omega)
    rw [HL.out] at he' hcl'
    injection he' with e1 e2 e3
    injection e1 with e1
    injection e1 with e1
    subst e1 e3
    have hi' : i < l.length := by rw [HL.out]; exact hi
    have HS := own_set g hgb' hgc' (by rw [HL.out]; exact hcl') hcm' hcs' hct' hi'
    rw [HL.out] at HS
    have HG := Lib.hid (show StepOut w base (withF l g) er (.returned (.tuple #[.slice (some ⟨gb, 0, none⟩) len vc, .int .i64 er])) _ from ⟨_, _, _, rfl, fun _ => by rw [HF.out]; exact HS, B2.out.trans (bel_set3 hgb' _ _ _ _)⟩)
    obtain ⟨y0, hy0⟩ := Option.isSome_iff_exists.1 (row_some hgc' (i * 3) (by omega)).1
    obtain ⟨y1, hy1⟩ := Option.isSome_iff_exists.1 (row_some hgc' (i * 3 + 1) (by omega)).1
    obtain ⟨y2, hy2⟩ := Option.isSome_iff_exists.1 (row_some hgc' (i * 3 + 2) (by omega)).1
    have hf0 := (row_some hgc' (i * 3) (by omega)).2
    have hf1 := (row_some hgc' (i * 3 + 1) (by omega)).2
    have hf2 := (row_some hgc' (i * 3 + 2) (by omega)).2
    obtain ⟨d0, d1, d2⟩ := cells3 hh
    clear hgc' hcs' hct' HS hgb' hi' HO2 hh b2 k0 k1 k2
    go_wp2_with fail
    go_ret2
    exact HG.out

set_option maxRecDepth 100000 in
set_option maxHeartbeats 1600000 in
theorem create1_any (n : ByteArray) (l : List Fl) (base : Nat) (v : Value) (b1 : Nat) (w : World) (hn : n.size ≤ 9223372036854775807) (h1 : w.cell? ⟨b1, 0, none⟩ = some (.string n)) (ho : OwnL FL w base v l) (hbw : base ≤ w.heap.size) (hu : Up l) (hl : l.length ≤ 1000000000) (hb : ∀ x ∈ l, FlB x) (own : Int)
    (hown : (own = 1 ∧ ¬ Named n) ∨ (own = 8 ∧ Named n ∧ get l n ≠ none) ∨ (own = 0 ∧ Named n ∧ get l n = none)) :
    Calls Tryz.prog 115 #[v, .pointer (some ⟨b1, 0, none⟩)] w (StepOut w base (withF l ⟨n, ⟨#[]⟩, 0⟩) own) := by
  obtain ⟨va, vn, vc, rfl⟩ := own_slice ho
  have M := fun W : World => mayName_any n W hn
  rcases hown with ⟨rfl, hN⟩ | ⟨rfl, hN, hg⟩ | ⟨rfl, hN, hg⟩
  · rw [decide_eq_false hN] at M
    have M := Lib.hid M
    clear ho hu hl hb hN hn
    go_enter Tryz.func115, Tryz.ntmps115
    go_wp2_with fail
    refine (M.out _).mono ?_
    rintro e w1 ⟨rfl, rfl⟩
    go_wp2_with fail
    go_ret2
    exact StepOut.no _ _ _ (by decide) (Below.refl _ _)
  · rw [decide_eq_true hN] at M
    have M := Lib.hid M
    have F := Lib.hid (find_any _ l n w hu (by omega) (ho.is (by unfold maxLen; omega) hb))
    obtain ⟨f0, hf0⟩ := Option.ne_none_iff_exists'.1 hg
    have HG := Lib.hid fun i b (h : FoundF l n i b) => (found_yes h hu hf0).1
    clear ho hu hl hb hN hn hg hf0
    go_enter Tryz.func115, Tryz.ntmps115
    go_wp2_with fail
    refine (M.out _).mono ?_
    rintro e w1 ⟨rfl, rfl⟩
    go_wp2_with fail
    refine F.out.mono ?_
    rintro e w1 ⟨i, b, rfl, hf, b1'⟩
    obtain rfl := HG.out i b hf
    have HB := Lib.hid (b1'.mono hbw)
    clear hf b1'
    go_wp2_with fail
    go_ret2
    exact StepOut.no _ _ _ (by decide) HB.out
  · rw [decide_eq_true hN] at M
    have M := Lib.hid M
    have F := Lib.hid (find_any _ l n w hu (by omega) (ho.is (by unfold maxLen; omega) hb))
    have HG := Lib.hid fun i b (h : FoundF l n i b) => found_no h hu hg
    have HM := Lib.hid fun i (h : FoundF l n i false) => h.with_miss hu (f := ⟨n, ⟨#[]⟩, 0⟩) rfl
    have HO := Lib.hid ho
    have l1 := block_lt_of_cell h1
    clear ho hu hb hN hn hg
    go_enter Tryz.func115, Tryz.ntmps115
    go_wp2_with fail
    refine (M.out _).mono ?_
    rintro e w1 ⟨rfl, rfl⟩
    go_wp2_with fail
    refine F.out.mono ?_
    rintro e w1 ⟨i, b, rfl, hf, b1'⟩
    obtain rfl := HG.out i b hf
    have hi := hf.le
    have HF := Lib.hid (HM.out i hf)
    have HO1 := Lib.hid (HO.out.keep b1')
    have B1 := Lib.hid (b1'.mono hbw)
    have x1 : w1.cell? ⟨b1, 0, none⟩ = some (.string n) := by rw [b1'.cell (p := ⟨b1, 0, none⟩) l1]; exact h1
    have hbw1 := Nat.le_trans hbw b1'.size
    clear hf b1'
    go_wp2_with fail
    refine (ins_any l base i _ ⟨n, ⟨#[]⟩, 0⟩ w1.heap.size _ (HO1.out.alloc _) hi hl (Nat.le_trans hbw1 (by simp)) (heap_alloc_new w1 _) (fun e => absurd (HO1.out.lt _ e).2 (Nat.lt_irrefl _))).mono ?_
    rintro e w2 ⟨v2, rfl, ho2, b2⟩
    obtain ⟨ga, gn, gc, rfl⟩ := own_slice ho2
    have HG := Lib.hid (show StepOut w base (withF l ⟨n, ⟨#[]⟩, 0⟩) 0 (.returned (.tuple #[.slice ga gn gc, .int .i64 0])) w2 from StepOut.yes (by rw [HF.out]; exact ho2) ((B1.out.alloc hbw1 _).trans b2))
    clear ho2 b2
    go_wp2_with fail
    go_ret2
    exact HG.out

set_option maxRecDepth 100000 in
set_option maxHeartbeats 1600000 in
theorem delete1_any (n : ByteArray) (l : List Fl) (base : Nat) (v : Value) (b1 : Nat) (w : World) (h1 : w.cell? ⟨b1, 0, none⟩ = some (.string n)) (ho : OwnL FL w base v l) (hbw : base ≤ w.heap.size) (hu : Up l) (hl : l.length ≤ 1000000000) (hb : ∀ x ∈ l, FlB x) (own : Int)
    (hown : (own = 7 ∧ get l n = none) ∨ (own = 0 ∧ get l n ≠ none)) :
    Calls Tryz.prog 123 #[v, .pointer (some ⟨b1, 0, none⟩)] w (StepOut w base (without l n) own) := by
  obtain ⟨va, vn, vc, rfl⟩ := own_slice ho
  have F := Lib.hid (find_any _ l n w hu (by omega) (ho.is (by unfold maxLen; omega) hb))
  rcases hown with ⟨rfl, hg⟩ | ⟨rfl, hg⟩
  · have HG := Lib.hid fun i b (h : FoundF l n i b) => found_no h hu hg
    clear ho hu hl hb hg
    go_enter Tryz.func123, Tryz.ntmps123
    go_wp2_with fail
    refine F.out.mono ?_
    rintro e w1 ⟨i, b, rfl, hf, b1'⟩
    obtain rfl := HG.out i b hf
    have HB := Lib.hid (b1'.mono hbw)
    clear hf b1'
    go_wp2_with fail
    go_ret2
    exact StepOut.no _ _ _ (by decide) HB.out
  · obtain ⟨f0, hf0⟩ := Option.ne_none_iff_exists'.1 hg
    have HG := Lib.hid fun i b (h : FoundF l n i b) => found_yes h hu hf0
    have HM := Lib.hid fun i (h : FoundF l n i true) => h.wo hu
    have HO := Lib.hid ho
    clear ho hu hb hg hf0
    go_enter Tryz.func123, Tryz.ntmps123
    go_wp2_with fail
    refine F.out.mono ?_
    rintro e w1 ⟨i, b, rfl, hf, b1'⟩
    obtain ⟨rfl, hi, _⟩ := HG.out i b hf
    have HF := Lib.hid (HM.out i hf)
    have HO1 := Lib.hid (HO.out.keep b1')
    have B1 := Lib.hid (b1'.mono hbw)
    clear hf b1'
    go_wp2_with fail
    refine (del_any l base i _ w1 HO1.out hi).mono ?_
    rintro e w2 ⟨v2, rfl, ho2, b2⟩
    obtain ⟨ga, gn, gc, rfl⟩ := own_slice ho2
    have HG := Lib.hid (show StepOut w base (without l n) 0 (.returned (.tuple #[.slice ga gn gc, .int .i64 0])) w2 from StepOut.yes (by rw [HF.out]; exact ho2) (B1.out.trans b2))
    clear ho2 b2
    go_wp2_with fail
    go_ret2
    exact HG.out

end Go.Proofs.YthhhocgpoenigaaGreat.Dsk

namespace Go.Proofs.YthhhocgpoenigaaGreat.Dsk
open Go.RowKit Go.Proofs.YthhhocgpoenigaaGreat.Dp

/-- slices.Delete, and what of other blocks: nothing. -/
theorem del_more (l : List Fl) (base i : Nat) (v : Value) (w : World) (ho : OwnL FL w base v l) (hi : i < l.length) :
    Calls Tryz.prog 124 #[v, .int .i64 (i : Int), .int .i64 ((i : Int) + 1)] w fun e w' => OutL FL w base (l.take i ++ l.drop (i + 1)) e w' ∧ ∀ k, v.ownBlock ≠ some k → w'.heap[k]? = w.heap[k]? := by
  obtain ⟨g, cap, cur, rfl, hb, hg, hc, hm, hs, ht⟩ := own_open ho (by omega)
  refine (del_row l.length cap i (i + 1) g cur (FL.vals l) w rfl (by omega) hc hg hs ht (FL.vals_cells l)).mono ?_
  rintro e w' ⟨rfl, rfl⟩
  have hgd : w.drew.heap[g]? = some (.cells cur 81 (0, 0)) := hg
  have hD : ((FL.vals l).drop ((i + 1) * 3)).length = (l.length - (i + 1)) * 3 := by rw [List.length_drop, vals_len]; omega
  have h1 := setCells_heap (o := i * 3) (vs := (FL.vals l).drop ((i + 1) * 3)) hgd (by omega)
  have hz : noughts.length = 3 := rfl
  have hs1 := splice_size (cur := cur) (o := i * 3) (vs := (FL.vals l).drop ((i + 1) * 3)) (by omega)
  have h2 := setCells_heap (o := (i + (l.length - (i + 1))) * 3) (vs := noughts) h1 (by omega)
  have e1 : (l.take i ++ l.drop (i + 1)).length = i + (l.length - (i + 1)) := by simp; omega
  refine ⟨⟨_, rfl, ?_, (bel_setCells hb _ _ w.drew).trans (bel_setCells hb _ _ _) |> fun h => ⟨h.os, h.tape, h.output, h.size, h.block⟩⟩, fun k hk => ?_⟩
  · rw [← e1]
    refine own_mk hb (by rw [e1]; exact h2) (by omega) hm (by rw [splice_size (by omega), hs1]; exact hs) ?_
    rw [e1, splice_front (by omega) _ (Nat.le_refl _), splice_take (by omega) _ (by omega), FL.vals_append, ← vals_take, ← vals_drop, ← ht, List.take_take, Nat.min_eq_left (by omega)]
  · have hkg : k ≠ g := fun e => hk (by rw [e]; rfl)
    rw [setCells_row g _ _ _ _ _ h1 (by omega), setRow_other _ _ _ _ hkg, setCells_row g _ _ _ _ _ hgd (by omega), setRow_other _ _ _ _ hkg]
    rfl

set_option maxRecDepth 100000 in
set_option maxHeartbeats 1600000 in
theorem rename1_no (n m : ByteArray) (l : List Fl) (base : Nat) (v : Value) (b1 b2 : Nat) (w : World) (hm : m.size ≤ 9223372036854775807) (h1 : w.cell? ⟨b1, 0, none⟩ = some (.string n)) (h2 : w.cell? ⟨b2, 0, none⟩ = some (.string m)) (ho : OwnL FL w base v l) (hbw : base ≤ w.heap.size) (hu : Up l) (hl : l.length ≤ 1000000000) (hb : ∀ x ∈ l, FlB x) (own : Int)
    (hown : (own = 7 ∧ get l n = none) ∨ (own = 1 ∧ get l n ≠ none ∧ ¬ Named m)) :
    Calls Tryz.prog 127 #[v, .pointer (some ⟨b1, 0, none⟩), .pointer (some ⟨b2, 0, none⟩)] w (StepOut w base [] own) := by
  obtain ⟨va, vn, vc, rfl⟩ := own_slice ho
  have F := Lib.hid (find_any _ l n w hu (by omega) (ho.is (by unfold maxLen; omega) hb))
  rcases hown with ⟨rfl, hg⟩ | ⟨rfl, hg, hN⟩
  · have HG := Lib.hid fun i b (h : FoundF l n i b) => found_no h hu hg
    clear ho hu hl hb hg
    go_enter Tryz.func127, Tryz.ntmps127
    go_wp2_with fail
    refine F.out.mono ?_
    rintro e w1 ⟨i, b, rfl, hf, b1'⟩
    obtain rfl := HG.out i b hf
    have HB := Lib.hid (b1'.mono hbw)
    clear hf b1'
    go_wp2_with fail
    go_ret2
    exact StepOut.no _ _ _ (by decide) HB.out
  · obtain ⟨f0, hf0⟩ := Option.ne_none_iff_exists'.1 hg
    have HG := Lib.hid fun i b (h : FoundF l n i b) => (found_yes h hu hf0).1
    have M := fun W : World => mayName_any m W hm
    rw [decide_eq_false hN] at M
    have M := Lib.hid M
    clear ho hu hl hb hg hf0 hN
    go_enter Tryz.func127, Tryz.ntmps127
    go_wp2_with fail
    refine F.out.mono ?_
    rintro e w1 ⟨i, b, rfl, hf, b1'⟩
    obtain rfl := HG.out i b hf
    have x2 : w1.cell? ⟨b2, 0, none⟩ = some (.string m) := by rw [b1'.cell (p := ⟨b2, 0, none⟩) (block_lt_of_cell h2)]; exact h2
    have HB := Lib.hid (b1'.mono hbw)
    clear hf b1'
    go_wp2_with fail
    refine (M.out _).mono ?_
    rintro e w1 ⟨rfl, rfl⟩
    go_wp2_with fail
    go_ret2
    exact StepOut.no _ _ _ (by decide) HB.out

set_option maxRecDepth 100000 in
set_option maxHeartbeats 1000000 in
theorem rename1_yes (n m : ByteArray) (l : List Fl) (base : Nat) (v : Value) (b1 b2 : Nat) (w : World) (hm : m.size ≤ 9223372036854775807) (h1 : w.cell? ⟨b1, 0, none⟩ = some (.string n)) (h2 : w.cell? ⟨b2, 0, none⟩ = some (.string m)) (ho : OwnL FL w base v l) (hbw : base ≤ w.heap.size) (hu : Up l) (hl : l.length ≤ 1000000000) (hb : ∀ x ∈ l, FlB x)
    (f : Fl) (hg : get l n = some f) (hN : Named m) :
    Calls Tryz.prog 127 #[v, .pointer (some ⟨b1, 0, none⟩), .pointer (some ⟨b2, 0, none⟩)] w (StepOut w base (withF (without l n) ⟨m, f.d, f.s⟩) 0) := by
  obtain ⟨va, vn, vc, rfl⟩ := own_slice ho
  have F := Lib.hid (find_any _ l n w hu (by omega) (ho.is (by unfold maxLen; omega) hb))
  have HG := Lib.hid fun i b (h : FoundF l n i b) => found_yes h hu hg
  have M := fun W : World => mayName_any m W hm
  rw [decide_eq_true hN] at M
  have M := Lib.hid M
  have hwl : (without l n).length ≤ l.length := List.length_filter_le _ _
  have P := Lib.hid fun (W : World) (v' : Value) (h : OwnL FL W base v' (without l n)) (hB : base ≤ W.heap.size) => put_any (without l n) base v' ⟨m, f.d, f.s⟩ W h hB (hu.without n) (by omega) (fun x hx => hb x (mem_without.1 hx).1)
  have D := Lib.hid fun (i : Nat) (W : World) (h : OwnL FL W base (.slice va vn vc) l) (hi : i < l.length) => del_more l base i _ W h hi
  have HM := Lib.hid fun i (h : FoundF l n i true) => h.wo hu
  have HO := Lib.hid ho
  clear ho hu hb hg hN hwl hm
  go_enter Tryz.func127, Tryz.ntmps127
  go_wp2_with fail
  refine F.out.mono ?_
  rintro e w1 ⟨i, b, rfl, hf, b1'⟩
  obtain ⟨rfl, hi, hfe⟩ := HG.out i b hf
  have HF := HM.out i hf
  have D := D.out i
  rw [← HF] at D
  have x2 : w1.cell? ⟨b2, 0, none⟩ = some (.string m) := by rw [b1'.cell (p := ⟨b2, 0, none⟩) (block_lt_of_cell h2)]; exact h2
  have l2 := block_lt_of_cell x2
  have HO1 := HO.out.keep b1'
  have B1 := Lib.hid (b1'.mono hbw)
  have hbw1 := Nat.le_trans hbw b1'.size
  obtain ⟨gb, cap, cur, he, hgb, hgc, hcl, hcm, hcs, hct⟩ := own_open HO1 (by omega)
  injection he with e1 e2 e3
  subst e1 e2 e3
  have hci := fun j u (hj : (FL.vals l)[j]? = some u) => World.ownsRow.cells HO1 (g := gb) rfl j u hj
  have k0 := hci (i * 3 + 0) _ (FL.vals_get l i 0 hi (by decide))
  have k1 := hci (i * 3 + 1) _ (FL.vals_get l i 1 hi (by decide))
  have k2 := hci (i * 3 + 2) _ (FL.vals_get l i 2 hi (by decide))
  rw [addr_plain] at k0 k1 k2
  change w1.cell? _ = some (.string (l.getD i zero).n) at k0
  change w1.cell? _ = some (.string (l.getD i zero).d) at k1
  change w1.cell? _ = some (.int .i64 (l.getD i zero).s) at k2
  rw [hfe] at k0 k1 k2
  simp only [Nat.zero_add, Nat.add_zero] at k0 k1 k2
  have hgl := block_lt_of_cell k0
  have HO3 := Lib.hid (HO1.alloc (.cells #[.string m, .string f.d, .int .i64 f.s] 81))
  have G3 := Lib.hid (heap_alloc_new w1 (.cells #[.string m, .string f.d, .int .i64 f.s] 81))
  have B3 := Lib.hid (B1.out.alloc hbw1 (.cells #[.string m, .string f.d, .int .i64 f.s] 81))
  have S3 := Lib.hid (show base ≤ (w1.alloc (.cells #[.string m, .string f.d, .int .i64 f.s] 81)).heap.size from Nat.le_trans hbw1 (by simp))
  have DD := Lib.hid fun W h => D W h hi
  clear hf b1' hci hfe hgc hct hcs HO1 D HF hgb
  obtain ⟨len, hlen⟩ : ∃ len, l.length = len := ⟨_, rfl⟩
  rw [hlen] at hi hl hcl DD F HO HO3 ⊢
  have HL := Lib.hid hlen
  clear hlen
  go_wp2_with fail
  refine (M.out _).mono ?_
  rintro e w1' ⟨rfl, rfl⟩
  go_wp2_with fail
  generalize w1.alloc _ = w3 at HO3 G3 B3 S3 ⊢
  have hne : gb ≠ w1.heap.size := by omega
  have hneO : (Value.slice (some ⟨gb, 0, none⟩) len vc).ownBlock ≠ some w1.heap.size := fun e => hne (by injection e)
  obtain ⟨d0, d1, d2⟩ := cells3 G3.out
  have HNE := Lib.hid hneO
  have hw1 : IntKind.i64.wrap ((i : Int) + 1) = (i : Int) + 1 := by rw [IntKind.wrap_i64]; omega
  clear hneO hne
  go_region_with (first | (go_at_call 124; refine (DD.out _ (HO3.out.keep (Below.refl _ _).drew)).mono ?_; rintro e w4 ⟨⟨v2, rfl, ho2, b2⟩, hk2⟩; obtain ⟨x0, x1, x2'⟩ := cells3 ((hk2 _ HNE.out).trans G3.out); have HO4 := Lib.hid ho2; have B4 := Lib.hid (B3.out.drew.trans b2); have S4 := Lib.hid (Nat.le_trans S3.out b2.size); clear ho2 b2 hk2) | (go_at_call 128; refine (P.out _ _ HO4.out S4.out).mono ?_; rintro e w5 ⟨v3, rfl, ho3, b3⟩; obtain ⟨ga, gn, gc, rfl⟩ := own_slice ho3; have HG5 := Lib.hid (show StepOut w base (withF (without l n) ⟨m, f.d, f.s⟩) 0 (.returned (.tuple #[.slice ga gn gc, .int .i64 0])) w5 from StepOut.yes ho3 (B4.out.trans b3)); clear ho3 b3))
  all_goals
    go_wp2_with fail
    go_ret2
    exact HG5.out

end Go.Proofs.YthhhocgpoenigaaGreat.Dsk
