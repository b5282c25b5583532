/-
  What the law's awake answers.
-/
import Derived.Test.YtbkiecjbjehaoaaDiskHeld
namespace Go.Proofs.Ytbkiecjbjehaoaa.Dsk
open Go.RowKit Go.Proofs.Ytbkiecjbjehaoaa.Dp

def bF : ByteArray := ⟨#[102]⟩
def bAB : ByteArray := ⟨#[97, 98]⟩
def bCD : ByteArray := ⟨#[99, 100]⟩
def aw1 : Dk := (act empty ⟨0, 0, bF, ⟨#[]⟩, []⟩).1
def aw2 : Dk := (act aw1 ⟨1, 0, bF, bAB, []⟩).1
def aw3 : Dk := (act aw2 ⟨2, 0, bF, ⟨#[]⟩, []⟩).1
def aw4 : Dk := (act aw3 ⟨1, 0, bF, bCD, []⟩).1
def aw5 : Dk := crash aw4 [1]
theorem aw1_bd : Bd aw1 1 := Bd.empty.step (by decide) (by decide)
theorem aw2_bd : Bd aw2 2 := aw1_bd.step (by decide) (by decide)
theorem aw3_bd : Bd aw3 3 := aw2_bd.step (by decide) (by decide)
theorem aw4_bd : Bd aw4 4 := aw3_bd.step (by decide) (by decide)
theorem aw1_eq : create empty bF = (aw1, 0) := by
  have h : (create empty bF).2 = 0 := by decide +kernel
  rw [← h]; rfl
theorem aw2_eq : append aw1 bF bAB = (aw2, 0) := by
  have h : (append aw1 bF bAB).2 = 0 := by decide +kernel
  rw [← h]; rfl
theorem aw3_eq : sync aw2 bF = (aw3, 0) := by
  have h : (sync aw2 bF).2 = 0 := by decide +kernel
  rw [← h]; rfl
theorem aw4_eq : append aw3 bF bCD = (aw4, 0) := by
  have h : (append aw3 bF bCD).2 = 0 := by decide +kernel
  rw [← h]; rfl
theorem aw5_get : (Dp.get aw5.f bF).map (·.d) = some ⟨#[97, 98, 99]⟩ := by decide +kernel
theorem aw5_read : readVal aw5.f bF = .tuple #[.string ⟨#[97, 98, 99]⟩, .int .i64 0] := by
  have h := aw5_get
  cases hg : Dp.get aw5.f bF with
  | none => rw [hg] at h; cases h
  | some f =>
    rw [hg] at h
    have e : f.d = ⟨#[97, 98, 99]⟩ := Option.some.inj h
    rw [readVal_yes hg, e]
theorem crash_sm {D : Dk} {k : Nat} (h : Bd D k) (hk : k ≤ 1000) (ks : List Int) : Sm (crash D ks) := by
  have e : crash D ks = (act D ⟨8, 0, ⟨#[]⟩, ⟨#[]⟩, ks⟩).1 := rfl
  rw [e]
  have := h.step (a := ⟨8, 0, ⟨#[]⟩, ⟨#[]⟩, ks⟩) (by show (0 : Int) ≤ _; omega) (by show (0 : Nat) ≤ 100; omega)
  exact ⟨this.b, this.r, by have := this.n; omega, by have := this.u; omega⟩

/-- A disk in a variable: its block, its files in another one. -/
structure Var (W : World) (base b : Nat) (v : Value) (D : Dk) : Prop where
  h : W.heap[b]? = some (.cells #[v, .int .i64 D.c, .bool D.a, .int .i64 D.l, .bool D.x] 24 (0, 0))
  l : Held W base b v D.f
theorem Var.new {W : World} {base : Nat} {v : Value} {D : Dk} (h : OwnL FL W base v D.f) : Var (W.alloc (.cells #[v, .int .i64 D.c, .bool D.a, .int .i64 D.l, .bool D.x] 24)) base W.heap.size v D :=
  ⟨heap_alloc_new W _, h.alloc _, fun e => absurd (h.lt _ e).2 (Nat.lt_irrefl _)⟩
theorem heap_set5 {W : World} {k : Nat} {T : TypeId} {a b c d e : Value} (h : W.heap[k]? = some (.cells #[a, b, c, d, e] T (0, 0))) (x y z u t : Value) : (set5 W k x y z u t).heap[k]? = some (.cells #[x, y, z, u, t] T (0, 0)) :=
  heap_setCell_same _ _ 4 _ _ t (heap_setCell_same _ _ 3 _ _ u (heap_setCell_same _ _ 2 _ _ z (heap_setCell_same _ _ 1 _ _ y (heap_setCell_same _ _ 0 _ _ x h))))
theorem Var.lt {W : World} {base b : Nat} {v : Value} {D : Dk} (h : Var W base b v D) : b < W.heap.size := (Array.getElem?_eq_some_iff.1 h.h).1
theorem Var.keep {W W' : World} {base b : Nat} {v : Value} {D : Dk} (h : Var W base b v D) (hb : Below W.heap.size W W') : Var W' base b v D := ⟨hkeep h.h hb, h.l.keep hb⟩
/-- A call's disk is laid in the variable. -/
theorem Var.put {W W' : World} {base b : Nat} {v v' : Value} {D D' : Dk} (h : Var W base b v D) (hB : base ≤ W.heap.size) (hk : KeptOr W' W.heap.size v D.f v' D'.f) (bel : Below W.heap.size W W') : Var (set5 W' b v' (.int .i64 D'.c) (.bool D'.a) (.int .i64 D'.l) (.bool D'.x)) base b v' D' :=
  ⟨heap_set5 (hkeep h.h bel) _ _ _ _ _, (h.l.step h.lt hB hk bel).set5 _ _ _ _ _⟩

/-- A slice of one number that was just laid. -/
theorem kl_one {W : World} {N : Nat} (hN : W.heap.size = N) (k : Int) (hk : -9223372036854775808 ≤ k ∧ k ≤ 9223372036854775807) : IsL KL (W.alloc (.cells #[.int .i64 k] 3)) (.slice (some ⟨N, 0, none⟩) 1 1) [k] := by
  refine ⟨_, 1, rfl, (by decide : 1 ≤ maxLen), fun x hx => by rw [List.mem_singleton] at hx; rw [hx]; exact hk, .inr ⟨N, 0, rfl, fun j u hj => ?_⟩⟩
  have := news_new W N [.int .i64 k] 3 hN j u hj
  rwa [addr_plain] at this
theorem size_set5 (W : World) (k : Nat) (x y z u v : Value) : (set5 W k x y z u v).heap.size = W.heap.size := by unfold set5; simp

set_option maxRecDepth 100000 in
set_option maxHeartbeats 6400000 in
theorem awake06 (w : World) : Calls Try.prog 10 #[] w fun e w' => e = .returned (.bool true) ∧ Below w.heap.size w w' := by
  have C1 := Lib.hid fun (W : World) => by
    have := create_any (.slice none 0 0) empty bF W (IsL.nil W none 0) (Bd.empty.sm (by omega)) (by decide)
    rw [aw1_eq] at this
    exact this
  have C2 := Lib.hid fun (v : Value) (W : World) (h : IsL FL W v aw1.f) => by
    have := append_any v aw1 bF bAB W h (aw1_bd.sm (by omega)) (by decide)
    rw [aw2_eq] at this
    exact this
  have C3 := Lib.hid fun (v : Value) (W : World) (h : IsL FL W v aw2.f) => by
    have := sync_any v aw2 bF W h (aw2_bd.sm (by omega))
    rw [aw3_eq] at this
    exact this
  have C4 := Lib.hid fun (v : Value) (W : World) (h : IsL FL W v aw3.f) => by
    have := append_any v aw3 bF bCD W h (aw3_bd.sm (by omega)) (by decide)
    rw [aw4_eq] at this
    exact this
  have C5 := Lib.hid fun (v kv : Value) (W : World) (h : IsL FL W v aw4.f) (h2 : IsL KL W kv [1]) => crash_any v aw4 kv [1] W h (aw4_bd.sm (by omega)) h2
  have S5 : Sm aw5 := crash_sm aw4_bd (by omega) [1]
  have C6 := Lib.hid fun (v : Value) (W : World) (h : IsL FL W v aw5.f) => by
    have := read_any v aw5 bF W h S5.r.2.1 (by have := S5.n; omega)
    rw [aw5_read] at this
    exact this
  have S := Lib.hid (show Sm aw1 ∧ Sm aw2 ∧ Sm aw3 ∧ Sm aw4 ∧ Sm aw5 from ⟨aw1_bd.sm (by omega), aw2_bd.sm (by omega), aw3_bd.sm (by omega), aw4_bd.sm (by omega), S5⟩)
  clear S5
  have e5 : crash aw4 [1] = aw5 := rfl
  rw [e5] at C5
  have e6 : crashF aw4.f [1] = aw5.f := rfl
  rw [e6] at C5
  clear e5 e6
  unfold dkVal bF at C1 C3 C6
  unfold dkVal bF bAB at C2
  unfold dkVal bF bCD at C4
  unfold dkVal at C5
  generalize aw1 = D1 at *
  generalize aw2 = D2 at *
  generalize aw3 = D3 at *
  generalize aw4 = D4 at *
  generalize aw5 = D5 at *
  unfold Dp.empty at C1
  dsimp only at C1
  go_enter Try.func10, Try.ntmps10
  go_wp2_with fail
  refine (C1.out _).mono ?_
  rintro e w1 hr1
  obtain ⟨v1, rfl, hk1, hb1⟩ := DkOut.do hr1
  obtain ⟨fa1, fn1, fc1, rfl⟩ : ∃ a n c, v1 = .slice a n c := by
    rcases hk1 with ⟨h, _⟩ | h
    · exact ⟨_, _, _, h⟩
    · exact own_slice h
  have V1 := Lib.hid (Var.new (W := w1) (base := w.heap.size) (v := .slice fa1 fn1 fc1) (D := D1) (by
    rcases hk1 with ⟨h, h'⟩ | h
    · rw [h, h']; exact OwnL.nil _ _
    · exact h))
  have B1 := Lib.hid (hb1.alloc hb1.size (.cells #[.slice fa1 fn1 fc1, .int .i64 D1.c, .bool D1.a, .int .i64 D1.l, .bool D1.x] 24))
  clear hr1 hk1
  unfold dkVal
  go_wp2_with fail
  generalize World.alloc w1 _ = W1 at V1 B1 ⊢
  have VB := Lib.hid B1.out.size
  refine (C2.out _ _ (V1.out.l.is S.out.1)).mono ?_
  rintro e w2 hr
  obtain ⟨v2, rfl, hk, hb⟩ := DkOut.do hr
  have V2 := V1.out.put B1.out.size hk hb
  have hlt2 := V1.out.lt
  have B2 := Lib.hid (bel_set5 (B1.out.trans (hb.mono B1.out.size)) (k := w1.heap.size) hb1.size v2 (.int .i64 D2.c) (.bool D2.a) (.int .i64 D2.l) (.bool D2.x))
  obtain ⟨fa2, fn2, fc2, rfl⟩ := own_slice V2.l.1
  obtain ⟨q0, q1, q2, q3, q4⟩ := cells5 (hkeep V1.out.h hb)
  obtain ⟨f0, f1, f2, f3, f4⟩ := frozen5 (hkeep V1.out.h hb)
  have V2 := Lib.hid V2
  clear hr hk hb
  unfold dkVal
  go_wp2_with fail
  clear q0 q1 q2 q3 q4 f0 f1 f2 f3 f4
  change Calls _ _ _ (set5 w2 w1.heap.size (.slice fa2 fn2 fc2) (.int .i64 D2.c) (.bool D2.a) (.int .i64 D2.l) (.bool D2.x)) _
  generalize set5 _ _ _ _ _ _ _ = W2 at V2 B2 ⊢
  have VB := Lib.hid B2.out.size
  refine (C3.out _ _ (V2.out.l.is S.out.2.1)).mono ?_
  rintro e w3 hr
  obtain ⟨v3, rfl, hk, hb⟩ := DkOut.do hr
  have V3 := V2.out.put B2.out.size hk hb
  have hlt3 := V2.out.lt
  have B3 := Lib.hid (bel_set5 (B2.out.trans (hb.mono B2.out.size)) (k := w1.heap.size) hb1.size v3 (.int .i64 D3.c) (.bool D3.a) (.int .i64 D3.l) (.bool D3.x))
  obtain ⟨fa3, fn3, fc3, rfl⟩ := own_slice V3.l.1
  obtain ⟨q0, q1, q2, q3, q4⟩ := cells5 (hkeep V2.out.h hb)
  obtain ⟨f0, f1, f2, f3, f4⟩ := frozen5 (hkeep V2.out.h hb)
  have V3 := Lib.hid V3
  clear hr hk hb
  unfold dkVal
  go_wp2_with fail
  clear q0 q1 q2 q3 q4 f0 f1 f2 f3 f4
  change Calls _ _ _ (set5 w3 w1.heap.size (.slice fa3 fn3 fc3) (.int .i64 D3.c) (.bool D3.a) (.int .i64 D3.l) (.bool D3.x)) _
  generalize set5 _ _ _ _ _ _ _ = W3 at V3 B3 ⊢
  have VB := Lib.hid B3.out.size
  refine (C4.out _ _ (V3.out.l.is S.out.2.2.1)).mono ?_
  rintro e w4 hr
  obtain ⟨v4, rfl, hk, hb⟩ := DkOut.do hr
  have V4 := V3.out.put B3.out.size hk hb
  have hlt4 := V3.out.lt
  have B4 := Lib.hid (bel_set5 (B3.out.trans (hb.mono B3.out.size)) (k := w1.heap.size) hb1.size v4 (.int .i64 D4.c) (.bool D4.a) (.int .i64 D4.l) (.bool D4.x))
  obtain ⟨fa4, fn4, fc4, rfl⟩ := own_slice V4.l.1
  obtain ⟨q0, q1, q2, q3, q4⟩ := cells5 (hkeep V3.out.h hb)
  obtain ⟨f0, f1, f2, f3, f4⟩ := frozen5 (hkeep V3.out.h hb)
  have V4 := Lib.hid V4
  clear hr hk hb
  unfold dkVal
  go_wp2_with fail
  clear q0 q1 q2 q3 q4 f0 f1 f2 f3 f4
  change Calls _ _ _ ((set5 w4 w1.heap.size (.slice fa4 fn4 fc4) (.int .i64 D4.c) (.bool D4.a) (.int .i64 D4.l) (.bool D4.x)).alloc (.cells #[.int .i64 1] 3)) _
  have KK := kl_one (size_set5 w4 w1.heap.size (.slice fa4 fn4 fc4) (.int .i64 D4.c) (.bool D4.a) (.int .i64 D4.l) (.bool D4.x)) 1 (by omega)
  have B4' := Lib.hid (B4.out.alloc B4.out.size (.cells #[.int .i64 1] 3))
  have V4' := Lib.hid (V4.out.l.alloc (.cells #[.int .i64 1] 3))
  generalize (set5 _ _ _ _ _ _ _).alloc _ = W4 at KK V4' B4' ⊢
  refine (C5.out _ _ _ (V4'.out.is S.out.2.2.2.1) KK).mono ?_
  rintro e w5 ⟨v5, rfl, ho5, hb5⟩
  obtain ⟨fa5, fn5, fc5, rfl⟩ := own_slice ho5
  have B5 := Lib.hid (B4'.out.trans (hb5.mono B4'.out.size))
  have H5 := Lib.hid (ho5.is (by have := S.out.2.2.2.2.n; unfold maxLen; omega) S.out.2.2.2.2.flb)
  clear ho5 hb5 KK
  go_wp2_with fail
  refine (C6.out _ _ H5.out).mono ?_
  rintro e w6 ⟨rfl, hb6⟩
  have B6 := Lib.hid (B5.out.trans (hb6.mono B5.out.size))
  clear hb6
  go_wp2_with fail
  go_ret
  exact ⟨by rfl, B6.out⟩

end Go.Proofs.Ytbkiecjbjehaoaa.Dsk
