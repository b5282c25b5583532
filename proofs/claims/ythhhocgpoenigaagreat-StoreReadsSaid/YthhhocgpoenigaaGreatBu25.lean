/-
  Parts of what the laws of this seat stand on: StoTkm, StoSml, MrRight, MrPut.
-/
import Derived.Test.YthhhocgpoenigaaGreatBu10
import Derived.Test.YthhhocgpoenigaaGreatBu12
import Derived.Test.YthhhocgpoenigaaGreatBu24
import Derived.Test.YthhhocgpoenigaaGreatBu5
import Derived.Test.YthhhocgpoenigaaGreatBu6
import Derived.Test.YthhhocgpoenigaaGreatBu9
namespace Go.Proofs.YthhhocgpoenigaaGreat.Sto
open Go.RowKit Go.Proofs.YthhhocgpoenigaaGreat.So Go.Proofs.YthhhocgpoenigaaGreat.Dsk Go.Proofs.YthhhocgpoenigaaGreat.Rts

theorem Ms.start {w : World} {fv gv : Value} {lf : List Dp.Fl} {lg : List Rt.Sg} (hf : IsL FL w fv lf) (hg : IsL SL w gv lg) : Ms w w.heap.size fv gv [] [(fv, lf)] [(gv, lg)] w :=
  ⟨fun p hp => absurd hp List.not_mem_nil, fun p hp => (by
    rw [List.mem_singleton] at hp; subst hp
    exact ⟨hf, fun q hq => absurd hq List.not_mem_nil, fun _ _ h _ => h⟩), fun p hp => (by
    rw [List.mem_singleton] at hp; subst hp
    exact ⟨hg, fun q hq => absurd hq List.not_mem_nil, fun _ _ _ h => h⟩), Nat.le_refl _, Below.refl _ _⟩
theorem Ms.dks {w W : World} {fv0 : Value} {cs : List (Nat × Obj)} {fs : List (Value × List Dp.Fl)} {gs : List (Value × List Rt.Sg)} {a : Option Addr} {v : Value} {D : Dp.Dk} (h : Ms w w.heap.size fv0 (.slice a 0 0) cs fs gs W) (hm : (v, D.f) ∈ fs) : DkS w fv0 D v W :=
  ⟨h.fl hm, fun j hj hs => (h.f _ hm).2.2 j hj hs (Sep.nil j 0 a), h.w⟩

/-- How a disk's cells lie in a variable. -/
structure Form (A : Value → Dp.Dk → Array Value) : Prop where
  get : ∀ v D, (A v D)[0]? = some v ∧ (A v D)[1]? = some (.int .i64 D.c) ∧ (A v D)[2]? = some (.bool D.a) ∧ (A v D)[3]? = some (.int .i64 D.l) ∧ (A v D)[4]? = some (.bool D.x)
  set : ∀ v D v' D', (((((A v D).setIfInBounds 0 v').setIfInBounds 1 (.int .i64 D'.c)).setIfInBounds 2 (.bool D'.a)).setIfInBounds 3 (.int .i64 D'.l)).setIfInBounds 4 (.bool D'.x) = A v' D'
/-- A disk's variable of its own; a store's. -/
def form5 (v : Value) (D : Dp.Dk) : Array Value := #[v, .int .i64 D.c, .bool D.a, .int .i64 D.l, .bool D.x]
def form11 (gv : Value) (S : St) (v : Value) (D : Dp.Dk) : Array Value := #[v, .int .i64 D.c, .bool D.a, .int .i64 D.l, .bool D.x, .int .i64 S.v, gv, .int .i64 S.x, .int .i64 S.s, .int .i64 S.z, .int .u32 S.c]
theorem form5_is : Form form5 := ⟨fun _ _ => ⟨rfl, rfl, rfl, rfl, rfl⟩, fun _ _ _ _ => rfl⟩
theorem form11_is (gv : Value) (S : St) : Form (form11 gv S) := ⟨fun _ _ => ⟨rfl, rfl, rfl, rfl, rfl⟩, fun _ _ _ _ => rfl⟩

/-- The boxes of a disk's variable, an error's, and of what points at them; others beside. -/
structure Tk (w : World) (b : Nat) (fv0 gv0 : Value) (t e d : Nat) (A : Value → Dp.Dk → Array Value) (T : TypeId) (xs : List (Nat × Obj)) (gs : List (Value × List Rt.Sg)) (v : Value) (X : Dp.Dk × Int) (W : World) : Prop where
  m : Ms w b fv0 gv0 ((t, .cells (A v X.1) T) :: (e, .cells #[.int .i64 X.2] 32) :: (d, .cells #[.pointer (some ⟨t, 0, none⟩)] 71) :: (d + 1, .cells #[.pointer (some ⟨e, 0, none⟩)] 72) :: xs) [(v, X.1.f)] gs W
  n1 : t ≠ e
  n2 : t < d ∧ e < d
  n3 : ∀ p ∈ xs, p.1 ≠ t ∧ p.1 ≠ e
section
variable {w W W' : World} {b t e d : Nat} {fv0 gv0 v : Value} {A : Value → Dp.Dk → Array Value} {T : TypeId} {xs : List (Nat × Obj)} {gs : List (Value × List Rt.Sg)} {X : Dp.Dk × Int}
theorem Tk.keep (h : Tk w b fv0 gv0 t e d A T xs gs v X W) (k : Below W.heap.size W W') : Tk w b fv0 gv0 t e d A T xs gs v X W' := ⟨h.m.keep k, h.n1, h.n2, h.n3⟩
theorem Tk.al (h : Tk w b fv0 gv0 t e d A T xs gs v X W) (o : Obj) : Tk w b fv0 gv0 t e d A T xs gs v X (W.alloc o) := h.keep ((Below.refl _ _).alloc (Nat.le_refl _) _)
theorem Tk.al2 (h : Tk w b fv0 gv0 t e d A T xs gs v X W) (o o' : Obj) : Tk w b fv0 gv0 t e d A T xs gs v X ((W.alloc o).alloc o') := (h.al o).al o'
theorem Tk.hd (h : Tk w b fv0 gv0 t e d A T xs gs v X W) : W.heap[t]? = some (.cells (A v X.1) T) := h.m.at_ List.mem_cons_self
theorem Tk.he (h : Tk w b fv0 gv0 t e d A T xs gs v X W) : W.heap[e]? = some (.cells #[.int .i64 X.2] 32) := h.m.at_ (List.mem_cons_of_mem _ List.mem_cons_self)
theorem Tk.fl (h : Tk w b fv0 gv0 t e d A T xs gs v X W) : IsL FL W v X.1.f := h.m.fl List.mem_cons_self
theorem Tk.hx (h : Tk w b fv0 gv0 t e d A T xs gs v X W) {i : Nat} {o : Obj} (hm : (i, o) ∈ xs) : W.heap[i]? = some o := h.m.at_ (List.mem_cons_of_mem _ (List.mem_cons_of_mem _ (List.mem_cons_of_mem _ (List.mem_cons_of_mem _ hm))))
/-- The beginning: what points at the two is made. -/
theorem Tk.new (h : Ms w b fv0 gv0 ((t, .cells (A v X.1) T) :: (e, .cells #[.int .i64 X.2] 32) :: xs) [(v, X.1.f)] gs W) (n1 : t ≠ e) (n3 : ∀ p ∈ xs, p.1 ≠ t ∧ p.1 ≠ e) :
    Tk w b fv0 gv0 t e W.heap.size A T xs gs v X ((W.alloc (.cells #[.pointer (some ⟨t, 0, none⟩)] 71)).alloc (.cells #[.pointer (some ⟨e, 0, none⟩)] 72)) := by
  have M := (h.alloc #[.pointer (some ⟨t, 0, none⟩)] 71).alloc #[.pointer (some ⟨e, 0, none⟩)] 72
  rw [World.size_alloc] at M
  have l1 : t < W.heap.size := h.lt List.mem_cons_self
  have l2 : e < W.heap.size := h.lt (List.mem_cons_of_mem _ List.mem_cons_self)
  refine ⟨M.sub (fun p hp => ?_) (fun _ hp => hp) (fun _ hp => hp), n1, ⟨l1, l2⟩, n3⟩
  simp only [List.mem_cons] at hp ⊢
  rcases hp with hp | hp | hp | hp | hp
  · exact .inr (.inr (.inl hp))
  · exact .inr (.inr (.inr (.inl hp)))
  · exact .inr (.inl hp)
  · exact .inl hp
  · exact .inr (.inr (.inr (.inr hp)))
/-- A step is taken, or passed over. -/
theorem Tk.take {a : Option Addr} {n c : Nat} (hF : Form A) (h : Tk w b fv0 gv0 t e d A T xs gs (.slice a n c) X W) {N : Nat} {caps : Array Value} {R : Dp.Dk × Int} (hst : Stp N caps (.slice a n c) X.1 R W) :
    Calls Tryz.prog 70 #[.func (.func N) #[] caps, .pointer (some ⟨d + 1, 0, none⟩), .pointer (some ⟨d, 0, none⟩)] W fun en W' => en = .returned (.tuple #[]) ∧ ∃ a' n' c', Tk w b fv0 gv0 t e d A T xs gs (.slice a' n' c') (tk X R) W' := by
  obtain ⟨D, E⟩ := X
  have g0 := h.hd
  have g1 := h.he
  have g2 : W.heap[d]? = some (.cells #[.pointer (some ⟨t, 0, none⟩)] 71) := h.m.at_ (List.mem_cons_of_mem _ (List.mem_cons_of_mem _ List.mem_cons_self))
  have g3 : W.heap[d + 1]? = some (.cells #[.pointer (some ⟨e, 0, none⟩)] 72) := h.m.at_ (List.mem_cons_of_mem _ (List.mem_cons_of_mem _ (List.mem_cons_of_mem _ List.mem_cons_self)))
  have n2 := h.n2
  by_cases hE : E = 0
  · subst hE
    rw [tk_go]
    have hA := hF.get (.slice a n c) D
    refine (take1_go N caps a n c D R (d + 1) d e t W hst (cells1 g3).1 (cells1 g2).1 ⟨_, g1⟩ ⟨_, _, g0, hA⟩ h.n1 (by omega) (by omega) (by omega) (by omega)).mono ?_
    rintro en W' ⟨rfl, a', n', c', W1, k, rfl⟩
    refine ⟨rfl, a', n', c', ?_⟩
    have M1 := h.m.call (D' := R.1) List.mem_cons_self k
    have s0 : (set5 W1 t (.slice a' n' c') (.int .i64 R.1.c) (.bool R.1.a) (.int .i64 R.1.l) (.bool R.1.x)).heap[t]? = some (.cells (A (.slice a' n' c') R.1) T (0, 0)) := by
      rw [← hF.set (.slice a n c) D]
      exact heap_setCell_same _ _ 4 _ _ _ (heap_setCell_same _ _ 3 _ _ _ (heap_setCell_same _ _ 2 _ _ _ (heap_setCell_same _ _ 1 _ _ _ (heap_setCell_same _ _ 0 _ _ _ (hkeep g0 k.w)))))
    have M2 := M1.write (cs' := (t, .cells (A (.slice a' n' c') R.1) T) :: (e, .cells #[.int .i64 0] 32) :: (d, .cells #[.pointer (some ⟨t, 0, none⟩)] 71) :: (d + 1, .cells #[.pointer (some ⟨e, 0, none⟩)] 72) :: xs) List.mem_cons_self (grown5 W1 t _ _ _ _ _) s0 (fun p hp => by
      simp only [List.mem_cons] at hp ⊢
      rcases hp with rfl | rfl | rfl | rfl | hp
      · exact .inl rfl
      · exact .inr ⟨.inr (.inl rfl), h.n1.symm⟩
      · exact .inr ⟨.inr (.inr (.inl rfl)), by show d ≠ t; omega⟩
      · exact .inr ⟨.inr (.inr (.inr (.inl rfl))), by show d + 1 ≠ t; omega⟩
      · exact .inr ⟨.inr (.inr (.inr (.inr hp))), (h.n3 p hp).1⟩)
    obtain ⟨Z, hZ, M3⟩ := M2.lay1 (cs' := (t, .cells (A (.slice a' n' c') R.1) T) :: (e, .cells #[.int .i64 R.2] 32) :: (d, .cells #[.pointer (some ⟨t, 0, none⟩)] 71) :: (d + 1, .cells #[.pointer (some ⟨e, 0, none⟩)] 72) :: xs) (List.mem_cons_of_mem _ List.mem_cons_self) 0 (.int .i64 R.2) (fun p hp => by
      simp only [List.mem_cons] at hp ⊢
      rcases hp with rfl | rfl | rfl | rfl | hp
      · exact .inr ⟨.inl rfl, h.n1⟩
      · exact .inl rfl
      · exact .inr ⟨.inr (.inr (.inl rfl)), by show d ≠ e; omega⟩
      · exact .inr ⟨.inr (.inr (.inr (.inl rfl))), by show d + 1 ≠ e; omega⟩
      · exact .inr ⟨.inr (.inr (.inr (.inr hp))), (h.n3 p hp).2⟩)
    rw [← hZ] at M3
    exact ⟨M3.sub (fun _ hp => hp) (fun p hp => by rw [List.mem_singleton] at hp; rw [hp]; exact List.mem_cons_self) (fun _ hp => hp), h.n1, h.n2, h.n3⟩
  · rw [tk_no (show ((D, E) : Dp.Dk × Int).2 ≠ 0 from hE)]
    refine (take1_no _ (d + 1) d e E hE W (cells1 g3).1 (cells1 g1).1).mono ?_
    rintro en W' ⟨rfl, rfl⟩
    exact ⟨rfl, _, _, _, h⟩
end

section
variable {fa : Option Addr} {fn fc : Nat} {D : Dp.Dk} {k : Nat} {W : World}
theorem stp_of {N : Nat} {caps : Array Value} {fv : Value} {R : Dp.Dk × Int} (en : ∀ args w, (callFunc N args).run Tryz.prog w = .ok (.enter N args) w) (h : ∀ W', Below W.heap.size W W' → Calls Tryz.prog N (#[dkVal fv D] ++ caps) W' (DkAns W' fv R)) : Stp N caps fv D R W := ⟨en, h⟩
theorem al_at (W : World) (A : Array Value) (T : TypeId) : (W.alloc (.cells A T)).heap[W.heap.size]? = some (.cells A T (0, 0)) := heap_alloc_new W _
theorem al_bel (W : World) (o : Obj) : Below W.heap.size W (W.alloc o) := (Below.refl _ _).alloc (Nat.le_refl _) _
theorem stp_created (h : Bd D k) (hk : k ≤ 200000) (n : ByteArray) (hn : n.size ≤ 3000) (hv : IsL FL W (.slice fa fn fc) D.f) : Stp 71 #[.pointer (some ⟨W.heap.size, 0, none⟩)] (.slice fa fn fc) D (Dp.create D n) (W.alloc (.cells #[.string n] 9)) :=
  stp_of (enters Tryz.func71 (by kernel_rfl) (by rfl)) fun W' b => created1 fa fn fc D n W.heap.size _ W' ((hv.keep (al_bel W _)).keep b) (hkeep (al_at W _ _) b) fun W'' b' => create_s h hk n hn (((hv.keep (al_bel W _)).keep b).keep b')
theorem stp_deleted (h : Bd D k) (hk : k ≤ 200000) (n : ByteArray) (hv : IsL FL W (.slice fa fn fc) D.f) : Stp 86 #[.pointer (some ⟨W.heap.size, 0, none⟩)] (.slice fa fn fc) D (Dp.delete D n) (W.alloc (.cells #[.string n] 9)) :=
  stp_of (enters Tryz.func86 (by kernel_rfl) (by rfl)) fun W' b => deleted1 fa fn fc D n W.heap.size _ W' ((hv.keep (al_bel W _)).keep b) (hkeep (al_at W _ _) b) fun W'' b' => delete_s h hk n (((hv.keep (al_bel W _)).keep b).keep b')
theorem stp_synced (h : Bd D k) (hk : k ≤ 200000) (n : ByteArray) (hv : IsL FL W (.slice fa fn fc) D.f) : Stp 90 #[.pointer (some ⟨W.heap.size, 0, none⟩)] (.slice fa fn fc) D (Dp.sync D n) (W.alloc (.cells #[.string n] 9)) :=
  stp_of (enters Tryz.func90 (by kernel_rfl) (by rfl)) fun W' b => synced1 fa fn fc D n W.heap.size _ W' ((hv.keep (al_bel W _)).keep b) (hkeep (al_at W _ _) b) fun W'' b' => sync_s h hk n (((hv.keep (al_bel W _)).keep b).keep b')
theorem al_bel2 (W : World) (o o' : Obj) : Below W.heap.size W ((W.alloc o).alloc o') := (al_bel W o).alloc (al_bel W o).size _
theorem al_at2 (W : World) (A : Array Value) (T : TypeId) (o : Obj) : ((W.alloc (.cells A T)).alloc o).heap[W.heap.size]? = some (.cells A T (0, 0)) := halloc (heap_alloc_new W _)
theorem al_at3 (W : World) (A : Array Value) (T : TypeId) (o : Obj) : ((W.alloc o).alloc (.cells A T)).heap[W.heap.size + 1]? = some (.cells A T (0, 0)) := by
  have := heap_alloc_new (W.alloc o) (.cells A T)
  rwa [World.size_alloc] at this
theorem stp_appended (h : Bd D k) (hk : k ≤ 200000) (n s : ByteArray) (hs : s.size ≤ 3000) (hv : IsL FL W (.slice fa fn fc) D.f) : Stp 88 #[.pointer (some ⟨W.heap.size, 0, none⟩), .pointer (some ⟨W.heap.size + 1, 0, none⟩)] (.slice fa fn fc) D (Dp.append D n s) ((W.alloc (.cells #[.string n] 9)).alloc (.cells #[.string s] 9)) :=
  stp_of (enters Tryz.func88 (by kernel_rfl) (by rfl)) fun W' b => appended1 fa fn fc D n s W.heap.size (W.heap.size + 1) _ W' ((hv.keep (al_bel2 W _ _)).keep b) (hkeep (al_at2 W _ _ _) b) (hkeep (al_at3 W _ _ _) b) fun W'' b' => append_s h hk n s hs (((hv.keep (al_bel2 W _ _)).keep b).keep b')
theorem stp_renamed (h : Bd D k) (hk : k ≤ 200000) (n s : ByteArray) (hs : s.size ≤ 3000) (hv : IsL FL W (.slice fa fn fc) D.f) : Stp 91 #[.pointer (some ⟨W.heap.size, 0, none⟩), .pointer (some ⟨W.heap.size + 1, 0, none⟩)] (.slice fa fn fc) D (Dp.rename D n s) ((W.alloc (.cells #[.string n] 9)).alloc (.cells #[.string s] 9)) :=
  stp_of (enters Tryz.func91 (by kernel_rfl) (by rfl)) fun W' b => renamed1 fa fn fc D n s W.heap.size (W.heap.size + 1) _ W' ((hv.keep (al_bel2 W _ _)).keep b) (hkeep (al_at2 W _ _ _) b) (hkeep (al_at3 W _ _ _) b) fun W'' b' => rename_s h hk n s hs (((hv.keep (al_bel2 W _ _)).keep b).keep b')
theorem bd_tk {X R : Dp.Dk × Int} {k : Nat} (h : Bd X.1 k) (hR : Bd R.1 (k + 1)) : Bd (tk X R).1 (k + 1) := by
  unfold tk
  split
  · exact hR
  · exact h.mono (Nat.le_succ k)
end

end Go.Proofs.YthhhocgpoenigaaGreat.Sto

namespace Go.Proofs.YthhhocgpoenigaaGreat.Sto
open Go.RowKit Go.Proofs.YthhhocgpoenigaaGreat.So Go.Proofs.YthhhocgpoenigaaGreat.Dsk Go.Proofs.YthhhocgpoenigaaGreat.Rts

set_option maxRecDepth 100000 in
set_option maxHeartbeats 800000 in
theorem floor12_any (fv gv : Value) (S : St) (w : World) (hg : IsL SL w gv S.g) (_ : S.g ≠ []) :
    Calls Tryz.prog 14 #[stVal fv gv S] w fun e w' => e = .returned (.int .i64 (floor S)) ∧ Below w.heap.size w w' := by
  obtain ⟨ga, gn, gc, rfl⟩ : ∃ a n c, gv = .slice a n c := by obtain ⟨a, c, h, _⟩ := hg; exact ⟨a, _, c, h⟩
  have hgl := hg.len.1
  have hpos : 0 < S.g.length := List.length_pos_iff.2 (by assumption)
  obtain ⟨m, rfl⟩ : ∃ m, gn = m + 1 := ⟨gn - 1, by omega⟩
  have HG := Lib.hid fun (W : World) (b : Below w.heap.size w W) => sg_at (hg.keep b) (Nat.zero_lt_succ m)
  have HL := Lib.hid (show S.g.getD 0 Rt.zero = S.g.headD Rt.zero by cases S.g <;> rfl)
  have HF := Lib.hid (show floor S = (S.g.headD Rt.zero).b from rfl)
  rw [HL.out] at HG
  generalize S.g.headD Rt.zero = g at *
  unfold stVal
  have hb0 := Lib.hid ((Below.refl w.heap.size w).alloc (Nat.le_refl _) (.cells (stCells fv (.slice ga (m + 1) gc) S) 31))
  have g0 := heap_alloc_new w (.cells (stCells fv (.slice ga (m + 1) gc) S) 31)
  unfold stCells at hb0 g0
  obtain ⟨b, off, rfl, c0, _, _⟩ := HG.out _ hb0.out
  obtain ⟨⟨d0, d1, d2, d3, d4⟩, d5, d6, d7, d8, d9, d10⟩ := cellsS g0
  simp only [Nat.zero_mul, Nat.add_zero] at c0
  have hz : (((m + 1 : Nat) : Int) == 0) = false := by simp; omega
  clear hg hgl hpos g0
  go_enter Tryz.func14, Tryz.ntmps14
  go_wp2_with fail
  go_ret
  exact ⟨by rw [HF.out]; rfl, hb0.out⟩

set_option maxRecDepth 100000 in
set_option maxHeartbeats 800000 in
theorem file12_any (fv gv : Value) (S : St) (w : World) (hg : IsL SL w gv S.g) (hn : S.g ≠ []) (hB : ∀ g ∈ S.g, 0 ≤ g.b ∧ g.b ≤ 1152921504606846976) (hn2 : S.g.length ≤ 1000) :
    Calls Tryz.prog 67 #[stVal fv gv S] w fun e w' => e = .returned (.string (segN (lastG S).b)) ∧ Below w.heap.size w w' := by
  obtain ⟨ga, gn, gc, rfl⟩ : ∃ a n c, gv = .slice a n c := by obtain ⟨a, c, h, _⟩ := hg; exact ⟨a, _, c, h⟩
  have hgl := hg.len.1
  have hpos : 0 < S.g.length := List.length_pos_iff.2 hn
  obtain ⟨m, rfl⟩ : ∃ m, gn = m + 1 := ⟨gn - 1, by omega⟩
  have hm : S.g.length - 1 = m := by omega
  have C := Lib.hid fun W : World => seg_any (lastG S).b W (by
    have := hB (lastG S) (by unfold lastG; rw [getD_lt (show S.g.length - 1 < S.g.length by omega)]; exact List.getElem_mem _)
    omega)
  have HG := Lib.hid fun (W : World) (b : Below w.heap.size w W) => sg_at (hg.keep b) (Nat.lt_succ_self m)
  have HL := Lib.hid (show S.g.getD m Rt.zero = lastG S by unfold lastG; rw [hm])
  rw [HL.out] at HG
  generalize lastG S = g at *
  unfold stVal
  have hb0 := Lib.hid ((Below.refl w.heap.size w).alloc (Nat.le_refl _) (.cells (stCells fv (.slice ga (m + 1) gc) S) 31))
  have g0 := heap_alloc_new w (.cells (stCells fv (.slice ga (m + 1) gc) S) 31)
  unfold stCells at hb0 g0
  obtain ⟨b, off, rfl, c0, _, _⟩ := HG.out _ hb0.out
  obtain ⟨⟨d0, d1, d2, d3, d4⟩, d5, d6, d7, d8, d9, d10⟩ := cellsS g0
  have hz : (((m + 1 : Nat) : Int) == 0) = false := by simp; omega
  have hmw : IntKind.i64.wrap (((m + 1 : Nat) : Int) - 1) = (m : Int) := by
    rw [show ((m + 1 : Nat) : Int) - 1 = (m : Int) from by omega]
    exact IntWalk.i64_in _ ⟨by omega, by omega⟩
  have hmw2 : IntKind.i64.wrap (m : Int) = (m : Int) := IntWalk.i64_in _ ⟨by omega, by omega⟩
  clear hg hgl hpos hm hn hB g0
  go_enter Tryz.func67, Tryz.ntmps67
  go_wp2_with fail
  refine (C.out _).mono ?_
  rintro e w1 ⟨rfl, b1⟩
  have B1 := Lib.hid (hb0.out.trans (b1.mono hb0.out.size))
  clear b1
  go_wp2_with fail
  go_ret
  exact ⟨rfl, B1.out⟩

set_option maxRecDepth 100000 in
set_option maxHeartbeats 800000 in
theorem full12_any (fv gv : Value) (S : St) (q : Int) (w : World) (hg : IsL SL w gv S.g) (hn : S.g ≠ []) (hn2 : S.g.length ≤ 1000) :
    Calls Tryz.prog 65 #[stVal fv gv S, .int .i64 q] w fun e w' => e = .returned (.bool (decide (q ≤ (lastG S).z))) ∧ Below w.heap.size w w' := by
  obtain ⟨ga, gn, gc, rfl⟩ : ∃ a n c, gv = .slice a n c := by obtain ⟨a, c, h, _⟩ := hg; exact ⟨a, _, c, h⟩
  have hgl := hg.len.1
  have hpos : 0 < S.g.length := List.length_pos_iff.2 hn
  obtain ⟨m, rfl⟩ : ∃ m, gn = m + 1 := ⟨gn - 1, by omega⟩
  have hm : S.g.length - 1 = m := by omega
  have HG := Lib.hid fun (W : World) (b : Below w.heap.size w W) => sg_at (hg.keep b) (Nat.lt_succ_self m)
  have HL := Lib.hid (show S.g.getD m Rt.zero = lastG S by unfold lastG; rw [hm])
  rw [HL.out] at HG
  generalize lastG S = g at *
  unfold stVal
  have hb0 := Lib.hid ((Below.refl w.heap.size w).alloc (Nat.le_refl _) (.cells (stCells fv (.slice ga (m + 1) gc) S) 31))
  have g0 := heap_alloc_new w (.cells (stCells fv (.slice ga (m + 1) gc) S) 31)
  unfold stCells at hb0 g0
  obtain ⟨b, off, rfl, _, _, c0⟩ := HG.out _ hb0.out
  obtain ⟨⟨d0, d1, d2, d3, d4⟩, d5, d6, d7, d8, d9, d10⟩ := cellsS g0
  have hz : (0 : Int) < ((m + 1 : Nat) : Int) := by omega
  have hmw : IntKind.i64.wrap (((m + 1 : Nat) : Int) - 1) = (m : Int) := by
    rw [show ((m + 1 : Nat) : Int) - 1 = (m : Int) from by omega]
    exact IntWalk.i64_in _ ⟨by omega, by omega⟩
  have hmw2 : IntKind.i64.wrap (m : Int) = (m : Int) := IntWalk.i64_in _ ⟨by omega, by omega⟩
  clear hg hgl hpos hm hn g0
  go_enter Tryz.func65, Tryz.ntmps65
  go_wp2_with fail
  go_ret
  exact ⟨rfl, hb0.out⟩

set_option maxRecDepth 100000 in
set_option maxHeartbeats 800000 in
theorem has12_any (fv : Value) (D : Dp.Dk) (n : ByteArray) (w : World) (hv : IsL FL w fv D.f) (hS : Sm D) :
    Calls Tryz.prog 45 #[dkVal fv D, .string n] w fun e w' => e = .returned (.bool (Dp.get D.f n).isSome) ∧ Below w.heap.size w w' := by
  have b0 := (Below.refl w.heap.size w).alloc (Nat.le_refl _) (.cells #[fv, .int .i64 D.c, .bool D.a, .int .i64 D.l, .bool D.x] 27)
  have C := Lib.hid (Dsk.read_any fv D n _ (hv.keep b0) hS.r.2.1 (by have := hS.n; omega))
  obtain ⟨d0, d1, d2, d3, d4⟩ := cells5 (heap_alloc_new w (.cells #[fv, .int .i64 D.c, .bool D.a, .int .i64 D.l, .bool D.x] 27))
  have B0 := Lib.hid b0
  clear hv hS b0
  unfold dkVal at C ⊢
  cases hg : Dp.get D.f n with
  | none =>
    rw [readVal_no hg] at C
    clear hg
    go_enter Tryz.func45, Tryz.ntmps45
    go_wp2_with fail
    refine C.out.mono ?_
    rintro e w1 ⟨rfl, b1⟩
    have B1 := Lib.hid (B0.out.trans (b1.mono B0.out.size))
    clear b1
    go_wp2_with fail
    go_ret
    exact ⟨rfl, B1.out⟩
  | some f =>
    rw [readVal_yes hg] at C
    clear hg
    go_enter Tryz.func45, Tryz.ntmps45
    go_wp2_with fail
    refine C.out.mono ?_
    rintro e w1 ⟨rfl, b1⟩
    have B1 := Lib.hid (B0.out.trans (b1.mono B0.out.size))
    clear b1
    go_wp2_with fail
    go_ret
    exact ⟨rfl, B1.out⟩

end Go.Proofs.YthhhocgpoenigaaGreat.Sto

namespace Go.Proofs.YthhhocgpoenigaaGreat.Mfs
open Go.RowKit Go.Proofs.YthhhocgpoenigaaGreat.Qm

/-- May a manifest have these offsets? -/
def HaveOk (l : List Int) : Prop := 1 ≤ l.length ∧ l.length ≤ 64 ∧ ∀ i, i < l.length → AtOk l i
/-- May a snapshot be? -/
def SnapOk (f z c : Int) : Prop := (f = 0 ∧ z = 0 ∧ c = 0) ∨ (f ≠ 0 ∧ 1 ≤ z ∧ z ≤ 65536)
instance (f z c : Int) : Decidable (SnapOk f z c) := by unfold SnapOk; infer_instance
/-- The one ahead. -/
def lastOf (l : List Int) : Nat → Int
  | 0 => -1
  | k + 1 => l.getD k 0
/-- What a round finds. -/
theorem have_cases (l : List Int) (k : Nat) (h : ∀ j, j < k → AtOk l j) :
    (¬ AtOk l k ∧ (l.getD k 0 ≤ lastOf l k ∨ (lastOf l k < l.getD k 0 ∧ 1099511627776 < l.getD k 0))) ∨ (AtOk l k ∧ lastOf l k < l.getD k 0 ∧ l.getD k 0 ≤ 1099511627776) := by
  have hlast : -1 ≤ lastOf l k ∧ (0 < k → lastOf l k = l.getD (k - 1) 0) ∧ (k = 0 → lastOf l k = -1) := by
    cases k with
    | zero => exact ⟨by show (-1 : Int) ≤ -1; omega, by omega, fun _ => rfl⟩
    | succ k => exact ⟨by have := (h k (by omega)).1; show (-1 : Int) ≤ l.getD k 0; omega, fun _ => rfl, by omega⟩
  obtain ⟨h0, h1, h2⟩ := hlast
  by_cases c1 : l.getD k 0 ≤ lastOf l k
  · refine .inl ⟨fun ⟨a0, _, a2⟩ => ?_, .inl c1⟩
    by_cases hk : k = 0
    · have := h2 hk; omega
    · have := a2 (by omega); have := h1 (by omega); omega
  · by_cases c2 : 1099511627776 < l.getD k 0
    · exact .inl ⟨fun ⟨_, a1, _⟩ => by omega, .inr ⟨by omega, c2⟩⟩
    · exact .inr ⟨⟨by omega, by omega, fun hk => by have := h1 hk; omega⟩, by omega, by omega⟩

set_option maxRecDepth 100000 in
set_option maxHeartbeats 1600000 in
theorem mayHave_any (fa : Option Addr) (fn fc : Nat) (l : List Int) (b : Bool) (w : World) (hv : IsL IL w (.slice fa fn fc) l) (hb : b = true ↔ HaveOk l) :
    Calls Tryz.prog 121 #[.slice fa fn fc] w fun e w' => e = .returned (.bool b) ∧ w = w' := by
  have HV := Lib.hid hv
  have HFL := Lib.hid hv.len.1
  have HN := Lib.hid (show ¬ HaveOk l → b = false from fun h => by rw [← Bool.not_eq_true, hb]; exact h)
  have HY := Lib.hid (show HaveOk l → b = true from hb.2)
  clear hv hb
  by_cases g3 : (fn : Int) < 1
  · have HF := Lib.hid (HN.out fun h => by have := h.1; rw [← HFL.out] at this; omega)
    go_enter Tryz.func121, Tryz.ntmps121
    go_wp2_with fail
    go_ret
    exact ⟨by rw [HF.out]; rfl, rfl⟩
  have e3 : decide ((fn : Int) < 1) = false := by simp; omega
  by_cases g4 : (64 : Int) < (fn : Int)
  · have HF := Lib.hid (HN.out fun h => by have := h.2.1; rw [← HFL.out] at this; omega)
    go_enter Tryz.func121, Tryz.ntmps121
    go_wp2_with fail
    go_ret
    exact ⟨by rw [HF.out]; rfl, rfl⟩
  have e4 : decide ((64 : Int) < (fn : Int)) = false := by simp; omega
  go_enter Tryz.func121, Tryz.ntmps121
  go_wp2_with fail
  go_loop [3, 16] (fun z i => ∃ k : Nat, k ≤ fn ∧ i = .int .i64 k ∧ z = .int .i64 (lastOf l k) ∧ ∀ j, j < k → AtOk l j) (fun _ i => fn - (intOf i).toNat)
  case atStart => exact ⟨0, Nat.zero_le _, rfl, rfl, fun j hj => absurd hj (Nat.not_lt_zero j)⟩
  case round =>
    obtain ⟨k, hk, rfl, rfl, hall⟩ := hrel
    have HALL := Lib.hid hall
    by_cases hlt : k < fn
    · obtain ⟨g, off, rfl, y0⟩ := il_at HV.out hlt
      have HLS := Lib.hid (show lastOf l (k + 1) = l.getD k 0 from rfl)
      rcases have_cases l k hall with ⟨hno, hbad⟩ | ⟨hyes, i1, i2⟩
      · have HF := Lib.hid (HN.out fun h => hno (h.2.2 k (by rw [← HFL.out]; exact hlt)))
        clear hno hall
        generalize l.getD k 0 = f at *
        generalize lastOf l k = la at *
        rcases hbad with i1 | ⟨i1, i2⟩
        · go_wp2_with fail
          go_ret
          exact ⟨by rw [HF.out]; rfl, rfl⟩
        · have q1 : decide (f ≤ la) = false := by simpa using i1
          go_wp2_with fail
          go_ret
          exact ⟨by rw [HF.out]; rfl, rfl⟩
      · have GY := Lib.hid (all_next hall hyes)
        clear hyes hall
        generalize l.getD k 0 = f at *
        generalize lastOf l k = la at *
        have q1 : decide (f ≤ la) = false := by simpa using i1
        have q2 : decide ((1099511627776 : Int) < f) = false := by simpa using i2
        go_wp2_with fail
        go_round
        case rel => exact ⟨k + 1, by omega, by go_num, by rw [HLS.out], GY.out⟩
        case measure => simp [intOf]; omega
    · have HF := Lib.hid (HY.out ⟨by rw [← HFL.out]; omega, by rw [← HFL.out]; omega, fun i hi => HALL.out i (by rw [← HFL.out] at hi; omega)⟩)
      clear hall
      go_wp2_with fail
      go_ret
      exact ⟨by rw [HF.out]; rfl, rfl⟩

set_option maxRecDepth 100000 in
set_option maxHeartbeats 800000 in
theorem maySnap_any (f z c : Int) (w : World) :
    Calls Tryz.prog 122 #[.int .i64 f, .int .i64 z, .int .u32 c] w fun e w' => e = .returned (.bool (decide (SnapOk f z c))) ∧ w = w' := by
  by_cases h0 : f = 0
  · subst h0
    have HV := Lib.hid (show decide (SnapOk 0 z c) = (decide (z = 0) && decide (c = 0)) by unfold SnapOk; simp)
    by_cases h1 : z = 0
    · subst h1
      have HW := Lib.hid (show (decide (c = 0)) = (c == 0) from by cases h : decide (c = 0) <;> simp_all)
      go_enter Tryz.func122, Tryz.ntmps122
      go_wp2_with fail
      go_ret
      refine ⟨?_, rfl⟩
      rw [HV.out, HW.out]
      rfl
    · have q1 : (z == 0) = false := by simpa using h1
      have HW := Lib.hid (show decide (SnapOk 0 z c) = false by rw [HV.out]; simp [h1])
      clear h1
      go_enter Tryz.func122, Tryz.ntmps122
      go_wp2_with fail
      go_ret
      exact ⟨by rw [HW.out]; rfl, rfl⟩
  · have q0 : (f == 0) = false := by simpa using h0
    have HV := Lib.hid (show decide (SnapOk f z c) = (decide (1 ≤ z) && decide (z ≤ 65536)) by unfold SnapOk; simp [h0])
    clear h0
    by_cases h1 : 1 ≤ z
    · have HW := Lib.hid (show decide (SnapOk f z c) = decide (z ≤ 65536) by rw [HV.out]; simp [h1])
      go_enter Tryz.func122, Tryz.ntmps122
      go_wp2_with fail
      go_ret
      exact ⟨by rw [HW.out]; rfl, rfl⟩
    · have q1 : decide (1 ≤ z) = false := by simpa using h1
      have HW := Lib.hid (show decide (SnapOk f z c) = false by rw [HV.out]; simp [h1])
      clear h1
      go_enter Tryz.func122, Tryz.ntmps122
      go_wp2_with fail
      go_ret
      exact ⟨by rw [HW.out]; rfl, rfl⟩

theorem ok_parts (m : Mn) : Ok m ↔ 1 ≤ m.v ∧ m.v ≤ 1099511627776 ∧ HaveOk m.l ∧ SnapOk (m.l.getD 0 0) m.z m.c ∧ 0 ≤ m.c ∧ m.c < 4294967296 :=
  ⟨fun h => ⟨h.v0, h.v1, ⟨h.n0, h.n1, h.at_⟩, h.z, h.c⟩, fun ⟨a, b, ⟨c, d, e⟩, f, g⟩ => ⟨a, b, c, d, e, f, g⟩⟩

set_option maxRecDepth 100000 in
set_option maxHeartbeats 1600000 in
theorem right10_any (fa : Option Addr) (fn fc : Nat) (m : Mn) (b : Bool) (w : World) (hv : IsL IL w (.slice fa fn fc) m.l) (hB : MnB m) (hb : b = true ↔ Ok m) :
    Calls Tryz.prog 81 #[mnVal fa fn fc m] w fun e w' => e = .returned (.bool b) ∧ Below w.heap.size w w' := by
  obtain ⟨_, _, c0, c1⟩ := hB
  have HFL := Lib.hid hv.len.1
  have HN := Lib.hid (show ¬ Ok m → b = false from fun h => by rw [← Bool.not_eq_true, hb]; exact h)
  have HY := Lib.hid (show Ok m → b = true from hb.2)
  clear hb
  have HA := Lib.hid ((Below.refl w.heap.size w).alloc (Nat.le_refl _) (.cells #[.int .i64 m.v, .slice fa fn fc, .int .i64 m.z, .int .u32 m.c] 43))
  obtain ⟨x0, x1, x2, x3⟩ := cells4 (heap_alloc_new w (.cells #[.int .i64 m.v, .slice fa fn fc, .int .i64 m.z, .int .u32 m.c] 43))
  have HVA := Lib.hid (hv.keep HA.out)
  have HOP := Lib.hid (ok_parts m)
  obtain ⟨mv, ml, mz, mc⟩ := m
  unfold mnVal
  dsimp only at *
  by_cases g1 : 1 ≤ mv
  case neg =>
    have HF := Lib.hid (HN.out fun h => g1 h.v0)
    have e1 : decide (1 ≤ mv) = false := by simpa using g1
    clear hv g1
    go_enter Tryz.func81, Tryz.ntmps81
    go_wp2_with fail
    go_quiet (fail)
    go_wp2_with fail
    go_ret
    exact ⟨by rw [HF.out]; rfl, HA.out.trans ((bel_drewN _).mono HA.out.size)⟩
  by_cases g2 : mv ≤ 1099511627776
  case neg =>
    have HF := Lib.hid (HN.out fun h => g2 h.v1)
    have e2 : decide (mv ≤ 1099511627776) = false := by simpa using g2
    clear hv g2
    go_enter Tryz.func81, Tryz.ntmps81
    go_wp2_with fail
    go_quiet (fail)
    go_wp2_with fail
    go_ret
    exact ⟨by rw [HF.out]; rfl, HA.out.trans ((bel_drewN _).mono HA.out.size)⟩
  by_cases g3 : HaveOk ml
  case neg =>
    have HF := Lib.hid (HN.out fun h => g3 (HOP.out.1 h).2.2.1)
    have C := Lib.hid fun (W : World) (hW : IsL IL W (.slice fa fn fc) ml) => mayHave_any fa fn fc ml false W hW ⟨(fun h => by cases h), fun h => absurd h g3⟩
    clear hv g3
    go_enter Tryz.func81, Tryz.ntmps81
    go_wp2_with fail
    go_quiet ((go_at_call 121; exact Calls.quiet_of_same ((C.out _ (HVA.out.keep (bel_drewN _))).mono fun _ _ ⟨he, hw⟩ => ⟨he, hw.symm⟩)))
    go_wp2_with fail
    go_ret
    exact ⟨by rw [HF.out]; rfl, HA.out.trans ((bel_drewN _).mono HA.out.size)⟩
  have C := Lib.hid fun (W : World) (hW : IsL IL W (.slice fa fn fc) ml) => mayHave_any fa fn fc ml true W hW ⟨fun _ => g3, fun _ => rfl⟩
  obtain ⟨g, off, rfl, y0⟩ := il_at HVA.out (show 0 < fn by rw [HFL.out]; exact g3.1)
  rw [Nat.add_zero] at y0
  have D := Lib.hid fun W : World => maySnap_any (ml.getD 0 0) mz mc W
  have HD := Lib.hid (show decide (SnapOk (ml.getD 0 0) mz mc) = b by
    by_cases h : SnapOk (ml.getD 0 0) mz mc
    · rw [HY.out (HOP.out.2 ⟨g1, g2, g3, h, c0, c1⟩)]; simpa using h
    · rw [HN.out fun hk => h (HOP.out.1 hk).2.2.2.1]; simpa using h)
  rw [HD.out] at D
  have hfn : 0 < fn := by rw [HFL.out]; exact g3.1
  generalize ml.getD 0 0 = f at *
  clear hv g3 HD
  go_enter Tryz.func81, Tryz.ntmps81
  go_wp2_with fail
  go_quiet (first | (go_at_call 121; exact Calls.quiet_of_same ((C.out _ (HVA.out.keep (bel_drewN _))).mono fun _ _ ⟨he, hw⟩ => ⟨he, hw.symm⟩)) | (go_at_call 122; exact Calls.quiet_of_same ((D.out _).mono fun _ _ ⟨he, hw⟩ => ⟨he, hw.symm⟩)))
  go_wp2_with fail
  go_ret
  exact ⟨rfl, HA.out.trans ((bel_drewN _).mono HA.out.size)⟩

end Go.Proofs.YthhhocgpoenigaaGreat.Mfs

namespace Go.Proofs.YthhhocgpoenigaaGreat.Mfs
open Go.RowKit Go.Proofs.YthhhocgpoenigaaGreat.Qm

set_option maxRecDepth 100000 in
set_option maxHeartbeats 1600000 in
theorem put10_no (fa : Option Addr) (fn fc : Nat) (m : Mn) (w : World) (hv : IsL IL w (.slice fa fn fc) m.l) (hB : MnB m) (h : ¬ Ok m) :
    Calls Tryz.prog 44 #[mnVal fa fn fc m] w fun e w' => e = .returned (putVal10 m) ∧ Below w.heap.size w w' := by
  unfold putVal10
  rw [putM_no h]
  dsimp only
  have HA := Lib.hid ((Below.refl w.heap.size w).alloc (Nat.le_refl _) (.cells #[.int .i64 m.v, .slice fa fn fc, .int .i64 m.z, .int .u32 m.c] 43))
  have RR := right10_any fa fn fc m false _ (hv.keep HA.out) hB ⟨(fun h => by cases h), fun hk => absurd hk h⟩
  unfold mnVal at *
  replace RR := Lib.hid RR
  obtain ⟨mv, ml, mz, mc⟩ := m
  dsimp only at *
  clear hv h
  go_enter Tryz.func44, Tryz.ntmps44
  go_wp2_with fail
  refine RR.out.mono ?_
  rintro e w1 ⟨rfl, b1⟩
  have B1 := Lib.hid (HA.out.trans (b1.mono HA.out.size))
  clear b1
  go_wp2_with fail
  go_ret2
  exact ⟨rfl, B1.out⟩

set_option maxRecDepth 100000 in
set_option maxHeartbeats 3200000 in
theorem put10_yes (fa : Option Addr) (fn fc : Nat) (m : Mn) (w : World) (hv : IsL IL w (.slice fa fn fc) m.l) (h : Ok m) :
    Calls Tryz.prog 44 #[mnVal fa fn fc m] w fun e w' => e = .returned (putVal10 m) ∧ Below w.heap.size w w' := by
  unfold putVal10
  rw [putM_yes h]
  dsimp only
  have hnn := nums_nonneg h
  have hB : MnB m := ⟨⟨by have := h.v0; omega, by have := h.v1; omega⟩, by rcases h.z with ⟨_, h1, _⟩ | ⟨_, h1, h2⟩ <;> omega, h.c⟩
  have HA := Lib.hid ((Below.refl w.heap.size w).alloc (Nat.le_refl _) (.cells #[.int .i64 m.v, .slice fa fn fc, .int .i64 m.z, .int .u32 m.c] 43))
  have G0 := Lib.hid (heap_alloc_new w (.cells #[.int .i64 m.v, .slice fa fn fc, .int .i64 m.z, .int .u32 m.c] 43))
  have RR := right10_any fa fn fc m true _ (hv.keep HA.out) hB ⟨fun _ => h, fun _ => rfl⟩
  unfold mnVal at *
  replace RR := Lib.hid RR
  have HV := Lib.hid hv
  have hfl := hv.len.1
  obtain ⟨C, hC⟩ : ∃ C : Nat, m.c = (C : Int) := ⟨m.c.toNat, by have := h.c; omega⟩
  have hC2 : C < 4294967296 := by have := h.c; omega
  have hv0 := h.v0
  have hv1 := h.v1
  have hn0 : fn ≤ 64 := by rw [hfl]; exact h.n1
  have hz0 : 0 ≤ m.z ∧ m.z ≤ 65536 := by rcases h.z with ⟨_, h1, _⟩ | ⟨_, h1, h2⟩ <;> omega
  have HL := Lib.hid fun i (hi : i < fn) => hnn (m.l.getD i 0) (by
    unfold nums
    rw [hfl] at hi
    have e : m.l.getD i 0 = m.l[i] := by simp [List.getD_eq_getElem?_getD, hi]
    rw [e]
    simp)
  have HTK := Lib.hid fun i (hi : i < fn) => (show m.l.take (i + 1) = m.l.take i ++ [m.l.getD i 0] from take_snocD (by rw [← hfl]; exact hi))
  have HFR := Lib.hid fun (B : ByteArray) (hb : B.data.toList = body m) (W : World) => (show Calls Tryz.prog 83 #[.string B] W fun e w' => e = .returned (.tuple #[.string ⟨(Fr.fr (body m)).toArray⟩, .int .i64 0]) ∧ Below W.heap.size W w' from by
    have hs : B.size = (body m).length := by rw [← hb]; rfl
    have := fput_yes B W (by rw [hs]; exact body_may h)
    rw [hb] at this
    exact this)
  have HBD := Lib.hid (show ∀ R, R = puts (m.v :: (fn : Int) :: m.l.take fn) → (⟨R.toArray⟩ ++ ⟨(putI m.z).toArray⟩ ++ ⟨(fourB C).toArray⟩ : ByteArray).data.toList = body m from fun R hR => by
    subst hR
    have e1 : m.l.take fn = m.l := List.take_of_length_le (by rw [hfl]; exact Nat.le_refl _)
    rw [e1, putI_nn hz0.1]
    show puts (m.v :: (fn : Int) :: m.l) ++ Vp.put m.z.toNat ++ fourB C = _
    unfold body nums
    rw [hC, show ((C : Int)).toNat = C from by omega, show (m.v :: (m.l.length : Int) :: (m.l ++ [m.z])) = (m.v :: (m.l.length : Int) :: m.l) ++ [m.z] from rfl, puts_append, puts_one, hfl]
    rfl)
  obtain ⟨mv, ml, mz, mc⟩ := m
  dsimp only at *
  subst hC
  clear hv h hnn hfl
  have hpl : (putI mz).length ≤ 9 := putI_len_le _
  have hp1 : (putI mv).length ≤ 9 := putI_len_le _
  have hp2 : (putI (fn : Int)).length ≤ 9 := putI_len_le _
  have s1 : ¬ 9223372036854775807 < (putI mv).length + (putI (fn : Int)).length := by omega
  have HP0 := Lib.hid (show (⟨(putI mv).toArray⟩ ++ ⟨(putI (fn : Int)).toArray⟩ : ByteArray) = ⟨(puts (mv :: (fn : Int) :: ml.take 0)).toArray⟩ by
    rw [ByteArray.mk_append_mk, putI_nn (by omega), putI_nn (by omega), List.take_zero, puts_cons, puts_cons, puts_nil, List.append_nil])
  go_enter Tryz.func44, Tryz.ntmps44
  go_wp2_with fail
  refine RR.out.mono ?_
  rintro e w1 ⟨rfl, b1⟩
  have G1 := Lib.hid ((b1.block w.heap.size (Array.getElem?_eq_some_iff.1 G0.out).1).trans G0.out)
  have B1 := HA.out.trans (b1.mono HA.out.size)
  obtain ⟨x0, x1, x2, x3⟩ := cells4 G1.out
  have ST : w1.cell? ⟨w.heap.size, 0, none⟩ = some (.int .i64 mv) ∧ w1.cell? ⟨w.heap.size, 1, none⟩ = some (.slice fa fn fc) ∧ w1.cell? ⟨w.heap.size, 2, none⟩ = some (.int .i64 mz) ∧ w1.cell? ⟨w.heap.size, 3, none⟩ = some (.int .u32 (C : Int)) ∧ Below w.heap.size w w1 := ⟨x0, x1, x2, x3, B1⟩
  clear b1 x0 x1 x2 x3 B1 G0 HA RR
  go_wp2_with fail
  go_region_held3 (fun W => W.cell? ⟨w.heap.size, 0, none⟩ = some (.int .i64 mv) ∧ W.cell? ⟨w.heap.size, 1, none⟩ = some (.slice fa fn fc) ∧ W.cell? ⟨w.heap.size, 2, none⟩ = some (.int .i64 mz) ∧ W.cell? ⟨w.heap.size, 3, none⟩ = some (.int .u32 (C : Int)) ∧ Below w.heap.size w W) (first | assumption | exact keep4 (by assumption) (Below.refl _ _).drew | exact keep4 (by assumption) (by assumption)) (first | (go_at_call 82; refine (put_any _ _ (by omega) (by omega)).mono ?_; rintro e w4 ⟨rfl, b4⟩))
  rename_i qq
  have HS4 := Lib.hid qq
  obtain ⟨x0, x1, x2, x3, hbx⟩ := qq
  clear ST hbx
  go_wp2_with fail
  clear x0 x1 x2 x3
  go_loopw [4, 21] (fun s i wr => ∃ (k : Nat) (R : List UInt8), k ≤ fn ∧ i = .int .i64 k ∧ s = .string ⟨R.toArray⟩ ∧ R = puts (mv :: (fn : Int) :: ml.take k) ∧ R.length ≤ 9 * (k + 2) ∧ Hid (wr.cell? ⟨w.heap.size, 0, none⟩ = some (.int .i64 mv) ∧ wr.cell? ⟨w.heap.size, 1, none⟩ = some (.slice fa fn fc) ∧ wr.cell? ⟨w.heap.size, 2, none⟩ = some (.int .i64 mz) ∧ wr.cell? ⟨w.heap.size, 3, none⟩ = some (.int .u32 (C : Int)) ∧ Below w.heap.size w wr))
    (fun _ i _ => fn - (intOf i).toNat)
  case atStart => exact ⟨0, puts (mv :: (fn : Int) :: ml.take 0), Nat.zero_le _, rfl, by rw [HP0.out], rfl, by have := puts_le (mv :: (fn : Int) :: ml.take 0); simp at this ⊢; omega, HS4⟩
  case round =>
    obtain ⟨k, R, hk, rfl, rfl, hR, hRl, HS⟩ := hrel
    have HR := Lib.hid hR
    obtain ⟨x0, x1, x2, x3, hbw⟩ := HS.out
    clear hR
    by_cases hlt : k < fn
    · obtain ⟨g, off, rfl, c0⟩ := il_at (HV.out.keep hbw) hlt
      obtain ⟨hf0, hf1⟩ := HL.out k hlt
      have HRS := Lib.hid (show puts (mv :: (fn : Int) :: ml.take (k + 1)) = puts (mv :: (fn : Int) :: ml.take k) ++ Vp.put (ml.getD k 0).toNat by
        rw [HTK.out k hlt, show (mv :: (fn : Int) :: (ml.take k ++ [ml.getD k 0])) = (mv :: (fn : Int) :: ml.take k) ++ [ml.getD k 0] from rfl, puts_append, puts_one])
      generalize ml.getD k 0 = f at *
      have P := fun W : World => put_any f W (by omega) (by omega)
      rw [putI_nn hf0] at P
      replace P := Lib.hid P
      have hp9 := put_le9 f.toNat
      generalize Vp.put f.toNat = pf at *
      have s2 : ¬ 9223372036854775807 < R.length + pf.length := by omega
      clear hbw
      go_wp2_with fail
      refine (P.out _).mono ?_
      rintro e w5 ⟨rfl, b5⟩
      have HS5 := Lib.hid (keep4 HS.out b5)
      clear b5 x0 x1 x2 x3
      go_wp2_with fail
      go_roundw
      case rel => exact ⟨k + 1, R ++ pf, by omega, by go_num, congrArg Value.string (ByteArray.mk_append_mk R pf), by rw [HRS.out, ← HR.out], by rw [List.length_append]; omega, HS5⟩
      case measure => simp [intOf]; omega
    · obtain rfl : k = fn := by omega
      have F := HFR.out _ (HBD.out R HR.out)
      have s2 : ¬ 9223372036854775807 < R.length + (putI mz).length := by omega
      have s3 : ¬ 9223372036854775807 < R.length + (putI mz).length + (fourB C).length := by have : (fourB C).length = 4 := rfl; omega
      replace F := Lib.hid F
      have ST2 : wr.cell? ⟨w.heap.size, 0, none⟩ = some (.int .i64 mv) ∧ wr.cell? ⟨w.heap.size, 1, none⟩ = some (.slice fa k fc) ∧ wr.cell? ⟨w.heap.size, 2, none⟩ = some (.int .i64 mz) ∧ wr.cell? ⟨w.heap.size, 3, none⟩ = some (.int .u32 (C : Int)) ∧ Below w.heap.size w wr := HS.out
      clear hbw
      go_wp2_with fail
      clear x0 x1 x2 x3
      go_region_held3 (fun W => W.cell? ⟨w.heap.size, 0, none⟩ = some (.int .i64 mv) ∧ W.cell? ⟨w.heap.size, 1, none⟩ = some (.slice fa k fc) ∧ W.cell? ⟨w.heap.size, 2, none⟩ = some (.int .i64 mz) ∧ W.cell? ⟨w.heap.size, 3, none⟩ = some (.int .u32 (C : Int)) ∧ Below w.heap.size w W) (first | assumption | exact keep4 (by assumption) (Below.refl _ _).drew | exact keep4 (by assumption) (by assumption)) (first | (go_at_call 82; refine (put_any mz _ (by omega) (by omega)).mono ?_; rintro e w6 ⟨rfl, b6⟩) | (go_at_call 84; refine (four_any C _ hC2).mono ?_; rintro e w7 ⟨rfl, b7⟩) | (go_at_call 83; refine (F.out _).mono ?_; rintro e w8 ⟨rfl, b8⟩))
      go_wp2_with fail
      go_ret2
      rename_i qq
      exact ⟨rfl, keep4r qq⟩

theorem put10_any (fa : Option Addr) (fn fc : Nat) (m : Mn) (w : World) (hv : IsL IL w (.slice fa fn fc) m.l) (hB : MnB m) :
    Calls Tryz.prog 44 #[mnVal fa fn fc m] w fun e w' => e = .returned (putVal10 m) ∧ Below w.heap.size w w' := by
  by_cases h : Ok m
  · exact put10_yes fa fn fc m w hv h
  · exact put10_no fa fn fc m w hv hB h

end Go.Proofs.YthhhocgpoenigaaGreat.Mfs
