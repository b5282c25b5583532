/-
  What disk's calls answer.
-/
import Derived.Test.YtbkiecjbjehaoaaDiskRen
namespace Go.Proofs.Ytbkiecjbjehaoaa.Dsk
open Go.RowKit Go.Proofs.Ytbkiecjbjehaoaa.Dp

/-- Disks of no great bulk that may be. -/
structure Sm (D : Dk) : Prop where
  b : DkB D
  r : Right D
  n : D.f.length ≤ 1000000
  u : used D.f ≤ 1000000000
theorem used_mem {l : List Fl} {f : Fl} (h : f ∈ l) : f.d.size ≤ used l := by
  induction l with
  | nil => cases h
  | cons g l ih =>
    rw [used_cons]
    rcases List.mem_cons.1 h with rfl | h
    · omega
    · have := ih h; omega
theorem flb_of {f : Fl} (h : FOk f) (hd : f.d.size ≤ 9223372036854775807) : FlB f := ⟨by have := h.1.2; omega, hd, by have := h.2.1; omega, by have := h.2.2; omega⟩
theorem Sm.flb {D : Dk} (h : Sm D) : ∀ f ∈ D.f, FlB f := fun f hf => flb_of (h.r.1 f hf) (by have := used_mem hf; have := h.u; omega)
theorem Sm.l0 {D : Dk} (h : Sm D) : 0 ≤ D.l := h.r.2.2.2
theorem length_withF (l : List Fl) (f : Fl) : (withF l f).length ≤ l.length + 1 := by
  unfold withF
  rw [List.length_append, List.length_append]
  have h : (l.filter fun g => decide (Lt g.n f.n)).length + (l.filter fun g => decide (Lt f.n g.n)).length ≤ l.length := by
    induction l with
    | nil => exact Nat.le_refl _
    | cons g l ih =>
      by_cases h1 : Lt g.n f.n
      · rw [List.filter_cons_of_pos (by simpa using h1), List.filter_cons_of_neg (by simpa using h1.asymm), List.length_cons, List.length_cons]; omega
      · by_cases h2 : Lt f.n g.n
        · rw [List.filter_cons_of_neg (by simpa using h1), List.filter_cons_of_pos (by simpa using h2), List.length_cons, List.length_cons]; omega
        · rw [List.filter_cons_of_neg (by simpa using h1), List.filter_cons_of_neg (by simpa using h2), List.length_cons]; omega
  simp only [List.length_singleton]
  omega
/-- Where an error stands, the files don't count. -/
theorem change_own (D : Dk) (l l' : List Fl) {own : Int} (h : own ≠ 0) : change D l own = change D l' own := by
  unfold change
  split
  · rfl
  · first | rfl | rw [if_pos h, if_pos h]

/-- Where a function has a Go body, a call of it enters it. -/
theorem enters {N : Nat} {fn : Func} {c : Code} (hf : Try.prog.funcs[N]? = some fn) (hname : (fn.name == "runtime.NumGoroutine") = false) (hb : fn.body = some c) (args : Array Value) (w : World) : (callFunc N args).run Try.prog w = .ok (.enter N args) w := by
  have h1 : fn.name ≠ "runtime.NumGoroutine" := by simpa using hname
  simp [callFunc, hf, h1, hb]

set_option maxRecDepth 100000 in
set_option maxHeartbeats 1600000 in
theorem create_any (fv : Value) (D : Dk) (n : ByteArray) (w : World) (hv : IsL FL w fv D.f) (hS : Sm D) (hn : n.size ≤ 9223372036854775807) :
    Calls Try.prog 23 #[dkVal fv D, .string n] w (DkOut w fv D.f (create D n)) := by
  obtain ⟨own, hown, hR⟩ : ∃ own : Int, ((own = 1 ∧ ¬ Named n) ∨ (own = 8 ∧ Named n ∧ get D.f n ≠ none) ∨ (own = 0 ∧ Named n ∧ get D.f n = none)) ∧ create D n = change D (withF D.f ⟨n, ⟨#[]⟩, 0⟩) own := by
    unfold create
    by_cases h1 : Named n
    · rw [if_neg (fun h => h h1)]
      cases hg : get D.f n with
      | none => exact ⟨0, .inr (.inr ⟨rfl, h1, rfl⟩), rfl⟩
      | some f => exact ⟨8, .inr (.inl ⟨rfl, h1, by simp⟩), by rw [if_pos (by rfl)]; exact change_own D _ _ (by decide)⟩
    · exact ⟨1, .inl ⟨rfl, h1⟩, by rw [if_pos h1]; exact change_own D _ _ (by decide)⟩
  rw [hR]
  have HC := Lib.hid fun (fv : Value) (b : Nat) (W : World) (h : IsL FL W fv D.f) (hx : W.cell? ⟨b, 0, none⟩ = some (.string n)) =>
    change_any 45 #[.pointer (some ⟨b, 0, none⟩)] fv D (withF D.f ⟨n, ⟨#[]⟩, 0⟩) own W h hS.b hS.l0 (by have := hS.n; omega)
      (fun ho => ⟨by have := length_withF D.f ⟨n, ⟨#[]⟩, 0⟩; have := hS.n; omega, fun f hf => by
        rcases mem_withF.1 hf with h1 | rfl
        · exact hS.flb f h1.1
        · exact ⟨hn, Nat.zero_le _, by show (-9223372036854775808 : Int) ≤ 0; omega, by show (0 : Int) ≤ _; omega⟩⟩)
      (enters Try.func45 (by kernel_rfl) (by rfl))
      (fun base v W' ho h1 h2 h3 => create1_any n D.f base v b W' hn (by rw [h3.cell (p := ⟨b, 0, none⟩) (block_lt_of_cell hx)]; exact hx) ho h2 hS.r.2.1 (by have := hS.n; omega) hS.flb own hown)
  have HV := Lib.hid hv
  obtain ⟨fa, fn, fc, rfl⟩ : ∃ a n c, fv = .slice a n c := by obtain ⟨a, c, h, _⟩ := hv; exact ⟨a, _, c, h⟩
  have hmf := made_func
  obtain ⟨g0, g1, g2, gb, gs⟩ := boxes3 w #[.slice fa fn fc, .int .i64 D.c, .bool D.a, .int .i64 D.l, .bool D.x] #[.string n] #[.slice none 0 0, .int .i64 0, .bool false, .int .i64 0, .bool false] 24 9 24
  have G1 := Lib.hid g1
  have G2 := Lib.hid g2
  have GB := Lib.hid gb
  have GS := Lib.hid gs
  generalize change D _ own = R at *
  clear hv hS hn hown hR g0 g1 g2 gb gs
  unfold dkVal
  go_enter Try.func23, Try.ntmps23
  go_wp2_with fail
  generalize World.alloc (World.alloc (World.alloc w _) _) _ = w0 at G1 G2 GB GS ⊢
  have HL := Lib.hid (show w.heap.size + 1 + 1 < w0.heap.size by have := GS.out; omega)
  refine (HC.out _ _ w0 (HV.out.keep GB.out) (cells1 G1.out).1).mono ?_
  rintro e w1 ⟨v1, rfl, hres⟩
  obtain ⟨ga, gn, gc, rfl⟩ : ∃ a n c, v1 = .slice a n c := by
    rcases hres.k with ⟨k, _⟩ | k
    · exact ⟨_, _, _, k⟩
    · exact own_slice k
  have HRS := Lib.hid (res_set5 hres GB.out (k := w.heap.size + 1 + 1) (by omega) HL.out)
  obtain ⟨q0, q1, q2, q3, q4⟩ := cells5 (hkeep G2.out hres.w)
  obtain ⟨qf0, qf1, qf2, qf3, qf4⟩ := frozen5 (hkeep G2.out hres.w)
  clear hres
  unfold dkVal
  go_wp2_with fail
  refine bodyPost_ret (v := .tuple #[.agg #[.slice ga gn gc, .int .i64 R.1.c, .bool R.1.a, .int .i64 R.1.l, .bool R.1.x], .int .i64 R.2]) (by simp [results, Try.results23, go_sem, q0, q1, q2, q3, q4]) rfl ?_
  exact ⟨_, rfl, HRS.out _ _ _ _ _⟩

set_option maxRecDepth 100000 in
set_option maxHeartbeats 1600000 in
theorem delete_any (fv : Value) (D : Dk) (n : ByteArray) (w : World) (hv : IsL FL w fv D.f) (hS : Sm D) :
    Calls Try.prog 28 #[dkVal fv D, .string n] w (DkOut w fv D.f (delete D n)) := by
  obtain ⟨own, hown, hR⟩ : ∃ own : Int, ((own = 7 ∧ get D.f n = none) ∨ (own = 0 ∧ get D.f n ≠ none)) ∧ delete D n = change D (without D.f n) own := by
    unfold delete
    cases hg : get D.f n with
    | none => exact ⟨7, .inl ⟨rfl, rfl⟩, change_own D _ _ (by decide)⟩
    | some f => exact ⟨0, .inr ⟨rfl, by simp⟩, rfl⟩
  rw [hR]
  have HC := Lib.hid fun (fv : Value) (b : Nat) (W : World) (h : IsL FL W fv D.f) (hx : W.cell? ⟨b, 0, none⟩ = some (.string n)) =>
    change_any 54 #[.pointer (some ⟨b, 0, none⟩)] fv D (without D.f n) own W h hS.b hS.l0 (by have := hS.n; omega)
      (fun ho => ⟨by have : (without D.f n).length ≤ D.f.length := List.length_filter_le _ _; have := hS.n; omega, fun f hf => hS.flb f (mem_without.1 hf).1⟩)
      (enters Try.func54 (by kernel_rfl) (by rfl))
      (fun base v W' ho h1 h2 h3 => delete1_any n D.f base v b W' (by rw [h3.cell (p := ⟨b, 0, none⟩) (block_lt_of_cell hx)]; exact hx) ho h2 hS.r.2.1 (by have := hS.n; omega) hS.flb own hown)
  have HV := Lib.hid hv
  obtain ⟨fa, fn, fc, rfl⟩ : ∃ a n c, fv = .slice a n c := by obtain ⟨a, c, h, _⟩ := hv; exact ⟨a, _, c, h⟩
  have hmf := made_func
  obtain ⟨g0, g1, g2, gb, gs⟩ := boxes3 w #[.slice fa fn fc, .int .i64 D.c, .bool D.a, .int .i64 D.l, .bool D.x] #[.string n] #[.slice none 0 0, .int .i64 0, .bool false, .int .i64 0, .bool false] 24 9 24
  have G1 := Lib.hid g1
  have G2 := Lib.hid g2
  have GB := Lib.hid gb
  have GS := Lib.hid gs
  generalize change D _ own = R at *
  clear hv hS hown hR g0 g1 g2 gb gs
  unfold dkVal
  go_enter Try.func28, Try.ntmps28
  go_wp2_with fail
  generalize World.alloc (World.alloc (World.alloc w _) _) _ = w0 at G1 G2 GB GS ⊢
  have HL := Lib.hid (show w.heap.size + 1 + 1 < w0.heap.size by have := GS.out; omega)
  refine (HC.out _ _ w0 (HV.out.keep GB.out) (cells1 G1.out).1).mono ?_
  rintro e w1 ⟨v1, rfl, hres⟩
  obtain ⟨ga, gn, gc, rfl⟩ : ∃ a n c, v1 = .slice a n c := by
    rcases hres.k with ⟨k, _⟩ | k
    · exact ⟨_, _, _, k⟩
    · exact own_slice k
  have HRS := Lib.hid (res_set5 hres GB.out (k := w.heap.size + 1 + 1) (by omega) HL.out)
  obtain ⟨q0, q1, q2, q3, q4⟩ := cells5 (hkeep G2.out hres.w)
  obtain ⟨qf0, qf1, qf2, qf3, qf4⟩ := frozen5 (hkeep G2.out hres.w)
  clear hres
  unfold dkVal
  go_wp2_with fail
  refine bodyPost_ret (v := .tuple #[.agg #[.slice ga gn gc, .int .i64 R.1.c, .bool R.1.a, .int .i64 R.1.l, .bool R.1.x], .int .i64 R.2]) (by simp [results, Try.results28, go_sem, q0, q1, q2, q3, q4]) rfl ?_
  exact ⟨_, rfl, HRS.out _ _ _ _ _⟩

set_option maxRecDepth 100000 in
set_option maxHeartbeats 1600000 in
theorem rename_any (fv : Value) (D : Dk) (n m : ByteArray) (w : World) (hv : IsL FL w fv D.f) (hS : Sm D) (hm : m.size ≤ 9223372036854775807) :
    Calls Try.prog 27 #[dkVal fv D, .string n, .string m] w (DkOut w fv D.f (rename D n m)) := by
  obtain ⟨own, l, hown, hR⟩ : ∃ (own : Int) (l : List Fl), ((own = 7 ∧ get D.f n = none ∧ l = []) ∨ (own = 1 ∧ get D.f n ≠ none ∧ ¬ Named m ∧ l = []) ∨ (own = 0 ∧ ∃ f, get D.f n = some f ∧ Named m ∧ l = withF (without D.f n) ⟨m, f.d, f.s⟩)) ∧ rename D n m = change D l own := by
    unfold rename
    cases hg : get D.f n with
    | none => exact ⟨7, [], .inl ⟨rfl, rfl, rfl⟩, rfl⟩
    | some f =>
      by_cases h1 : Named m
      · exact ⟨0, _, .inr (.inr ⟨rfl, f, rfl, h1, rfl⟩), by simp only; rw [if_neg (fun h => h h1)]⟩
      · exact ⟨1, [], .inr (.inl ⟨rfl, by simp, h1, rfl⟩), by simp only; rw [if_pos h1]⟩
  rw [hR]
  have HC := Lib.hid fun (fv : Value) (b b' : Nat) (W : World) (h : IsL FL W fv D.f) (hx : W.cell? ⟨b, 0, none⟩ = some (.string n)) (hx' : W.cell? ⟨b', 0, none⟩ = some (.string m)) =>
    change_any 51 #[.pointer (some ⟨b, 0, none⟩), .pointer (some ⟨b', 0, none⟩)] fv D l own W h hS.b hS.l0 (by have := hS.n; omega)
      (fun ho => by
        rcases hown with ⟨h1, _⟩ | ⟨h1, _⟩ | ⟨_, f, hg, hN, rfl⟩
        · omega
        · omega
        · refine ⟨?_, fun x hx => ?_⟩
          · have h1 : (without D.f n).length ≤ D.f.length := List.length_filter_le _ _
            have h2 := length_withF (without D.f n) ⟨m, f.d, f.s⟩
            have := hS.n; omega
          · rcases mem_withF.1 hx with h1 | rfl
            · exact hS.flb x (mem_without.1 h1.1).1
            · have := hS.flb f (get_mem hg).1
              exact ⟨hm, this.2.1, this.2.2⟩)
      (enters Try.func51 (by kernel_rfl) (by rfl))
      (fun base v W' ho h1 h2 h3 => by
        have y : W'.cell? ⟨b, 0, none⟩ = some (.string n) := by rw [h3.cell (p := ⟨b, 0, none⟩) (block_lt_of_cell hx)]; exact hx
        have y' : W'.cell? ⟨b', 0, none⟩ = some (.string m) := by rw [h3.cell (p := ⟨b', 0, none⟩) (block_lt_of_cell hx')]; exact hx'
        rcases hown with ⟨rfl, hg, rfl⟩ | ⟨rfl, hg, hN, rfl⟩ | ⟨rfl, f, hg, hN, rfl⟩
        · exact rename1_no n m D.f base v b b' W' hm y y' ho h2 hS.r.2.1 (by have := hS.n; omega) hS.flb 7 (.inl ⟨rfl, hg⟩)
        · exact rename1_no n m D.f base v b b' W' hm y y' ho h2 hS.r.2.1 (by have := hS.n; omega) hS.flb 1 (.inr ⟨rfl, hg, hN⟩)
        · exact rename1_yes n m D.f base v b b' W' hm y y' ho h2 hS.r.2.1 (by have := hS.n; omega) hS.flb f hg hN)
  have HV := Lib.hid hv
  obtain ⟨fa, fn, fc, rfl⟩ : ∃ a n c, fv = .slice a n c := by obtain ⟨a, c, h, _⟩ := hv; exact ⟨a, _, c, h⟩
  have hmf := made_func
  obtain ⟨g0, g1, g2, g3, gb, gs⟩ := boxes4 w #[.slice fa fn fc, .int .i64 D.c, .bool D.a, .int .i64 D.l, .bool D.x] #[.string n] #[.string m] #[.slice none 0 0, .int .i64 0, .bool false, .int .i64 0, .bool false] 24 9 9 24
  have G1 := Lib.hid g1
  have G2 := Lib.hid g2
  have G3 := Lib.hid g3
  have GB := Lib.hid gb
  have GS := Lib.hid gs
  generalize change D _ own = R at *
  clear hv hS hown hR g0 g1 g2 g3 gb gs hm
  unfold dkVal
  go_enter Try.func27, Try.ntmps27
  go_wp2_with fail
  generalize World.alloc (World.alloc (World.alloc (World.alloc w _) _) _) _ = w0 at G1 G2 G3 GB GS ⊢
  have HL := Lib.hid (show w.heap.size + 1 + 1 + 1 < w0.heap.size by have := GS.out; omega)
  refine (HC.out _ _ _ w0 (HV.out.keep GB.out) (cells1 G1.out).1 (cells1 G2.out).1).mono ?_
  rintro e w1 ⟨v1, rfl, hres⟩
  obtain ⟨ga, gn, gc, rfl⟩ : ∃ a n c, v1 = .slice a n c := by
    rcases hres.k with ⟨k, _⟩ | k
    · exact ⟨_, _, _, k⟩
    · exact own_slice k
  have HRS := Lib.hid (res_set5 hres GB.out (k := w.heap.size + 1 + 1 + 1) (by omega) HL.out)
  obtain ⟨q0, q1, q2, q3, q4⟩ := cells5 (hkeep G3.out hres.w)
  obtain ⟨qf0, qf1, qf2, qf3, qf4⟩ := frozen5 (hkeep G3.out hres.w)
  clear hres
  unfold dkVal
  go_wp2_with fail
  refine bodyPost_ret (v := .tuple #[.agg #[.slice ga gn gc, .int .i64 R.1.c, .bool R.1.a, .int .i64 R.1.l, .bool R.1.x], .int .i64 R.2]) (by simp [results, Try.results27, go_sem, q0, q1, q2, q3, q4]) rfl ?_
  exact ⟨_, rfl, HRS.out _ _ _ _ _⟩

set_option maxRecDepth 100000 in
/-- disk's within: the name and the step of a file lie in two new blocks. -/
theorem within_any (n : ByteArray) (M : Fn) (caps : Array Value) (w : World) : Calls Try.prog 47 #[.string n, .func M #[] caps] w fun e w' => ∃ p q : Nat, e = .returned (.func (.func 62) #[] #[.pointer (some ⟨p, 0, none⟩), .pointer (some ⟨q, 0, none⟩)]) ∧
    w'.cell? ⟨p, 0, none⟩ = some (.string n) ∧ w'.cell? ⟨q, 0, none⟩ = some (.func M #[] caps) ∧ Below w.heap.size w w' := by
  have hmf := made_func
  obtain ⟨g0, g1, gb, gs⟩ := boxes2 w #[.string n] #[.func M #[] caps] 9 61
  go_enter Try.func47, Try.ntmps47
  go_wp2_with fail
  go_ret
  exact ⟨_, _, rfl, (cells1 g0).1, (cells1 g1).1, gb⟩

/-- A change of one file. -/
def one (D : Dk) (n : ByteArray) (g : Fl → Fl) (er : Fl → Int) : Dk × Int := match get D.f n with | none => change D [] 7 | some f => change D (withF D.f (g f)) (er f)
theorem wchange_any (fv : Value) (D : Dk) (n : ByteArray) (g : Fl → Fl) (er : Fl → Int) (M : Nat) (caps : Array Value) (b1 b2 : Nat) (w : World) (hv : IsL FL w fv D.f) (hS : Sm D)
    (hg : ∀ f, get D.f n = some f → (g f).n = n ∧ (er f = 0 → FlB (g f))) (EN : ∀ args w, (callFunc M args).run Try.prog w = .ok (.enter M args) w)
    (IN : ∀ f W, get D.f n = some f → Below w.heap.size w W → Calls Try.prog M (#[.agg #[.string f.n, .string f.d, .int .i64 f.s]] ++ caps) W (FileOut W (g f) (er f)))
    (h1 : w.cell? ⟨b1, 0, none⟩ = some (.string n)) (h2 : w.cell? ⟨b2, 0, none⟩ = some (.func (.func M) #[] caps)) :
    Calls Try.prog 44 #[.agg #[fv, .int .i64 D.c, .bool D.a, .int .i64 D.l, .bool D.x], .func (.func 62) #[] #[.pointer (some ⟨b1, 0, none⟩), .pointer (some ⟨b2, 0, none⟩)]] w (DkOut w fv D.f (one D n g er)) := by
  unfold one
  have key : ∀ W, Below w.heap.size w W → W.cell? ⟨b1, 0, none⟩ = some (.string n) ∧ W.cell? ⟨b2, 0, none⟩ = some (.func (.func M) #[] caps) := fun W b =>
    ⟨by rw [b.cell (p := ⟨b1, 0, none⟩) (block_lt_of_cell h1)]; exact h1, by rw [b.cell (p := ⟨b2, 0, none⟩) (block_lt_of_cell h2)]; exact h2⟩
  cases hget : get D.f n with
  | none =>
    refine change_any _ _ fv D [] 7 w hv hS.b hS.l0 (by have := hS.n; omega) (fun h => by omega) (enters Try.func62 (by kernel_rfl) (by rfl)) (fun base v W ho k1 k2 k3 => ?_)
    exact within1_no n D.f base v b1 b2 W (key W k3).1 ho k2 hS.r.2.1 (by have := hS.n; omega) hS.flb hget
  | some f =>
    refine change_any _ _ fv D (withF D.f (g f)) (er f) w hv hS.b hS.l0 (by have := hS.n; omega) (fun h => ⟨by have := length_withF D.f (g f); have := hS.n; omega, fun x hx => ?_⟩) (enters Try.func62 (by kernel_rfl) (by rfl)) (fun base v W ho k1 k2 k3 => ?_)
    · rcases mem_withF.1 hx with k | rfl
      · exact hS.flb x k.1
      · exact (hg f hget).2 h
    · exact within1_yes n D.f base v b1 b2 W (key W k3).1 ho k2 hS.r.2.1 (by have := hS.n; omega) hS.flb f (g f) (er f) M caps hget (hg f hget).1 EN (key W k3).2 (fun W' hb => IN f W' hget (k3.trans (hb.mono k3.size)))

end Go.Proofs.Ytbkiecjbjehaoaa.Dsk
