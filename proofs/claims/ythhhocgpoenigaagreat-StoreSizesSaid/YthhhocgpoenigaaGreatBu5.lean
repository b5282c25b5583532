/-
  Parts of what the laws of this seat stand on: DiskAll, DiskFew, DiskRef, DiskRef2.
-/
import Derived.Deep.RegionWith
import Derived.Test.YthhhocgpoenigaaGreatBu4
namespace Go.Proofs.YthhhocgpoenigaaGreat.Dsk
open Go.RowKit Go.Proofs.YthhhocgpoenigaaGreat.Dp

/-- Disks of no great bulk that may be. -/
structure Sm (D : Dk) : Prop where
  b : DkB D
  r : Right D
  n : D.f.length ≤ 1000000
  u : used D.f ≤ 1000000000
theorem used_mem {l : List Fl} {f : Fl} (h : f ∈ l) : f.d.size ≤ used l := by
  induction l with
  | nil => cases h
  | cons g l ih =>
    rw [used_cons]
    rcases List.mem_cons.1 h with rfl | h
    · omega
    · have := ih h; omega
theorem flb_of {f : Fl} (h : FOk f) (hd : f.d.size ≤ 9223372036854775807) : FlB f := ⟨by have := h.1.2; omega, hd, by have := h.2.1; omega, by have := h.2.2; omega⟩
theorem Sm.flb {D : Dk} (h : Sm D) : ∀ f ∈ D.f, FlB f := fun f hf => flb_of (h.r.1 f hf) (by have := used_mem hf; have := h.u; omega)
theorem Sm.l0 {D : Dk} (h : Sm D) : 0 ≤ D.l := h.r.2.2.2
theorem length_withF (l : List Fl) (f : Fl) : (withF l f).length ≤ l.length + 1 := by
  unfold withF
  rw [List.length_append, List.length_append]
  have h : (l.filter fun g => decide (Lt g.n f.n)).length + (l.filter fun g => decide (Lt f.n g.n)).length ≤ l.length := by
    induction l with
    | nil => exact Nat.le_refl _
    | cons g l ih =>
      by_cases h1 : Lt g.n f.n
      · rw [List.filter_cons_of_pos (by simpa using h1), List.filter_cons_of_neg (by simpa using h1.asymm), List.length_cons, List.length_cons]; omega
      · by_cases h2 : Lt f.n g.n
        · rw [List.filter_cons_of_neg (by simpa using h1), List.filter_cons_of_pos (by simpa using h2), List.length_cons, List.length_cons]; omega
        · rw [List.filter_cons_of_neg (by simpa using h1), List.filter_cons_of_neg (by simpa using h2), List.length_cons]; omega
  simp only [List.length_singleton]
  omega
/-- Where an error stands, the files don't count. -/
theorem change_own (D : Dk) (l l' : List Fl) {own : Int} (h : own ≠ 0) : change D l own = change D l' own := by
  unfold change
  split
  · rfl
  · first | rfl | rw [if_pos h, if_pos h]

/-- Where a function has a Go body, a call of it enters it. -/
theorem enters {N : Nat} {fn : Func} {c : Code} (hf : Tryz.prog.funcs[N]? = some fn) (hname : (fn.name == "runtime.NumGoroutine") = false) (hb : fn.body = some c) (args : Array Value) (w : World) : (callFunc N args).run Tryz.prog w = .ok (.enter N args) w := by
  have h1 : fn.name ≠ "runtime.NumGoroutine" := by simpa using hname
  simp [callFunc, hf, h1, hb]

set_option maxRecDepth 100000 in
set_option maxHeartbeats 1600000 in
theorem create_any (fv : Value) (D : Dk) (n : ByteArray) (w : World) (hv : IsL FL w fv D.f) (hS : Sm D) (hn : n.size ≤ 9223372036854775807) :
    Calls Tryz.prog 72 #[dkVal fv D, .string n] w (DkOut w fv D.f (create D n)) := by
  obtain ⟨own, hown, hR⟩ : ∃ own : Int, ((own = 1 ∧ ¬ Named n) ∨ (own = 8 ∧ Named n ∧ get D.f n ≠ none) ∨ (own = 0 ∧ Named n ∧ get D.f n = none)) ∧ create D n = change D (withF D.f ⟨n, ⟨#[]⟩, 0⟩) own := by
    unfold create
    by_cases h1 : Named n
    · rw [if_neg (fun h => h h1)]
      cases hg : get D.f n with
      | none => exact ⟨0, .inr (.inr ⟨rfl, h1, rfl⟩), rfl⟩
      | some f => exact ⟨8, .inr (.inl ⟨rfl, h1, by simp⟩), by rw [if_pos (by rfl)]; exact change_own D _ _ (by decide)⟩
    · exact ⟨1, .inl ⟨rfl, h1⟩, by rw [if_pos h1]; exact change_own D _ _ (by decide)⟩
  rw [hR]
  have HC := Lib.hid fun (fv : Value) (b : Nat) (W : World) (h : IsL FL W fv D.f) (hx : W.cell? ⟨b, 0, none⟩ = some (.string n)) =>
    change_any 115 #[.pointer (some ⟨b, 0, none⟩)] fv D (withF D.f ⟨n, ⟨#[]⟩, 0⟩) own W h hS.b hS.l0 (by have := hS.n; omega)
      (fun ho => ⟨by have := length_withF D.f ⟨n, ⟨#[]⟩, 0⟩; have := hS.n; omega, fun f hf => by
        rcases mem_withF.1 hf with h1 | rfl
        · exact hS.flb f h1.1
        · exact ⟨hn, Nat.zero_le _, by show (-9223372036854775808 : Int) ≤ 0; omega, by show (0 : Int) ≤ _; omega⟩⟩)
      (enters Tryz.func115 (by kernel_rfl) (by rfl))
      (fun base v W' ho h1 h2 h3 => create1_any n D.f base v b W' hn (by rw [h3.cell (p := ⟨b, 0, none⟩) (block_lt_of_cell hx)]; exact hx) ho h2 hS.r.2.1 (by have := hS.n; omega) hS.flb own hown)
  have HV := Lib.hid hv
  obtain ⟨fa, fn, fc, rfl⟩ : ∃ a n c, fv = .slice a n c := by obtain ⟨a, c, h, _⟩ := hv; exact ⟨a, _, c, h⟩
  have hmf := made_func
  obtain ⟨g0, g1, g2, gb, gs⟩ := boxes3 w #[.slice fa fn fc, .int .i64 D.c, .bool D.a, .int .i64 D.l, .bool D.x] #[.string n] #[.slice none 0 0, .int .i64 0, .bool false, .int .i64 0, .bool false] 27 9 27
  have G1 := Lib.hid g1
  have G2 := Lib.hid g2
  have GB := Lib.hid gb
  have GS := Lib.hid gs
  generalize change D _ own = R at *
  clear hv hS hn hown hR g0 g1 g2 gb gs
  unfold dkVal
  go_enter Tryz.func72, Tryz.ntmps72
  go_wp2_with fail
  generalize World.alloc (World.alloc (World.alloc w _) _) _ = w0 at G1 G2 GB GS ⊢
  have HL := Lib.hid (show w.heap.size + 1 + 1 < w0.heap.size by have := GS.out; omega)
  refine (HC.out _ _ w0 (HV.out.keep GB.out) (cells1 G1.out).1).mono ?_
  rintro e w1 ⟨v1, rfl, hres⟩
  obtain ⟨ga, gn, gc, rfl⟩ : ∃ a n c, v1 = .slice a n c := by
    rcases hres.k with ⟨k, _⟩ | k
    · exact ⟨_, _, _, k⟩
    · exact own_slice k
  have HRS := Lib.hid (res_set5 hres GB.out (k := w.heap.size + 1 + 1) (by omega) HL.out)
  obtain ⟨q0, q1, q2, q3, q4⟩ := cells5 (hkeep G2.out hres.w)
  obtain ⟨qf0, qf1, qf2, qf3, qf4⟩ := frozen5 (hkeep G2.out hres.w)
  clear hres
  unfold dkVal
  go_wp2_with fail
  refine bodyPost_ret (v := .tuple #[.agg #[.slice ga gn gc, .int .i64 R.1.c, .bool R.1.a, .int .i64 R.1.l, .bool R.1.x], .int .i64 R.2]) (by simp [results, Tryz.results72, go_sem, q0, q1, q2, q3, q4]) rfl ?_
  exact ⟨_, rfl, HRS.out _ _ _ _ _⟩

set_option maxRecDepth 100000 in
set_option maxHeartbeats 1600000 in
theorem delete_any (fv : Value) (D : Dk) (n : ByteArray) (w : World) (hv : IsL FL w fv D.f) (hS : Sm D) :
    Calls Tryz.prog 87 #[dkVal fv D, .string n] w (DkOut w fv D.f (delete D n)) := by
  obtain ⟨own, hown, hR⟩ : ∃ own : Int, ((own = 7 ∧ get D.f n = none) ∨ (own = 0 ∧ get D.f n ≠ none)) ∧ delete D n = change D (without D.f n) own := by
    unfold delete
    cases hg : get D.f n with
    | none => exact ⟨7, .inl ⟨rfl, rfl⟩, change_own D _ _ (by decide)⟩
    | some f => exact ⟨0, .inr ⟨rfl, by simp⟩, rfl⟩
  rw [hR]
  have HC := Lib.hid fun (fv : Value) (b : Nat) (W : World) (h : IsL FL W fv D.f) (hx : W.cell? ⟨b, 0, none⟩ = some (.string n)) =>
    change_any 123 #[.pointer (some ⟨b, 0, none⟩)] fv D (without D.f n) own W h hS.b hS.l0 (by have := hS.n; omega)
      (fun ho => ⟨by have : (without D.f n).length ≤ D.f.length := List.length_filter_le _ _; have := hS.n; omega, fun f hf => hS.flb f (mem_without.1 hf).1⟩)
      (enters Tryz.func123 (by kernel_rfl) (by rfl))
      (fun base v W' ho h1 h2 h3 => delete1_any n D.f base v b W' (by rw [h3.cell (p := ⟨b, 0, none⟩) (block_lt_of_cell hx)]; exact hx) ho h2 hS.r.2.1 (by have := hS.n; omega) hS.flb own hown)
  have HV := Lib.hid hv
  obtain ⟨fa, fn, fc, rfl⟩ : ∃ a n c, fv = .slice a n c := by obtain ⟨a, c, h, _⟩ := hv; exact ⟨a, _, c, h⟩
  have hmf := made_func
  obtain ⟨g0, g1, g2, gb, gs⟩ := boxes3 w #[.slice fa fn fc, .int .i64 D.c, .bool D.a, .int .i64 D.l, .bool D.x] #[.string n] #[.slice none 0 0, .int .i64 0, .bool false, .int .i64 0, .bool false] 27 9 27
  have G1 := Lib.hid g1
  have G2 := Lib.hid g2
  have GB := Lib.hid gb
  have GS := Lib.hid gs
  generalize change D _ own = R at *
  clear hv hS hown hR g0 g1 g2 gb gs
  unfold dkVal
  go_enter Tryz.func87, Tryz.ntmps87
  go_wp2_with fail
  generalize World.alloc (World.alloc (World.alloc w _) _) _ = w0 at G1 G2 GB GS ⊢
  have HL := Lib.hid (show w.heap.size + 1 + 1 < w0.heap.size by have := GS.out; omega)
  refine (HC.out _ _ w0 (HV.out.keep GB.out) (cells1 G1.out).1).mono ?_
  rintro e w1 ⟨v1, rfl, hres⟩
  obtain ⟨ga, gn, gc, rfl⟩ : ∃ a n c, v1 = .slice a n c := by
    rcases hres.k with ⟨k, _⟩ | k
    · exact ⟨_, _, _, k⟩
    · exact own_slice k
  have HRS := Lib.hid (res_set5 hres GB.out (k := w.heap.size + 1 + 1) (by omega) HL.out)
  obtain ⟨q0, q1, q2, q3, q4⟩ := cells5 (hkeep G2.out hres.w)
  obtain ⟨qf0, qf1, qf2, qf3, qf4⟩ := frozen5 (hkeep G2.out hres.w)
  clear hres
  unfold dkVal
  go_wp2_with fail
  refine bodyPost_ret (v := .tuple #[.agg #[.slice ga gn gc, .int .i64 R.1.c, .bool R.1.a, .int .i64 R.1.l, .bool R.1.x], .int .i64 R.2]) (by simp [results, Tryz.results87, go_sem, q0, q1, q2, q3, q4]) rfl ?_
  exact ⟨_, rfl, HRS.out _ _ _ _ _⟩

set_option maxRecDepth 100000 in
set_option maxHeartbeats 1600000 in
theorem rename_any (fv : Value) (D : Dk) (n m : ByteArray) (w : World) (hv : IsL FL w fv D.f) (hS : Sm D) (hm : m.size ≤ 9223372036854775807) :
    Calls Tryz.prog 92 #[dkVal fv D, .string n, .string m] w (DkOut w fv D.f (rename D n m)) := by
  obtain ⟨own, l, hown, hR⟩ : ∃ (own : Int) (l : List Fl), ((own = 7 ∧ get D.f n = none ∧ l = []) ∨ (own = 1 ∧ get D.f n ≠ none ∧ ¬ Named m ∧ l = []) ∨ (own = 0 ∧ ∃ f, get D.f n = some f ∧ Named m ∧ l = withF (without D.f n) ⟨m, f.d, f.s⟩)) ∧ rename D n m = change D l own := by
    unfold rename
    cases hg : get D.f n with
    | none => exact ⟨7, [], .inl ⟨rfl, rfl, rfl⟩, rfl⟩
    | some f =>
      by_cases h1 : Named m
      · exact ⟨0, _, .inr (.inr ⟨rfl, f, rfl, h1, rfl⟩), by simp only; rw [if_neg (fun h => h h1)]⟩
      · exact ⟨1, [], .inr (.inl ⟨rfl, by simp, h1, rfl⟩), by simp only; rw [if_pos h1]⟩
  rw [hR]
  have HC := Lib.hid fun (fv : Value) (b b' : Nat) (W : World) (h : IsL FL W fv D.f) (hx : W.cell? ⟨b, 0, none⟩ = some (.string n)) (hx' : W.cell? ⟨b', 0, none⟩ = some (.string m)) =>
    change_any 127 #[.pointer (some ⟨b, 0, none⟩), .pointer (some ⟨b', 0, none⟩)] fv D l own W h hS.b hS.l0 (by have := hS.n; omega)
      (fun ho => by
        rcases hown with ⟨h1, _⟩ | ⟨h1, _⟩ | ⟨_, f, hg, hN, rfl⟩
        · omega
        · omega
        · refine ⟨?_, fun x hx => ?_⟩
          · have h1 : (without D.f n).length ≤ D.f.length := List.length_filter_le _ _
            have h2 := length_withF (without D.f n) ⟨m, f.d, f.s⟩
            have := hS.n; omega
          · rcases mem_withF.1 hx with h1 | rfl
            · exact hS.flb x (mem_without.1 h1.1).1
            · have := hS.flb f (get_mem hg).1
              exact ⟨hm, this.2.1, this.2.2⟩)
      (enters Tryz.func127 (by kernel_rfl) (by rfl))
      (fun base v W' ho h1 h2 h3 => by
        have y : W'.cell? ⟨b, 0, none⟩ = some (.string n) := by rw [h3.cell (p := ⟨b, 0, none⟩) (block_lt_of_cell hx)]; exact hx
        have y' : W'.cell? ⟨b', 0, none⟩ = some (.string m) := by rw [h3.cell (p := ⟨b', 0, none⟩) (block_lt_of_cell hx')]; exact hx'
        rcases hown with ⟨rfl, hg, rfl⟩ | ⟨rfl, hg, hN, rfl⟩ | ⟨rfl, f, hg, hN, rfl⟩
        · exact rename1_no n m D.f base v b b' W' hm y y' ho h2 hS.r.2.1 (by have := hS.n; omega) hS.flb 7 (.inl ⟨rfl, hg⟩)
        · exact rename1_no n m D.f base v b b' W' hm y y' ho h2 hS.r.2.1 (by have := hS.n; omega) hS.flb 1 (.inr ⟨rfl, hg, hN⟩)
        · exact rename1_yes n m D.f base v b b' W' hm y y' ho h2 hS.r.2.1 (by have := hS.n; omega) hS.flb f hg hN)
  have HV := Lib.hid hv
  obtain ⟨fa, fn, fc, rfl⟩ : ∃ a n c, fv = .slice a n c := by obtain ⟨a, c, h, _⟩ := hv; exact ⟨a, _, c, h⟩
  have hmf := made_func
  obtain ⟨g0, g1, g2, g3, gb, gs⟩ := boxes4 w #[.slice fa fn fc, .int .i64 D.c, .bool D.a, .int .i64 D.l, .bool D.x] #[.string n] #[.string m] #[.slice none 0 0, .int .i64 0, .bool false, .int .i64 0, .bool false] 27 9 9 27
  have G1 := Lib.hid g1
  have G2 := Lib.hid g2
  have G3 := Lib.hid g3
  have GB := Lib.hid gb
  have GS := Lib.hid gs
  generalize change D _ own = R at *
  clear hv hS hown hR g0 g1 g2 g3 gb gs hm
  unfold dkVal
  go_enter Tryz.func92, Tryz.ntmps92
  go_wp2_with fail
  generalize World.alloc (World.alloc (World.alloc (World.alloc w _) _) _) _ = w0 at G1 G2 G3 GB GS ⊢
  have HL := Lib.hid (show w.heap.size + 1 + 1 + 1 < w0.heap.size by have := GS.out; omega)
  refine (HC.out _ _ _ w0 (HV.out.keep GB.out) (cells1 G1.out).1 (cells1 G2.out).1).mono ?_
  rintro e w1 ⟨v1, rfl, hres⟩
  obtain ⟨ga, gn, gc, rfl⟩ : ∃ a n c, v1 = .slice a n c := by
    rcases hres.k with ⟨k, _⟩ | k
    · exact ⟨_, _, _, k⟩
    · exact own_slice k
  have HRS := Lib.hid (res_set5 hres GB.out (k := w.heap.size + 1 + 1 + 1) (by omega) HL.out)
  obtain ⟨q0, q1, q2, q3, q4⟩ := cells5 (hkeep G3.out hres.w)
  obtain ⟨qf0, qf1, qf2, qf3, qf4⟩ := frozen5 (hkeep G3.out hres.w)
  clear hres
  unfold dkVal
  go_wp2_with fail
  refine bodyPost_ret (v := .tuple #[.agg #[.slice ga gn gc, .int .i64 R.1.c, .bool R.1.a, .int .i64 R.1.l, .bool R.1.x], .int .i64 R.2]) (by simp [results, Tryz.results92, go_sem, q0, q1, q2, q3, q4]) rfl ?_
  exact ⟨_, rfl, HRS.out _ _ _ _ _⟩

set_option maxRecDepth 100000 in
/-- disk's within: the name and the step of a file lie in two new blocks. -/
theorem within_any (n : ByteArray) (M : Fn) (caps : Array Value) (w : World) : Calls Tryz.prog 113 #[.string n, .func M #[] caps] w fun e w' => ∃ p q : Nat, e = .returned (.func (.func 136) #[] #[.pointer (some ⟨p, 0, none⟩), .pointer (some ⟨q, 0, none⟩)]) ∧
    w'.cell? ⟨p, 0, none⟩ = some (.string n) ∧ w'.cell? ⟨q, 0, none⟩ = some (.func M #[] caps) ∧ Below w.heap.size w w' := by
  have hmf := made_func
  obtain ⟨g0, g1, gb, gs⟩ := boxes2 w #[.string n] #[.func M #[] caps] 9 129
  go_enter Tryz.func113, Tryz.ntmps113
  go_wp2_with fail
  go_ret
  exact ⟨_, _, rfl, (cells1 g0).1, (cells1 g1).1, gb⟩

/-- A change of one file. -/
def one (D : Dk) (n : ByteArray) (g : Fl → Fl) (er : Fl → Int) : Dk × Int := match get D.f n with | none => change D [] 7 | some f => change D (withF D.f (g f)) (er f)
theorem wchange_any (fv : Value) (D : Dk) (n : ByteArray) (g : Fl → Fl) (er : Fl → Int) (M : Nat) (caps : Array Value) (b1 b2 : Nat) (w : World) (hv : IsL FL w fv D.f) (hS : Sm D)
    (hg : ∀ f, get D.f n = some f → (g f).n = n ∧ (er f = 0 → FlB (g f))) (EN : ∀ args w, (callFunc M args).run Tryz.prog w = .ok (.enter M args) w)
    (IN : ∀ f W, get D.f n = some f → Below w.heap.size w W → Calls Tryz.prog M (#[.agg #[.string f.n, .string f.d, .int .i64 f.s]] ++ caps) W (FileOut W (g f) (er f)))
    (h1 : w.cell? ⟨b1, 0, none⟩ = some (.string n)) (h2 : w.cell? ⟨b2, 0, none⟩ = some (.func (.func M) #[] caps)) :
    Calls Tryz.prog 112 #[.agg #[fv, .int .i64 D.c, .bool D.a, .int .i64 D.l, .bool D.x], .func (.func 136) #[] #[.pointer (some ⟨b1, 0, none⟩), .pointer (some ⟨b2, 0, none⟩)]] w (DkOut w fv D.f (one D n g er)) := by
  unfold one
  have key : ∀ W, Below w.heap.size w W → W.cell? ⟨b1, 0, none⟩ = some (.string n) ∧ W.cell? ⟨b2, 0, none⟩ = some (.func (.func M) #[] caps) := fun W b =>
    ⟨by rw [b.cell (p := ⟨b1, 0, none⟩) (block_lt_of_cell h1)]; exact h1, by rw [b.cell (p := ⟨b2, 0, none⟩) (block_lt_of_cell h2)]; exact h2⟩
  cases hget : get D.f n with
  | none =>
    refine change_any _ _ fv D [] 7 w hv hS.b hS.l0 (by have := hS.n; omega) (fun h => by omega) (enters Tryz.func136 (by kernel_rfl) (by rfl)) (fun base v W ho k1 k2 k3 => ?_)
    exact within1_no n D.f base v b1 b2 W (key W k3).1 ho k2 hS.r.2.1 (by have := hS.n; omega) hS.flb hget
  | some f =>
    refine change_any _ _ fv D (withF D.f (g f)) (er f) w hv hS.b hS.l0 (by have := hS.n; omega) (fun h => ⟨by have := length_withF D.f (g f); have := hS.n; omega, fun x hx => ?_⟩) (enters Tryz.func136 (by kernel_rfl) (by rfl)) (fun base v W ho k1 k2 k3 => ?_)
    · rcases mem_withF.1 hx with k | rfl
      · exact hS.flb x k.1
      · exact (hg f hget).2 h
    · exact within1_yes n D.f base v b1 b2 W (key W k3).1 ho k2 hS.r.2.1 (by have := hS.n; omega) hS.flb f (g f) (er f) M caps hget (hg f hget).1 EN (key W k3).2 (fun W' hb => IN f W' hget (k3.trans (hb.mono k3.size)))

end Go.Proofs.YthhhocgpoenigaaGreat.Dsk

namespace Go.Proofs.YthhhocgpoenigaaGreat.Dsk
open Go.RowKit Go.Proofs.YthhhocgpoenigaaGreat.Dp

set_option maxRecDepth 100000 in
theorem rarm_val (fv : Value) (D : Dk) (k : Int) (w : World) (hv : IsL FL w fv D.f) :
    Calls Tryz.prog 39 #[dkVal fv D, .int .i64 k] w fun e w' => e = .returned (dkVal fv (arm D k)) ∧ Below w.heap.size w w' := by
  obtain ⟨fa, fn, fc, rfl⟩ : ∃ a n c, fv = .slice a n c := by obtain ⟨a, c, h, _⟩ := hv; exact ⟨a, _, c, h⟩
  clear hv
  unfold dkVal
  go_enter Tryz.func39, Tryz.ntmps39
  go_wp2_with fail
  refine bodyPost_ret (v := .agg #[.slice fa fn fc, .int .i64 D.c, .bool (decide (0 ≤ k)), .int .i64 (max k 0), .bool D.x]) (by simp [results, Tryz.results39, go_sem]) rfl ?_
  exact ⟨rfl, ((Below.refl _ _).alloc (Nat.le_refl _) _).alloc (by simp) _⟩
set_option maxRecDepth 100000 in
theorem rlimit_val (fv : Value) (D : Dk) (k : Int) (w : World) (hv : IsL FL w fv D.f) :
    Calls Tryz.prog 40 #[dkVal fv D, .int .i64 k] w fun e w' => e = .returned (dkVal fv (limit D k)) ∧ Below w.heap.size w w' := by
  obtain ⟨fa, fn, fc, rfl⟩ : ∃ a n c, fv = .slice a n c := by obtain ⟨a, c, h, _⟩ := hv; exact ⟨a, _, c, h⟩
  clear hv
  unfold dkVal
  go_enter Tryz.func40, Tryz.ntmps40
  go_wp2_with fail
  refine bodyPost_ret (v := .agg #[.slice fa fn fc, .int .i64 (max k 0), .bool D.a, .int .i64 D.l, .bool D.x]) (by simp [results, Tryz.results40, go_sem]) rfl ?_
  exact ⟨rfl, ((Below.refl _ _).alloc (Nat.le_refl _) _).alloc (by simp) _⟩

/-- What a reading of a file tells. -/
def readVal (l : List Fl) (n : ByteArray) : Value := match get l n with | none => .tuple #[.string ⟨#[]⟩, .int .i64 7] | some f => .tuple #[.string f.d, .int .i64 0]
theorem readVal_no {l : List Fl} {n : ByteArray} (h : get l n = none) : readVal l n = .tuple #[.string ⟨#[]⟩, .int .i64 7] := by unfold readVal; rw [h]
theorem readVal_yes {l : List Fl} {n : ByteArray} {f : Fl} (h : get l n = some f) : readVal l n = .tuple #[.string f.d, .int .i64 0] := by unfold readVal; rw [h]

set_option maxRecDepth 100000 in
set_option maxHeartbeats 1600000 in
theorem read_any (fv : Value) (D : Dk) (n : ByteArray) (w : World) (hv : IsL FL w fv D.f) (hu : Up D.f) (hl : D.f.length ≤ 1000000000) :
    Calls Tryz.prog 85 #[dkVal fv D, .string n] w fun e w' => e = .returned (readVal D.f n) ∧ Below w.heap.size w w' := by
  obtain ⟨fa, fn, fc, rfl⟩ : ∃ a n c, fv = .slice a n c := by obtain ⟨a, c, h, _⟩ := hv; exact ⟨a, _, c, h⟩
  have F := Lib.hid fun (W : World) (h : IsL FL W (.slice fa fn fc) D.f) => find_any _ D.f n W hu (by omega) h
  have HV := Lib.hid hv
  have G0 := Lib.hid (heap_alloc_new w (.cells #[.slice fa fn fc, .int .i64 D.c, .bool D.a, .int .i64 D.l, .bool D.x] 27))
  cases hg : get D.f n with
  | none =>
    rw [readVal_no hg]
    have HG := Lib.hid fun i b (h : FoundF D.f n i b) => found_no h hu hg
    clear hv hu hl hg
    unfold dkVal
    go_enter Tryz.func85, Tryz.ntmps85
    go_wp2_with fail
    refine (F.out _ (HV.out.keep ((Below.refl _ _).alloc (Nat.le_refl _) _))).mono ?_
    rintro e w1 ⟨i, b, rfl, hf, b1⟩
    obtain rfl := HG.out i b hf
    have HB := Lib.hid (bel_of_alloc b1)
    clear hf b1
    go_wp2_with fail
    go_ret2
    exact ⟨rfl, HB.out⟩
  | some f =>
    rw [readVal_yes hg]
    have HG := Lib.hid fun i b (h : FoundF D.f n i b) => found_yes h hu hg
    have HC := Lib.hid (show ∀ i, i < D.f.length → ∃ b off, fa = some ⟨b, off, none⟩ ∧ w.cell? ⟨b, off + i * 3 + 1, none⟩ = some (.string (D.f.getD i zero).d) from fun i hi => by
      have hv' := hv
      obtain ⟨a', cap', e, _, _, h3⟩ := hv
      injection e with e1 e2 e3
      rcases h3 with h3 | ⟨b, off, h4, _⟩
      · rw [h3] at hi; simp at hi
      · subst e1
        subst h4
        exact ⟨b, off, rfl, (at3 hv' (by omega)).2.1⟩)
    have HN := Lib.hid hv.len.1
    have hl' : (D.f.length : Int) ≤ 1000000000 := by omega
    clear hv hu hg
    unfold dkVal
    go_enter Tryz.func85, Tryz.ntmps85
    go_wp2_with fail
    refine (F.out _ (HV.out.keep ((Below.refl _ _).alloc (Nat.le_refl _) _))).mono ?_
    rintro e w1 ⟨i, b, rfl, hf, b1⟩
    obtain ⟨rfl, hi, hfe⟩ := HG.out i b hf
    have HB := bel_of_alloc b1
    obtain ⟨q0, q1, q2, q3, q4⟩ := cells5 (hkeep G0.out b1)
    obtain ⟨b', off, rfl, hc⟩ := HC.out i hi
    rw [hfe] at hc
    have x1 : w1.cell? ⟨b', off + i * 3 + 1, none⟩ = some (.string f.d) := by rw [HB.cell (p := ⟨b', off + i * 3 + 1, none⟩) (block_lt_of_cell hc)]; exact hc
    have hin : i < fn := by rw [HN.out]; exact hi
    have HB := Lib.hid HB
    clear hf b1 hc hfe
    go_wp2_with fail
    go_ret2
    exact ⟨rfl, HB.out⟩

end Go.Proofs.YthhhocgpoenigaaGreat.Dsk

namespace Go.Proofs.YthhhocgpoenigaaGreat.Dsk
open Go.RowKit Go.Proofs.YthhhocgpoenigaaGreat.Dp

theorem str_ne {a b : ByteArray} (h : a ≠ b) : (a.toList == b.toList) = false := by
  rw [Lib.toList_data, Lib.toList_data, beq_eq_false_iff_ne]
  exact fun e => h (ext_iff.2 e)
/-- The place of the first file of that name, -1 where there is none. -/
def findI (l : List Fl) (n : ByteArray) : Int := match l.findIdx? (fun f => decide (f.n = n)) with | none => -1 | some i => (i : Int)
theorem findI_none {l : List Fl} {n : ByteArray} (h : ∀ k, k < l.length → (l.getD k zero).n ≠ n) : findI l n = -1 := by
  unfold findI
  rw [List.findIdx?_eq_none_iff.2 (fun f hf => by
    obtain ⟨k, hk, rfl⟩ := List.getElem_of_mem hf
    have := h k hk
    rw [getD_fl hk] at this
    simpa using this)]
theorem findI_some {l : List Fl} {n : ByteArray} {i : Nat} (hi : i < l.length) (he : (l.getD i zero).n = n) (h : ∀ k, k < i → (l.getD k zero).n ≠ n) : findI l n = (i : Int) := by
  unfold findI
  rw [List.findIdx?_eq_some_iff_getElem.2 ⟨hi, by rw [getD_fl hi] at he; simpa using he, fun j hj => by
    have := h j hj
    rw [getD_fl (by omega)] at this
    simpa using this⟩]
theorem find_get {l : List Fl} {n : ByteArray} : (findI l n = -1 ∧ get l n = none) ∨ ∃ i : Nat, i < l.length ∧ findI l n = (i : Int) ∧ get l n = some (l.getD i zero) := by
  unfold findI Dp.get
  cases hf : l.findIdx? (fun f => decide (f.n = n)) with
  | none =>
    refine .inl ⟨rfl, ?_⟩
    rw [List.find?_eq_none]
    rw [List.findIdx?_eq_none_iff] at hf
    intro x hx
    rw [hf x hx]
    decide
  | some i =>
    obtain ⟨hi, h1, h2⟩ := List.findIdx?_eq_some_iff_getElem.1 hf
    refine .inr ⟨i, hi, rfl, ?_⟩
    rw [List.find?_eq_some_iff_getElem]
    exact ⟨by rw [getD_fl hi]; exact h1, i, hi, (getD_fl hi).symm, fun j hj => by have := h2 j hj; simpa using this⟩

set_option maxRecDepth 100000 in
set_option maxHeartbeats 1600000 in
theorem rfind_any (fv : Value) (D : Dk) (n : ByteArray) (w : World) (hv : IsL FL w fv D.f) :
    Calls Tryz.prog 52 #[dkVal fv D, .string n] w fun e w' => e = .returned (.int .i64 (findI D.f n)) ∧ Below w.heap.size w w' := by
  obtain ⟨fa, fn, fc, rfl⟩ : ∃ a n c, fv = .slice a n c := by obtain ⟨a, c, h, _⟩ := hv; exact ⟨a, _, c, h⟩
  have HV := Lib.hid hv
  have hl := hv.len.2
  obtain rfl : fn = D.f.length := hv.len.1
  unfold maxLen at hl
  obtain ⟨fl, dc, da, dl, dx⟩ := D
  dsimp only at *
  clear hv
  have HN := Lib.hid (@findI_none fl n)
  have HS := Lib.hid fun i => @findI_some fl n i
  obtain ⟨R, hR⟩ : ∃ R, findI fl n = R := ⟨_, rfl⟩
  rw [hR] at HN ⊢
  simp only [hR] at HS
  clear hR
  obtain ⟨len, hlen⟩ : ∃ len, fl.length = len := ⟨_, rfl⟩
  rw [hlen] at hl HN HS HV ⊢
  clear hlen
  unfold dkVal
  dsimp only
  have G0 := Lib.hid (heap_alloc_new w (.cells #[.slice fa len fc, .int .i64 dc, .bool da, .int .i64 dl, .bool dx] 27))
  obtain ⟨p0, p1, p2, p3, p4⟩ := cells5 G0.out
  have B0 := Lib.hid ((Below.refl _ w).alloc (Nat.le_refl _) (.cells #[.slice fa len fc, .int .i64 dc, .bool da, .int .i64 dl, .bool dx] 27))
  go_enter Tryz.func52, Tryz.ntmps52
  go_wp2_with fail
  generalize w.alloc _ = w0 at G0 B0 p0 p1 p2 p3 p4 ⊢
  go_loopw [5] (fun i wr => ∃ k : Nat, k ≤ len ∧ i = .int .i64 k ∧ wr = w0 ∧ ∀ j, j < k → (fl.getD j zero).n ≠ n) (fun i _ => len - (intOf i).toNat)
  case atStart => exact ⟨0, Nat.zero_le _, rfl, rfl, fun j hj => absurd hj (Nat.not_lt_zero _)⟩
  case round =>
    obtain ⟨k, hk, rfl, rfl, hno⟩ := hrel
    by_cases hlt : k < len
    · obtain ⟨b, off, rfl⟩ : ∃ b off, fa = some ⟨b, off, none⟩ := by
        obtain ⟨a', cap', e, _, _, h3⟩ := HV.out
        injection e with e1 e2 e3
        rcases h3 with h3 | ⟨b, off, h4, _⟩
        · rw [h3] at e2; simp at e2; omega
        · exact ⟨b, off, e1.trans h4⟩
      obtain ⟨c0, _, _⟩ := at3 (HV.out.keep B0.out) hlt
      by_cases he : (fl.getD k zero).n = n
      · have HE := Lib.hid (HS.out k hlt he hno)
        have heq : (fl.getD k zero).n = n := he
        generalize (fl.getD k zero).n = nm at *
        subst heq
        clear HS HN
        go_wp2_with fail
        go_ret
        refine ⟨?_, B0.out⟩
        rw [HE.out]
        rfl
      · have hbn := str_ne he
        have HNO := Lib.hid (show ∀ j, j < k + 1 → (fl.getD j zero).n ≠ n from fun j hj => by
          by_cases h : j = k
          · rw [h]; exact he
          · exact hno j (by omega))
        clear hno
        generalize (fl.getD k zero).n = nm at c0 hbn he
        go_wp2_with fail
        go_roundw
        case rel => exact ⟨k + 1, by omega, by go_num, by first | rfl | trivial, HNO.out⟩
        case measure => simp [intOf]; omega
    · have HE := Lib.hid (HN.out fun j hj => hno j (by omega))
      clear hno
      go_wp2_with fail
      go_ret
      refine ⟨?_, B0.out⟩
      rw [HE.out]
      rfl

set_option maxRecDepth 100000 in
set_option maxHeartbeats 1600000 in
theorem rread_any (fv : Value) (D : Dk) (n : ByteArray) (w : World) (hv : IsL FL w fv D.f) :
    Calls Tryz.prog 105 #[dkVal fv D, .string n] w fun e w' => e = .returned (readVal D.f n) ∧ Below w.heap.size w w' := by
  obtain ⟨fa, fn, fc, rfl⟩ : ∃ a n c, fv = .slice a n c := by obtain ⟨a, c, h, _⟩ := hv; exact ⟨a, _, c, h⟩
  have F := fun (W : World) (h : IsL FL W (.slice fa fn fc) D.f) => rfind_any (.slice fa fn fc) D n W h
  unfold dkVal at F
  have HV := Lib.hid hv
  have hl := hv.len.2
  unfold maxLen at hl
  have G0 := Lib.hid (heap_alloc_new w (.cells #[.slice fa fn fc, .int .i64 D.c, .bool D.a, .int .i64 D.l, .bool D.x] 27))
  rcases @find_get D.f n with ⟨hf, hg⟩ | ⟨i, hi, hf, hg⟩
  · rw [readVal_no hg]
    rw [hf] at F
    have F := Lib.hid F
    clear hv hl hg hf
    unfold dkVal
    go_enter Tryz.func105, Tryz.ntmps105
    go_wp2_with fail
    refine (F.out _ (HV.out.keep ((Below.refl _ _).alloc (Nat.le_refl _) _))).mono ?_
    rintro e w1 ⟨rfl, b1⟩
    have HB := Lib.hid (bel_of_alloc b1)
    clear b1
    go_wp2_with fail
    go_ret2
    exact ⟨rfl, HB.out⟩
  · obtain ⟨f, hfe⟩ : ∃ f, D.f.getD i zero = f := ⟨_, rfl⟩
    rw [hfe] at hg
    rw [readVal_yes hg]
    rw [hf] at F
    have F := Lib.hid F
    obtain ⟨b', off, rfl, hc⟩ : ∃ b off, fa = some ⟨b, off, none⟩ ∧ w.cell? ⟨b, off + i * 3 + 1, none⟩ = some (.string f.d) := by
      rw [← hfe]
      have hv' := hv
      obtain ⟨a', cap', e, _, _, h3⟩ := hv
      injection e with e1 e2 e3
      rcases h3 with h3 | ⟨b, off, h4, _⟩
      · rw [h3] at hi; simp at hi
      · subst e1
        subst h4
        exact ⟨b, off, rfl, (at3 hv' (by omega)).2.1⟩
    have hin : i < fn := by have := hv.len.1; omega
    have hfn : fn ≤ 9223372036854775807 := by have := hv.len.1; omega
    clear hv hg hf hl hfe
    unfold dkVal
    go_enter Tryz.func105, Tryz.ntmps105
    go_wp2_with fail
    refine (F.out _ (HV.out.keep ((Below.refl _ _).alloc (Nat.le_refl _) _))).mono ?_
    rintro e w1 ⟨rfl, b1⟩
    have HB := bel_of_alloc b1
    obtain ⟨q0, q1, q2, q3, q4⟩ := cells5 (hkeep G0.out b1)
    have x1 : w1.cell? ⟨b', off + i * 3 + 1, none⟩ = some (.string f.d) := by rw [HB.cell (p := ⟨b', off + i * 3 + 1, none⟩) (block_lt_of_cell hc)]; exact hc
    have HB := Lib.hid HB
    clear b1 hc
    go_wp2_with fail
    go_ret2
    exact ⟨rfl, HB.out⟩

end Go.Proofs.YthhhocgpoenigaaGreat.Dsk

namespace Go.Proofs.YthhhocgpoenigaaGreat.Dsk
open Go.RowKit Go.Proofs.YthhhocgpoenigaaGreat.Dp

/-- Where a slice's cells lie. -/
theorem isL_at {w : World} {fa : Option Addr} {fn fc : Nat} {l : List Fl} (h : IsL FL w (.slice fa fn fc) l) {i : Nat} (hi : i < fn) :
    ∃ b off, fa = some ⟨b, off, none⟩ ∧ w.cell? ⟨b, off + i * 3, none⟩ = some (.string (l.getD i zero).n) ∧ w.cell? ⟨b, off + i * 3 + 1, none⟩ = some (.string (l.getD i zero).d) ∧ w.cell? ⟨b, off + i * 3 + 2, none⟩ = some (.int .i64 (l.getD i zero).s) := by
  have h' := h
  obtain ⟨a', cap', e, _, _, h3⟩ := h
  injection e with e1 e2 e3
  rcases h3 with h3 | ⟨b, off, h4, _⟩
  · rw [h3] at e2; simp at e2; omega
  · subst e1
    subst h4
    exact ⟨b, off, rfl, at3 h' hi⟩

set_option maxRecDepth 100000 in
set_option maxHeartbeats 1600000 in
theorem rused_any (fv : Value) (D : Dk) (w : World) (hv : IsL FL w fv D.f) (hs : used D.f ≤ 4000000000000000000) :
    Calls Tryz.prog 97 #[dkVal fv D] w fun e w' => e = .returned (.int .i64 (used D.f : Int)) ∧ Below w.heap.size w w' := by
  obtain ⟨fa, fn, fc, rfl⟩ : ∃ a n c, fv = .slice a n c := by obtain ⟨a, c, h, _⟩ := hv; exact ⟨a, _, c, h⟩
  have hl := hv.len.2
  unfold maxLen at hl
  obtain ⟨fl, dc, da, dl, dx⟩ := D
  dsimp only at *
  have HV := Lib.hid hv
  have hfl := hv.len.1
  have HT := Lib.hid fun k (hk : k < fl.length) => used_take (z := zero) hk
  have HE := Lib.hid fun k => used_take_le fl k
  have HA := Lib.hid (show ∀ k, fl.length ≤ k → used (fl.take k) = used fl from fun k hk => by rw [List.take_of_length_le hk])
  obtain ⟨u, hu⟩ : ∃ u, used fl = u := ⟨_, rfl⟩
  rw [hu] at hs HE HA ⊢
  have H0 := Lib.hid (show used (fl.take 0) = 0 from rfl)
  rw [← hfl] at hl HT HA
  clear hu hfl hv
  unfold dkVal
  dsimp only
  have G0 := Lib.hid (heap_alloc_new w (.cells #[.slice fa fn fc, .int .i64 dc, .bool da, .int .i64 dl, .bool dx] 27))
  obtain ⟨p0, p1, p2, p3, p4⟩ := cells5 G0.out
  have B0 := Lib.hid ((Below.refl _ w).alloc (Nat.le_refl _) (.cells #[.slice fa fn fc, .int .i64 dc, .bool da, .int .i64 dl, .bool dx] 27))
  go_enter Tryz.func97, Tryz.ntmps97
  go_wp2_with fail
  generalize w.alloc _ = w0 at G0 B0 p0 p1 p2 p3 p4 ⊢
  go_loopw [3, 4] (fun s i wr => ∃ k : Nat, k ≤ fn ∧ i = .int .i64 k ∧ s = .int .i64 (used (fl.take k) : Int) ∧ wr = w0) (fun _ i _ => fn - (intOf i).toNat)
  case atStart => exact ⟨0, Nat.zero_le _, rfl, by rw [H0.out]; rfl, rfl⟩
  case round =>
    obtain ⟨k, hk, rfl, rfl, rfl⟩ := hrel
    by_cases hlt : k < fn
    · obtain ⟨b, off, rfl, _, c1, _⟩ := isL_at (HV.out.keep B0.out) hlt
      have ht := HT.out k hlt
      have hle := HE.out (k + 1)
      obtain ⟨m, hm⟩ : ∃ m, used (fl.take k) = m := ⟨_, rfl⟩
      rw [hm] at ht ⊢
      have HM := Lib.hid ht
      rw [ht] at hle
      clear ht hm
      generalize (fl.getD k zero).d = d at *
      go_wp2_with fail
      go_roundw
      case rel => exact ⟨k + 1, by omega, by go_num, by rw [HM.out]; go_num, by first | rfl | trivial⟩
      case measure => simp [intOf]; omega
    · have HF := Lib.hid (HA.out k (by omega))
      go_wp2_with fail
      go_ret
      refine ⟨?_, B0.out⟩
      rw [HF.out]
      rfl

theorem wo_take {l : List Fl} {n : ByteArray} {k : Nat} {z : Fl} (h : k < l.length) : without (l.take (k + 1)) n = without (l.take k) n ++ (if (l.getD k z).n = n then [] else [l.getD k z]) := by
  rw [take_snocD (z := z) h]
  unfold without
  rw [List.filter_append]
  congr 1
  by_cases he : (l.getD k z).n = n
  · rw [if_pos he, List.filter_cons_of_neg (by simpa using he)]; rfl
  · rw [if_neg he, List.filter_cons_of_pos (by simpa using he)]; rfl

set_option maxRecDepth 100000 in
set_option maxHeartbeats 3200000 in
theorem rwithout_any (fv : Value) (l : List Fl) (n : ByteArray) (w : World) (hv : IsL FL w fv l) (hl : l.length ≤ 1000000000) :
    Calls Tryz.prog 96 #[fv, .string n] w (OutL FL w w.heap.size (without l n)) := by
  obtain ⟨i0, hi0, hz0, hz1, hz2⟩ := info_parts info_fl
  obtain ⟨fa, fn, fc, rfl⟩ : ∃ a n c, fv = .slice a n c := by obtain ⟨a, c, h, _⟩ := hv; exact ⟨a, _, c, h⟩
  have HV := Lib.hid hv
  have hfl := hv.len.1
  have HT := Lib.hid fun k (hk : k < l.length) => wo_take (n := n) (z := zero) hk
  have HA := Lib.hid (show ∀ k, l.length ≤ k → without (l.take k) n = without l n from fun k hk => by rw [List.take_of_length_le hk])
  have HLEN := Lib.hid (show ∀ k, (without (l.take k) n).length ≤ k from fun k => Nat.le_trans (List.length_filter_le _ _) (by rw [List.length_take]; omega))
  rw [← hfl] at hl HT HA
  clear hfl hv
  go_enter Tryz.func96, Tryz.ntmps96
  go_wp2_with fail
  go_loopw [5, 6] (fun s i wr => ∃ k : Nat, k ≤ fn ∧ i = .int .i64 k ∧ OwnL FL wr w.heap.size s (without (l.take k) n) ∧ Below w.heap.size w wr) (fun _ i _ => fn - (intOf i).toNat)
  case atStart => exact ⟨0, Nat.zero_le _, rfl, OwnL.nil _ _, Below.refl _ _⟩
  case round =>
    obtain ⟨k, hk, rfl, hO, bel⟩ := hrel
    have HO := Lib.hid hO
    clear hO
    by_cases hlt : k < fn
    · obtain ⟨b, off, rfl, c0, c1, c2⟩ := isL_at (HV.out.keep bel) hlt
      have HTk := HT.out k hlt
      have hlk := HLEN.out k
      have hbel := bel.size
      generalize l.getD k zero = f at *
      generalize without (l.take k) n = L at *
      by_cases he : f.n = n
      · rw [if_pos he, List.append_nil] at HTk
        have HTk := Lib.hid HTk
        generalize hfn : f.n = fnm at c0
        rw [hfn] at he
        subst he
        clear hfn
        go_wp2_with fail
        go_roundw
        case rel => exact ⟨k + 1, by omega, by go_num, by rw [HTk.out]; exact HO.out, bel⟩
        case measure => simp [intOf]; omega
      · rw [if_neg he] at HTk
        have HTk := Lib.hid HTk
        have hbn := str_ne he
        have HF : Hid (∀ v' w3, w3.ownsRow w.heap.size 81 3 v' (L.length + 1) (FL.vals L ++ flCells f) → OwnL FL w3 w.heap.size v' (L ++ [f])) := fun v' w3 h => OwnL.snoc (n := L.length) h rfl rfl
        have HOX := Lib.hid (show (wr.alloc (.cells (flCells f).toArray 81)).ownsRow w.heap.size 81 3 _ L.length (FL.vals L) from HO.out.alloc _)
        have HLT := Lib.hid fun k' (h : _) => HO.out.lt k' h
        have HBW := Lib.hid (bel.alloc hbel (.cells (flCells f).toArray 81))
        have HNEW := Lib.hid (news_new wr wr.heap.size (flCells f) 81 rfl)
        have H1 := Lib.hid (show ∀ u ∈ flCells f, u.oneCell' = true from FL.one f)
        generalize hxs : FL.vals L = xs at *
        generalize hll : L.length = ll at *
        clear hxs hll
        go_wp2_with (at_builtin; refine wpList_append_own _ rfl _ _ 25 rfl w.heap.size 81 i0 (.agg #[.string ByteArray.empty, .string ByteArray.empty, .int .i64 0]) 3 40 Tryz.underlying25 hi0 hz0 hz1 hz2 rfl (by decide) _ _ _ rfl HOX.out ⟨wr.heap.size, 0, none⟩ 1 1 (flCells f) rfl rfl HNEW.out H1.out (by unfold maxLen; omega) (by omega) (by simp; omega) ?_; intro v' w3 hown' hgrow3 hnil3)
        go_roundw
        case rel =>
          exact ⟨k + 1, by omega, by go_num, by rw [HTk.out]; exact HF.out v' w3 hown', HBW.out.grown hgrow3 (by simp; omega) (fun q hq => (HLT.out q hq).1)⟩
        case measure => simp [intOf]; omega
    · have HF := HA.out k (by omega)
      have HOO := HO.out
      rw [HF] at HOO
      have HG := Lib.hid (fun v (h : OwnL FL wr w.heap.size v (without l n)) => OutL.mk h bel)
      have HOO := Lib.hid HOO
      clear HF
      go_wp2_with fail
      go_ret
      exact HG.out _ HOO.out

end Go.Proofs.YthhhocgpoenigaaGreat.Dsk
