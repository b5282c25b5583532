/-
  Parts of what the laws of this seat stand on: DiskAll, DiskFew, DiskRef4, RetPlain, RetVal, NamePlain, NameLaid.
-/
import Derived.BigQuiet
import Derived.Deep.DeepCutAuto
import Derived.Deep.RegionLaw
import Derived.Deep.RegionWith
import Derived.IntWalk
import Derived.Laws.IdiomStrings
import Derived.Lib.Strings
import Derived.Test.YthhhocgpoenigaaBu1
import Derived.Test.YthhhocgpoenigaaBu4
namespace Go.Proofs.Ythhhocgpoenigaa.Dsk
open Go.RowKit Go.Proofs.Ythhhocgpoenigaa.Dp

/-- Disks of no great bulk that may be. -/
structure Sm (D : Dk) : Prop where
  b : DkB D
  r : Right D
  n : D.f.length ≤ 1000000
  u : used D.f ≤ 1000000000
theorem used_mem {l : List Fl} {f : Fl} (h : f ∈ l) : f.d.size ≤ used l := by
  induction l with
  | nil => cases h
  | cons g l ih =>
    rw [used_cons]
    rcases List.mem_cons.1 h with rfl | h
    · omega
    · have := ih h; omega
theorem flb_of {f : Fl} (h : FOk f) (hd : f.d.size ≤ 9223372036854775807) : FlB f := ⟨by have := h.1.2; omega, hd, by have := h.2.1; omega, by have := h.2.2; omega⟩
theorem Sm.flb {D : Dk} (h : Sm D) : ∀ f ∈ D.f, FlB f := fun f hf => flb_of (h.r.1 f hf) (by have := used_mem hf; have := h.u; omega)
theorem Sm.l0 {D : Dk} (h : Sm D) : 0 ≤ D.l := h.r.2.2.2
theorem length_withF (l : List Fl) (f : Fl) : (withF l f).length ≤ l.length + 1 := by
  unfold withF
  rw [List.length_append, List.length_append]
  have h : (l.filter fun g => decide (Lt g.n f.n)).length + (l.filter fun g => decide (Lt f.n g.n)).length ≤ l.length := by
    induction l with
    | nil => exact Nat.le_refl _
    | cons g l ih =>
      by_cases h1 : Lt g.n f.n
      · rw [List.filter_cons_of_pos (by simpa using h1), List.filter_cons_of_neg (by simpa using h1.asymm), List.length_cons, List.length_cons]; omega
      · by_cases h2 : Lt f.n g.n
        · rw [List.filter_cons_of_neg (by simpa using h1), List.filter_cons_of_pos (by simpa using h2), List.length_cons, List.length_cons]; omega
        · rw [List.filter_cons_of_neg (by simpa using h1), List.filter_cons_of_neg (by simpa using h2), List.length_cons]; omega
  simp only [List.length_singleton]
  omega
/-- Where an error stands, the files don't count. -/
theorem change_own (D : Dk) (l l' : List Fl) {own : Int} (h : own ≠ 0) : change D l own = change D l' own := by
  unfold change
  split
  · rfl
  · first | rfl | rw [if_pos h, if_pos h]

/-- Where a function has a Go body, a call of it enters it. -/
theorem enters {N : Nat} {fn : Func} {c : Code} (hf : Try.prog.funcs[N]? = some fn) (hname : (fn.name == "runtime.NumGoroutine") = false) (hb : fn.body = some c) (args : Array Value) (w : World) : (callFunc N args).run Try.prog w = .ok (.enter N args) w := by
  have h1 : fn.name ≠ "runtime.NumGoroutine" := by simpa using hname
  simp [callFunc, hf, h1, hb]

set_option maxRecDepth 100000 in
set_option maxHeartbeats 1600000 in
theorem create_any (fv : Value) (D : Dk) (n : ByteArray) (w : World) (hv : IsL FL w fv D.f) (hS : Sm D) (hn : n.size ≤ 9223372036854775807) :
    Calls Try.prog 34 #[dkVal fv D, .string n] w (DkOut w fv D.f (create D n)) := by
  obtain ⟨own, hown, hR⟩ : ∃ own : Int, ((own = 1 ∧ ¬ Named n) ∨ (own = 8 ∧ Named n ∧ get D.f n ≠ none) ∨ (own = 0 ∧ Named n ∧ get D.f n = none)) ∧ create D n = change D (withF D.f ⟨n, ⟨#[]⟩, 0⟩) own := by
    unfold create
    by_cases h1 : Named n
    · rw [if_neg (fun h => h h1)]
      cases hg : get D.f n with
      | none => exact ⟨0, .inr (.inr ⟨rfl, h1, rfl⟩), rfl⟩
      | some f => exact ⟨8, .inr (.inl ⟨rfl, h1, by simp⟩), by rw [if_pos (by rfl)]; exact change_own D _ _ (by decide)⟩
    · exact ⟨1, .inl ⟨rfl, h1⟩, by rw [if_pos h1]; exact change_own D _ _ (by decide)⟩
  rw [hR]
  have HC := Lib.hid fun (fv : Value) (b : Nat) (W : World) (h : IsL FL W fv D.f) (hx : W.cell? ⟨b, 0, none⟩ = some (.string n)) =>
    change_any 58 #[.pointer (some ⟨b, 0, none⟩)] fv D (withF D.f ⟨n, ⟨#[]⟩, 0⟩) own W h hS.b hS.l0 (by have := hS.n; omega)
      (fun ho => ⟨by have := length_withF D.f ⟨n, ⟨#[]⟩, 0⟩; have := hS.n; omega, fun f hf => by
        rcases mem_withF.1 hf with h1 | rfl
        · exact hS.flb f h1.1
        · exact ⟨hn, Nat.zero_le _, by show (-9223372036854775808 : Int) ≤ 0; omega, by show (0 : Int) ≤ _; omega⟩⟩)
      (enters Try.func58 (by kernel_rfl) (by rfl))
      (fun base v W' ho h1 h2 h3 => create1_any n D.f base v b W' hn (by rw [h3.cell (p := ⟨b, 0, none⟩) (block_lt_of_cell hx)]; exact hx) ho h2 hS.r.2.1 (by have := hS.n; omega) hS.flb own hown)
  have HV := Lib.hid hv
  obtain ⟨fa, fn, fc, rfl⟩ : ∃ a n c, fv = .slice a n c := by obtain ⟨a, c, h, _⟩ := hv; exact ⟨a, _, c, h⟩
  have hmf := made_func
  obtain ⟨g0, g1, g2, gb, gs⟩ := boxes3 w #[.slice fa fn fc, .int .i64 D.c, .bool D.a, .int .i64 D.l, .bool D.x] #[.string n] #[.slice none 0 0, .int .i64 0, .bool false, .int .i64 0, .bool false] 27 9 27
  have G1 := Lib.hid g1
  have G2 := Lib.hid g2
  have GB := Lib.hid gb
  have GS := Lib.hid gs
  generalize change D _ own = R at *
  clear hv hS hn hown hR g0 g1 g2 gb gs
  unfold dkVal
  go_enter Try.func34, Try.ntmps34
  go_wp2_with fail
  generalize World.alloc (World.alloc (World.alloc w _) _) _ = w0 at G1 G2 GB GS ⊢
  have HL := Lib.hid (show w.heap.size + 1 + 1 < w0.heap.size by have := GS.out; omega)
  refine (HC.out _ _ w0 (HV.out.keep GB.out) (cells1 G1.out).1).mono ?_
  rintro e w1 ⟨v1, rfl, hres⟩
  obtain ⟨ga, gn, gc, rfl⟩ : ∃ a n c, v1 = .slice a n c := by
    rcases hres.k with ⟨k, _⟩ | k
    · exact ⟨_, _, _, k⟩
    · exact own_slice k
  have HRS := Lib.hid (res_set5 hres GB.out (k := w.heap.size + 1 + 1) (by omega) HL.out)
  obtain ⟨q0, q1, q2, q3, q4⟩ := cells5 (hkeep G2.out hres.w)
  obtain ⟨qf0, qf1, qf2, qf3, qf4⟩ := frozen5 (hkeep G2.out hres.w)
  clear hres
  unfold dkVal
  go_wp2_with fail
  refine bodyPost_ret (v := .tuple #[.agg #[.slice ga gn gc, .int .i64 R.1.c, .bool R.1.a, .int .i64 R.1.l, .bool R.1.x], .int .i64 R.2]) (by simp [results, Try.results34, go_sem, q0, q1, q2, q3, q4]) rfl ?_
  exact ⟨_, rfl, HRS.out _ _ _ _ _⟩

set_option maxRecDepth 100000 in
set_option maxHeartbeats 1600000 in
theorem delete_any (fv : Value) (D : Dk) (n : ByteArray) (w : World) (hv : IsL FL w fv D.f) (hS : Sm D) :
    Calls Try.prog 71 #[dkVal fv D, .string n] w (DkOut w fv D.f (delete D n)) := by
  obtain ⟨own, hown, hR⟩ : ∃ own : Int, ((own = 7 ∧ get D.f n = none) ∨ (own = 0 ∧ get D.f n ≠ none)) ∧ delete D n = change D (without D.f n) own := by
    unfold delete
    cases hg : get D.f n with
    | none => exact ⟨7, .inl ⟨rfl, rfl⟩, change_own D _ _ (by decide)⟩
    | some f => exact ⟨0, .inr ⟨rfl, by simp⟩, rfl⟩
  rw [hR]
  have HC := Lib.hid fun (fv : Value) (b : Nat) (W : World) (h : IsL FL W fv D.f) (hx : W.cell? ⟨b, 0, none⟩ = some (.string n)) =>
    change_any 88 #[.pointer (some ⟨b, 0, none⟩)] fv D (without D.f n) own W h hS.b hS.l0 (by have := hS.n; omega)
      (fun ho => ⟨by have : (without D.f n).length ≤ D.f.length := List.length_filter_le _ _; have := hS.n; omega, fun f hf => hS.flb f (mem_without.1 hf).1⟩)
      (enters Try.func88 (by kernel_rfl) (by rfl))
      (fun base v W' ho h1 h2 h3 => delete1_any n D.f base v b W' (by rw [h3.cell (p := ⟨b, 0, none⟩) (block_lt_of_cell hx)]; exact hx) ho h2 hS.r.2.1 (by have := hS.n; omega) hS.flb own hown)
  have HV := Lib.hid hv
  obtain ⟨fa, fn, fc, rfl⟩ : ∃ a n c, fv = .slice a n c := by obtain ⟨a, c, h, _⟩ := hv; exact ⟨a, _, c, h⟩
  have hmf := made_func
  obtain ⟨g0, g1, g2, gb, gs⟩ := boxes3 w #[.slice fa fn fc, .int .i64 D.c, .bool D.a, .int .i64 D.l, .bool D.x] #[.string n] #[.slice none 0 0, .int .i64 0, .bool false, .int .i64 0, .bool false] 27 9 27
  have G1 := Lib.hid g1
  have G2 := Lib.hid g2
  have GB := Lib.hid gb
  have GS := Lib.hid gs
  generalize change D _ own = R at *
  clear hv hS hown hR g0 g1 g2 gb gs
  unfold dkVal
  go_enter Try.func71, Try.ntmps71
  go_wp2_with fail
  generalize World.alloc (World.alloc (World.alloc w _) _) _ = w0 at G1 G2 GB GS ⊢
  have HL := Lib.hid (show w.heap.size + 1 + 1 < w0.heap.size by have := GS.out; omega)
  refine (HC.out _ _ w0 (HV.out.keep GB.out) (cells1 G1.out).1).mono ?_
  rintro e w1 ⟨v1, rfl, hres⟩
  obtain ⟨ga, gn, gc, rfl⟩ : ∃ a n c, v1 = .slice a n c := by
    rcases hres.k with ⟨k, _⟩ | k
    · exact ⟨_, _, _, k⟩
    · exact own_slice k
  have HRS := Lib.hid (res_set5 hres GB.out (k := w.heap.size + 1 + 1) (by omega) HL.out)
  obtain ⟨q0, q1, q2, q3, q4⟩ := cells5 (hkeep G2.out hres.w)
  obtain ⟨qf0, qf1, qf2, qf3, qf4⟩ := frozen5 (hkeep G2.out hres.w)
  clear hres
  unfold dkVal
  go_wp2_with fail
  refine bodyPost_ret (v := .tuple #[.agg #[.slice ga gn gc, .int .i64 R.1.c, .bool R.1.a, .int .i64 R.1.l, .bool R.1.x], .int .i64 R.2]) (by simp [results, Try.results71, go_sem, q0, q1, q2, q3, q4]) rfl ?_
  exact ⟨_, rfl, HRS.out _ _ _ _ _⟩

set_option maxRecDepth 100000 in
set_option maxHeartbeats 1600000 in
theorem rename_any (fv : Value) (D : Dk) (n m : ByteArray) (w : World) (hv : IsL FL w fv D.f) (hS : Sm D) (hm : m.size ≤ 9223372036854775807) :
    Calls Try.prog 85 #[dkVal fv D, .string n, .string m] w (DkOut w fv D.f (rename D n m)) := by
  obtain ⟨own, l, hown, hR⟩ : ∃ (own : Int) (l : List Fl), ((own = 7 ∧ get D.f n = none ∧ l = []) ∨ (own = 1 ∧ get D.f n ≠ none ∧ ¬ Named m ∧ l = []) ∨ (own = 0 ∧ ∃ f, get D.f n = some f ∧ Named m ∧ l = withF (without D.f n) ⟨m, f.d, f.s⟩)) ∧ rename D n m = change D l own := by
    unfold rename
    cases hg : get D.f n with
    | none => exact ⟨7, [], .inl ⟨rfl, rfl, rfl⟩, rfl⟩
    | some f =>
      by_cases h1 : Named m
      · exact ⟨0, _, .inr (.inr ⟨rfl, f, rfl, h1, rfl⟩), by simp only; rw [if_neg (fun h => h h1)]⟩
      · exact ⟨1, [], .inr (.inl ⟨rfl, by simp, h1, rfl⟩), by simp only; rw [if_pos h1]⟩
  rw [hR]
  have HC := Lib.hid fun (fv : Value) (b b' : Nat) (W : World) (h : IsL FL W fv D.f) (hx : W.cell? ⟨b, 0, none⟩ = some (.string n)) (hx' : W.cell? ⟨b', 0, none⟩ = some (.string m)) =>
    change_any 94 #[.pointer (some ⟨b, 0, none⟩), .pointer (some ⟨b', 0, none⟩)] fv D l own W h hS.b hS.l0 (by have := hS.n; omega)
      (fun ho => by
        rcases hown with ⟨h1, _⟩ | ⟨h1, _⟩ | ⟨_, f, hg, hN, rfl⟩
        · omega
        · omega
        · refine ⟨?_, fun x hx => ?_⟩
          · have h1 : (without D.f n).length ≤ D.f.length := List.length_filter_le _ _
            have h2 := length_withF (without D.f n) ⟨m, f.d, f.s⟩
            have := hS.n; omega
          · rcases mem_withF.1 hx with h1 | rfl
            · exact hS.flb x (mem_without.1 h1.1).1
            · have := hS.flb f (get_mem hg).1
              exact ⟨hm, this.2.1, this.2.2⟩)
      (enters Try.func94 (by kernel_rfl) (by rfl))
      (fun base v W' ho h1 h2 h3 => by
        have y : W'.cell? ⟨b, 0, none⟩ = some (.string n) := by rw [h3.cell (p := ⟨b, 0, none⟩) (block_lt_of_cell hx)]; exact hx
        have y' : W'.cell? ⟨b', 0, none⟩ = some (.string m) := by rw [h3.cell (p := ⟨b', 0, none⟩) (block_lt_of_cell hx')]; exact hx'
        rcases hown with ⟨rfl, hg, rfl⟩ | ⟨rfl, hg, hN, rfl⟩ | ⟨rfl, f, hg, hN, rfl⟩
        · exact rename1_no n m D.f base v b b' W' hm y y' ho h2 hS.r.2.1 (by have := hS.n; omega) hS.flb 7 (.inl ⟨rfl, hg⟩)
        · exact rename1_no n m D.f base v b b' W' hm y y' ho h2 hS.r.2.1 (by have := hS.n; omega) hS.flb 1 (.inr ⟨rfl, hg, hN⟩)
        · exact rename1_yes n m D.f base v b b' W' hm y y' ho h2 hS.r.2.1 (by have := hS.n; omega) hS.flb f hg hN)
  have HV := Lib.hid hv
  obtain ⟨fa, fn, fc, rfl⟩ : ∃ a n c, fv = .slice a n c := by obtain ⟨a, c, h, _⟩ := hv; exact ⟨a, _, c, h⟩
  have hmf := made_func
  obtain ⟨g0, g1, g2, g3, gb, gs⟩ := boxes4 w #[.slice fa fn fc, .int .i64 D.c, .bool D.a, .int .i64 D.l, .bool D.x] #[.string n] #[.string m] #[.slice none 0 0, .int .i64 0, .bool false, .int .i64 0, .bool false] 27 9 9 27
  have G1 := Lib.hid g1
  have G2 := Lib.hid g2
  have G3 := Lib.hid g3
  have GB := Lib.hid gb
  have GS := Lib.hid gs
  generalize change D _ own = R at *
  clear hv hS hown hR g0 g1 g2 g3 gb gs hm
  unfold dkVal
  go_enter Try.func85, Try.ntmps85
  go_wp2_with fail
  generalize World.alloc (World.alloc (World.alloc (World.alloc w _) _) _) _ = w0 at G1 G2 G3 GB GS ⊢
  have HL := Lib.hid (show w.heap.size + 1 + 1 + 1 < w0.heap.size by have := GS.out; omega)
  refine (HC.out _ _ _ w0 (HV.out.keep GB.out) (cells1 G1.out).1 (cells1 G2.out).1).mono ?_
  rintro e w1 ⟨v1, rfl, hres⟩
  obtain ⟨ga, gn, gc, rfl⟩ : ∃ a n c, v1 = .slice a n c := by
    rcases hres.k with ⟨k, _⟩ | k
    · exact ⟨_, _, _, k⟩
    · exact own_slice k
  have HRS := Lib.hid (res_set5 hres GB.out (k := w.heap.size + 1 + 1 + 1) (by omega) HL.out)
  obtain ⟨q0, q1, q2, q3, q4⟩ := cells5 (hkeep G3.out hres.w)
  obtain ⟨qf0, qf1, qf2, qf3, qf4⟩ := frozen5 (hkeep G3.out hres.w)
  clear hres
  unfold dkVal
  go_wp2_with fail
  refine bodyPost_ret (v := .tuple #[.agg #[.slice ga gn gc, .int .i64 R.1.c, .bool R.1.a, .int .i64 R.1.l, .bool R.1.x], .int .i64 R.2]) (by simp [results, Try.results85, go_sem, q0, q1, q2, q3, q4]) rfl ?_
  exact ⟨_, rfl, HRS.out _ _ _ _ _⟩

set_option maxRecDepth 100000 in
/-- disk's within: the name and the step of a file lie in two new blocks. -/
theorem within_any (n : ByteArray) (M : Fn) (caps : Array Value) (w : World) : Calls Try.prog 53 #[.string n, .func M #[] caps] w fun e w' => ∃ p q : Nat, e = .returned (.func (.func 75) #[] #[.pointer (some ⟨p, 0, none⟩), .pointer (some ⟨q, 0, none⟩)]) ∧
    w'.cell? ⟨p, 0, none⟩ = some (.string n) ∧ w'.cell? ⟨q, 0, none⟩ = some (.func M #[] caps) ∧ Below w.heap.size w w' := by
  have hmf := made_func
  obtain ⟨g0, g1, gb, gs⟩ := boxes2 w #[.string n] #[.func M #[] caps] 9 100
  go_enter Try.func53, Try.ntmps53
  go_wp2_with fail
  go_ret
  exact ⟨_, _, rfl, (cells1 g0).1, (cells1 g1).1, gb⟩

/-- A change of one file. -/
def one (D : Dk) (n : ByteArray) (g : Fl → Fl) (er : Fl → Int) : Dk × Int := match get D.f n with | none => change D [] 7 | some f => change D (withF D.f (g f)) (er f)
theorem wchange_any (fv : Value) (D : Dk) (n : ByteArray) (g : Fl → Fl) (er : Fl → Int) (M : Nat) (caps : Array Value) (b1 b2 : Nat) (w : World) (hv : IsL FL w fv D.f) (hS : Sm D)
    (hg : ∀ f, get D.f n = some f → (g f).n = n ∧ (er f = 0 → FlB (g f))) (EN : ∀ args w, (callFunc M args).run Try.prog w = .ok (.enter M args) w)
    (IN : ∀ f W, get D.f n = some f → Below w.heap.size w W → Calls Try.prog M (#[.agg #[.string f.n, .string f.d, .int .i64 f.s]] ++ caps) W (FileOut W (g f) (er f)))
    (h1 : w.cell? ⟨b1, 0, none⟩ = some (.string n)) (h2 : w.cell? ⟨b2, 0, none⟩ = some (.func (.func M) #[] caps)) :
    Calls Try.prog 52 #[.agg #[fv, .int .i64 D.c, .bool D.a, .int .i64 D.l, .bool D.x], .func (.func 75) #[] #[.pointer (some ⟨b1, 0, none⟩), .pointer (some ⟨b2, 0, none⟩)]] w (DkOut w fv D.f (one D n g er)) := by
  unfold one
  have key : ∀ W, Below w.heap.size w W → W.cell? ⟨b1, 0, none⟩ = some (.string n) ∧ W.cell? ⟨b2, 0, none⟩ = some (.func (.func M) #[] caps) := fun W b =>
    ⟨by rw [b.cell (p := ⟨b1, 0, none⟩) (block_lt_of_cell h1)]; exact h1, by rw [b.cell (p := ⟨b2, 0, none⟩) (block_lt_of_cell h2)]; exact h2⟩
  cases hget : get D.f n with
  | none =>
    refine change_any _ _ fv D [] 7 w hv hS.b hS.l0 (by have := hS.n; omega) (fun h => by omega) (enters Try.func75 (by kernel_rfl) (by rfl)) (fun base v W ho k1 k2 k3 => ?_)
    exact within1_no n D.f base v b1 b2 W (key W k3).1 ho k2 hS.r.2.1 (by have := hS.n; omega) hS.flb hget
  | some f =>
    refine change_any _ _ fv D (withF D.f (g f)) (er f) w hv hS.b hS.l0 (by have := hS.n; omega) (fun h => ⟨by have := length_withF D.f (g f); have := hS.n; omega, fun x hx => ?_⟩) (enters Try.func75 (by kernel_rfl) (by rfl)) (fun base v W ho k1 k2 k3 => ?_)
    · rcases mem_withF.1 hx with k | rfl
      · exact hS.flb x k.1
      · exact (hg f hget).2 h
    · exact within1_yes n D.f base v b1 b2 W (key W k3).1 ho k2 hS.r.2.1 (by have := hS.n; omega) hS.flb f (g f) (er f) M caps hget (hg f hget).1 EN (key W k3).2 (fun W' hb => IN f W' hget (k3.trans (hb.mono k3.size)))

end Go.Proofs.Ythhhocgpoenigaa.Dsk

namespace Go.Proofs.Ythhhocgpoenigaa.Dsk
open Go.RowKit Go.Proofs.Ythhhocgpoenigaa.Dp

set_option maxRecDepth 100000 in
theorem rarm_val (fv : Value) (D : Dk) (k : Int) (w : World) (hv : IsL FL w fv D.f) :
    Calls Try.prog 17 #[dkVal fv D, .int .i64 k] w fun e w' => e = .returned (dkVal fv (arm D k)) ∧ Below w.heap.size w w' := by
  obtain ⟨fa, fn, fc, rfl⟩ : ∃ a n c, fv = .slice a n c := by obtain ⟨a, c, h, _⟩ := hv; exact ⟨a, _, c, h⟩
  clear hv
  unfold dkVal
  go_enter Try.func17, Try.ntmps17
  go_wp2_with fail
  refine bodyPost_ret (v := .agg #[.slice fa fn fc, .int .i64 D.c, .bool (decide (0 ≤ k)), .int .i64 (max k 0), .bool D.x]) (by simp [results, Try.results17, go_sem]) rfl ?_
  exact ⟨rfl, ((Below.refl _ _).alloc (Nat.le_refl _) _).alloc (by simp) _⟩
set_option maxRecDepth 100000 in
theorem rlimit_val (fv : Value) (D : Dk) (k : Int) (w : World) (hv : IsL FL w fv D.f) :
    Calls Try.prog 18 #[dkVal fv D, .int .i64 k] w fun e w' => e = .returned (dkVal fv (limit D k)) ∧ Below w.heap.size w w' := by
  obtain ⟨fa, fn, fc, rfl⟩ : ∃ a n c, fv = .slice a n c := by obtain ⟨a, c, h, _⟩ := hv; exact ⟨a, _, c, h⟩
  clear hv
  unfold dkVal
  go_enter Try.func18, Try.ntmps18
  go_wp2_with fail
  refine bodyPost_ret (v := .agg #[.slice fa fn fc, .int .i64 (max k 0), .bool D.a, .int .i64 D.l, .bool D.x]) (by simp [results, Try.results18, go_sem]) rfl ?_
  exact ⟨rfl, ((Below.refl _ _).alloc (Nat.le_refl _) _).alloc (by simp) _⟩

/-- What a reading of a file tells. -/
def readVal (l : List Fl) (n : ByteArray) : Value := match get l n with | none => .tuple #[.string ⟨#[]⟩, .int .i64 7] | some f => .tuple #[.string f.d, .int .i64 0]
theorem readVal_no {l : List Fl} {n : ByteArray} (h : get l n = none) : readVal l n = .tuple #[.string ⟨#[]⟩, .int .i64 7] := by unfold readVal; rw [h]
theorem readVal_yes {l : List Fl} {n : ByteArray} {f : Fl} (h : get l n = some f) : readVal l n = .tuple #[.string f.d, .int .i64 0] := by unfold readVal; rw [h]

set_option maxRecDepth 100000 in
set_option maxHeartbeats 1600000 in
theorem read_any (fv : Value) (D : Dk) (n : ByteArray) (w : World) (hv : IsL FL w fv D.f) (hu : Up D.f) (hl : D.f.length ≤ 1000000000) :
    Calls Try.prog 43 #[dkVal fv D, .string n] w fun e w' => e = .returned (readVal D.f n) ∧ Below w.heap.size w w' := by
  obtain ⟨fa, fn, fc, rfl⟩ : ∃ a n c, fv = .slice a n c := by obtain ⟨a, c, h, _⟩ := hv; exact ⟨a, _, c, h⟩
  have F := Lib.hid fun (W : World) (h : IsL FL W (.slice fa fn fc) D.f) => find_any _ D.f n W hu (by omega) h
  have HV := Lib.hid hv
  have G0 := Lib.hid (heap_alloc_new w (.cells #[.slice fa fn fc, .int .i64 D.c, .bool D.a, .int .i64 D.l, .bool D.x] 27))
  cases hg : get D.f n with
  | none =>
    rw [readVal_no hg]
    have HG := Lib.hid fun i b (h : FoundF D.f n i b) => found_no h hu hg
    clear hv hu hl hg
    unfold dkVal
    go_enter Try.func43, Try.ntmps43
    go_wp2_with fail
    refine (F.out _ (HV.out.keep ((Below.refl _ _).alloc (Nat.le_refl _) _))).mono ?_
    rintro e w1 ⟨i, b, rfl, hf, b1⟩
    obtain rfl := HG.out i b hf
    have HB := Lib.hid (bel_of_alloc b1)
    clear hf b1
    go_wp2_with fail
    go_ret2
    exact ⟨rfl, HB.out⟩
  | some f =>
    rw [readVal_yes hg]
    have HG := Lib.hid fun i b (h : FoundF D.f n i b) => found_yes h hu hg
    have HC := Lib.hid (show ∀ i, i < D.f.length → ∃ b off, fa = some ⟨b, off, none⟩ ∧ w.cell? ⟨b, off + i * 3 + 1, none⟩ = some (.string (D.f.getD i zero).d) from fun i hi => by
      have hv' := hv
      obtain ⟨a', cap', e, _, _, h3⟩ := hv
      injection e with e1 e2 e3
      rcases h3 with h3 | ⟨b, off, h4, _⟩
      · rw [h3] at hi; simp at hi
      · subst e1
        subst h4
        exact ⟨b, off, rfl, (at3 hv' (by omega)).2.1⟩)
    have HN := Lib.hid hv.len.1
    have hl' : (D.f.length : Int) ≤ 1000000000 := by omega
    clear hv hu hg
    unfold dkVal
    go_enter Try.func43, Try.ntmps43
    go_wp2_with fail
    refine (F.out _ (HV.out.keep ((Below.refl _ _).alloc (Nat.le_refl _) _))).mono ?_
    rintro e w1 ⟨i, b, rfl, hf, b1⟩
    obtain ⟨rfl, hi, hfe⟩ := HG.out i b hf
    have HB := bel_of_alloc b1
    obtain ⟨q0, q1, q2, q3, q4⟩ := cells5 (hkeep G0.out b1)
    obtain ⟨b', off, rfl, hc⟩ := HC.out i hi
    rw [hfe] at hc
    have x1 : w1.cell? ⟨b', off + i * 3 + 1, none⟩ = some (.string f.d) := by rw [HB.cell (p := ⟨b', off + i * 3 + 1, none⟩) (block_lt_of_cell hc)]; exact hc
    have hin : i < fn := by rw [HN.out]; exact hi
    have HB := Lib.hid HB
    clear hf b1 hc hfe
    go_wp2_with fail
    go_ret2
    exact ⟨rfl, HB.out⟩

end Go.Proofs.Ythhhocgpoenigaa.Dsk

namespace Go.Proofs.Ythhhocgpoenigaa.Dsk
open Go.RowKit Go.Proofs.Ythhhocgpoenigaa.Dp

/-- A disk whose files are one of two slices that were there. -/
def RcTwo (w : World) (fv lv : Value) (l0 l : List Fl) (R : Dk × Int) (e : Ending) (w' : World) : Prop := ∃ v, e = .returned (.tuple #[dkVal v R.1, .int .i64 R.2]) ∧ ((v = fv ∧ R.1.f = l0) ∨ (v = lv ∧ R.1.f = l ∧ R.2 = 0)) ∧ Below w.heap.size w w'

theorem RcTwo.slice {w w' : World} {fa ga : Option Addr} {fn fc gn gc : Nat} {v : Value} {P Q : Prop} (h : (v = .slice fa fn fc ∧ P) ∨ (v = .slice ga gn gc ∧ Q)) (_hw : w = w' ∨ True) : ∃ a n c, v = .slice a n c := by
  rcases h with ⟨h, _⟩ | ⟨h, _⟩
  · exact ⟨_, _, _, h⟩
  · exact ⟨_, _, _, h⟩

end Go.Proofs.Ythhhocgpoenigaa.Dsk

namespace Go.Proofs.Ythhhocgpoenigaa.Rt

/-- A segment: its first offset, its records, its bytes. -/
structure Sg where
  b : Int
  n : Int
  z : Int
def zero : Sg := ⟨0, 0, 0⟩
def sumZ (l : List Sg) : Int := l.foldl (fun s x => s + x.z) 0
def sumN (l : List Sg) : Int := l.foldl (fun s x => s + x.n) 0

/-- What may be asked. -/
def Fit (x : Sg) : Prop := 0 ≤ x.n ∧ x.n ≤ 1099511627776 ∧ 0 ≤ x.z ∧ x.z ≤ 1099511627776
def May (l : List Sg) : Prop := l.length ≤ 4096 ∧ ∀ x ∈ l, Fit x
theorem Fit.zero : Fit zero := ⟨by decide, by decide, by decide, by decide⟩
theorem May.at_ {l : List Sg} (h : May l) (k : Nat) : Fit (l.getD k zero) := by
  by_cases hk : k < l.length
  · rw [show l.getD k zero = l[k] by simp [List.getD_eq_getElem?_getD, hk]]
    exact h.2 _ (List.getElem_mem hk)
  · rw [show l.getD k zero = zero by simp [List.getD_eq_getElem?_getD, List.getElem?_eq_none (Nat.le_of_not_lt hk)]]
    exact Fit.zero
theorem May.drop {l : List Sg} (h : May l) (k : Nat) : May (l.drop k) := ⟨by rw [List.length_drop]; have := h.1; omega, fun x hx => h.2 x (List.mem_of_mem_drop hx)⟩
theorem May.take {l : List Sg} (h : May l) (k : Nat) : May (l.take k) := ⟨by rw [List.length_take]; have := h.1; omega, fun x hx => h.2 x (List.mem_of_mem_take hx)⟩

/-- Is too much kept? -/
def Much (l : List Sg) (keep count : Int) : Prop := 1 < l.length ∧ (keep < sumZ (l.take (l.length - 1)) ∨ count < sumN l)
/-- The least number that, taken from the first on, leave not too much. -/
def IsPick (l : List Sg) (keep count : Int) (k : Nat) : Prop := (l = [] ∧ k = 0) ∨ (k < l.length ∧ ¬ Much (l.drop k) keep count ∧ ∀ j, j < k → Much (l.drop j) keep count)
theorem IsPick.one {l : List Sg} {keep count : Int} {k m : Nat} (h : IsPick l keep count k) (h' : IsPick l keep count m) : k = m := by
  rcases h with ⟨rfl, rfl⟩ | ⟨a1, a2, a3⟩
  · rcases h' with ⟨_, rfl⟩ | ⟨b1, _, _⟩
    · rfl
    · simp at b1
  · rcases h' with ⟨rfl, _⟩ | ⟨b1, b2, b3⟩
    · simp at a1
    · rcases Nat.lt_trichotomy k m with h | h | h
      · exact absurd (b3 k h) a2
      · exact h
      · exact absurd (a3 m h) b2
theorem IsPick.lt {l : List Sg} {keep count : Int} {k : Nat} (h : IsPick l keep count k) : k ≤ l.length ∧ (0 < l.length → k < l.length) := by
  rcases h with ⟨rfl, rfl⟩ | ⟨h, _, _⟩
  · exact ⟨Nat.zero_le _, fun h => h⟩
  · exact ⟨Nat.le_of_lt h, fun _ => h⟩
/-- More that may be kept, or fewer that are there: no more go. -/
theorem IsPick.mono {l : List Sg} {keep count keep' count' : Int} {k m : Nat} (h : IsPick l keep count k) (h' : IsPick l keep' count' m) (h1 : keep ≤ keep') (h2 : count ≤ count') : m ≤ k := by
  rcases h with ⟨rfl, rfl⟩ | ⟨a1, a2, a3⟩
  · rcases h' with ⟨_, rfl⟩ | ⟨b1, _, _⟩
    · exact Nat.le_refl _
    · simp at b1
  · rcases h' with ⟨rfl, rfl⟩ | ⟨b1, b2, b3⟩
    · exact Nat.zero_le _
    · refine Nat.le_of_not_lt fun hlt => a2 ?_
      obtain ⟨c1, c2⟩ := b3 k hlt
      exact ⟨c1, by omega⟩

end Go.Proofs.Ythhhocgpoenigaa.Rt

namespace Go.Proofs.Ythhhocgpoenigaa.Rts
open Go.RowKit Go.Proofs.Ythhhocgpoenigaa.Rt

def sgCells (m : Sg) : List Value := [.int .i64 m.b, .int .i64 m.n, .int .i64 m.z]
def SgB (m : Sg) : Prop := (-9223372036854775808 ≤ m.b ∧ m.b ≤ 9223372036854775807) ∧ (-9223372036854775808 ≤ m.n ∧ m.n ≤ 9223372036854775807) ∧ (-9223372036854775808 ≤ m.z ∧ m.z ≤ 9223372036854775807)
/-- How segments lie in memory. -/
def SL : Lay Sg where
  enc := sgCells
  k := 3
  len := fun _ => rfl
  one := by intro f u hu; simp [sgCells] at hu; rcases hu with rfl | rfl | rfl <;> rfl
  pos := by decide
  T := 49
  ok := SgB
  z := zero
theorem info_sg : (Try.prog.info? 49).map (fun i => (i.zero, i.size, i.bytes)) = some (some (.agg #[.int .i64 0, .int .i64 0, .int .i64 0]), 3, 24) := by kernel_rfl
theorem sg_at {w : World} {fa : Option Addr} {fn fc : Nat} {l : List Sg} (h : IsL SL w (.slice fa fn fc) l) {i : Nat} (hi : i < fn) :
    ∃ b off, fa = some ⟨b, off, none⟩ ∧ w.cell? ⟨b, off + i * 3, none⟩ = some (.int .i64 (l.getD i zero).b) ∧ w.cell? ⟨b, off + i * 3 + 1, none⟩ = some (.int .i64 (l.getD i zero).n) ∧ w.cell? ⟨b, off + i * 3 + 2, none⟩ = some (.int .i64 (l.getD i zero).z) := by
  have h' := h
  obtain ⟨a', cap', e, _, _, h3⟩ := h
  injection e with e1 e2 e3
  rcases h3 with h3 | ⟨b, off, h4, _⟩
  · rw [h3] at e2; simp at e2; omega
  · subst e1
    subst h4
    exact ⟨b, off, rfl, h'.at_ hi 0 _ rfl, h'.at_ hi 1 _ rfl, h'.at_ hi 2 _ rfl⟩

end Go.Proofs.Ythhhocgpoenigaa.Rts

namespace Go.Proofs.Ythhhocgpoenigaa
namespace Np

/-- The last k digits of n, the highest first. -/
def dig : Nat → Nat → List UInt8
  | 0, _ => []
  | k + 1, n => dig k (n / 10) ++ [UInt8.ofNat (48 + n % 10)]

theorem dig_len : ∀ (k n : Nat), (dig k n).length = k
  | 0, _ => rfl
  | k + 1, n => by simp [dig, dig_len k (n / 10)]

theorem dig_add (j : Nat) : ∀ (k n : Nat), dig (j + k) n = dig j (n / 10 ^ k) ++ dig k n
  | 0, n => by simp [dig]
  | k + 1, n => by
    rw [show j + (k + 1) = (j + k) + 1 from rfl, dig, dig_add j k (n / 10), dig, Nat.div_div_eq_div_mul, Nat.pow_succ, Nat.mul_comm 10 (10 ^ k)]
    simp

theorem dig_cons (k n : Nat) : dig (k + 1) n = UInt8.ofNat (48 + n / 10 ^ k % 10) :: dig k n := by
  rw [show k + 1 = 1 + k from by omega, dig_add 1 k n]
  simp [dig]

/-- A name: its first byte, then thirteen digits; of no offset none. -/
def nameL (c : UInt8) (n : Int) : List UInt8 := if 0 ≤ n ∧ n ≤ 1099511627776 then c :: dig 13 n.toNat else []

def isDig (c : UInt8) : Bool := decide (48 ≤ c.toNat) && decide (c.toNat ≤ 57)
theorem isDig_iff (c : UInt8) : isDig c = true ↔ 48 ≤ c.toNat ∧ c.toNat ≤ 57 := by unfold isDig; simp
def val (l : List UInt8) : Nat := l.foldl (fun a c => a * 10 + (c.toNat - 48)) 0
theorem val_snoc (l : List UInt8) (c : UInt8) : val (l ++ [c]) = val l * 10 + (c.toNat - 48) := by simp [val]

theorem digit (n : Nat) : (UInt8.ofNat (48 + n % 10)).toNat = 48 + n % 10 := by
  rw [UInt8.toNat_ofNat']; omega

theorem val_dig : ∀ (k n : Nat), val (dig k n) = n % 10 ^ k
  | 0, n => by simp [dig, val, Nat.mod_one]
  | k + 1, n => by
    rw [dig, val_snoc, val_dig k, digit, Nat.pow_succ, Nat.mul_comm (10 ^ k) 10, Nat.mod_mul]
    omega

theorem dig_all : ∀ (k n : Nat), (dig k n).all isDig = true
  | 0, _ => rfl
  | k + 1, n => by
    rw [dig, List.all_append, dig_all k]
    simp only [List.all_cons, List.all_nil, Bool.and_true, Bool.true_and]
    rw [isDig_iff, digit]
    omega

/-- Is it thirteen digits of an offset? -/
def offB (l : List UInt8) : Bool := l.all isDig && decide (val l ≤ 1099511627776)
theorem offB_iff (l : List UInt8) : offB l = true ↔ l.all isDig = true ∧ val l ≤ 1099511627776 := by unfold offB; simp

/-- What a text is the name of. -/
def kind (s : List UInt8) : UInt8 × Nat :=
  if s = [109] ∨ s = [110] then (s.headD 0, 0)
  else if s.length = 14 ∧ (s.headD 0 = 115 ∨ s.headD 0 = 116) ∧ offB s.tail = true then (s.headD 0, val s.tail)
  else (0, 0)

/-- A name is that offset's. -/
theorem kind_name {c : UInt8} (hc : c = 115 ∨ c = 116) {n : Nat} (h : n ≤ 1099511627776) : kind (nameL c (n : Int)) = (c, n) := by
  have e : nameL c (n : Int) = c :: dig 13 n := by unfold nameL; rw [if_pos ⟨by omega, by omega⟩]; simp
  have v : val (dig 13 n) = n := by rw [val_dig]; exact Nat.mod_eq_of_lt (by omega)
  rw [e]
  unfold kind
  have l := dig_len 13 n
  rw [if_neg, if_pos]
  · simp [v]
  · refine ⟨by simp [l], by simpa using hc, ?_⟩
    rw [List.tail_cons, offB_iff]
    exact ⟨dig_all _ _, by omega⟩
  · rintro (h | h) <;> · have := congrArg List.length h; simp [l] at this

theorem name_inj {c : UInt8} (hc : c = 115 ∨ c = 116) {a b : Nat} (ha : a ≤ 1099511627776) (hb : b ≤ 1099511627776) (h : nameL c (a : Int) = nameL c (b : Int)) : a = b := by
  have := (kind_name hc ha).symm.trans ((congrArg kind h).trans (kind_name hc hb))
  exact congrArg Prod.snd this

theorem name_len (c : UInt8) {a : Nat} (ha : a ≤ 1099511627776) : (nameL c (a : Int)).length = 14 := by
  unfold nameL; rw [if_pos ⟨by omega, by omega⟩, List.length_cons, dig_len]

end Np
end Go.Proofs.Ythhhocgpoenigaa

namespace Go.Proofs.Ythhhocgpoenigaa
open Go.RowKit Go.Lib

namespace Nm
/-- The array when i digits of thirteen are left. -/
def nmV (c : UInt8) (n i : Nat) : Array Value := (Value.int .u8 (c.toNat : Int) :: (List.range 13).map fun j => Value.int .u8 ((if j < i then 0 else 48 + n / 10 ^ (12 - j) % 10 : Nat) : Int)).toArray
theorem nmV_size (c : UInt8) (n i : Nat) : (nmV c n i).size = 14 := by simp [nmV]
theorem nmV_zero (c : UInt8) (n i j : Nat) (h : j = 0) : (nmV c n i)[j]? = some (.int .u8 (c.toNat : Int)) := by subst h; simp [nmV]
theorem nmV_at {c : UInt8} {n i j : Nat} (hj : j < 13) : (nmV c n i)[j + 1]? = some (.int .u8 ((if j < i then 0 else 48 + n / 10 ^ (12 - j) % 10 : Nat) : Int)) := by
  unfold nmV
  rw [List.getElem?_toArray, List.getElem?_cons_succ, List.getElem?_map, List.getElem?_range hj]; rfl
theorem nmV_step {c : UInt8} {n i : Nat} (hi : i < 13) : (nmV c n (i + 1)).setIfInBounds (i + 1) (.int .u8 ((48 + n / 10 ^ (12 - i) % 10 : Nat) : Int)) = nmV c n i := by
  apply Array.ext_getElem?
  intro j
  rw [Array.getElem?_setIfInBounds, nmV_size]
  rcases Nat.eq_zero_or_pos j with h0 | h0
  · rw [if_neg (by omega), nmV_zero _ _ _ _ h0, nmV_zero _ _ _ _ h0]
  · obtain ⟨j, rfl⟩ : ∃ k, j = k + 1 := ⟨j - 1, by omega⟩
    rcases Nat.lt_or_ge j 13 with hj | hj
    · rw [nmV_at hj, nmV_at hj]
      by_cases e : i + 1 = j + 1
      · have : i = j := by omega
        subst this
        rw [if_pos rfl, if_pos (by omega), if_neg (by omega)]
      · rw [if_neg e]
        by_cases h : j < i
        · rw [if_pos h, if_pos (by omega)]
        · rw [if_neg h, if_neg (by omega)]
    · have hz : ∀ k, (nmV c n k)[j + 1]? = none := fun k => Array.getElem?_eq_none (by rw [nmV_size]; omega)
      rw [if_neg (by omega), hz, hz]

theorem dig_get : ∀ (k n j : Nat), j < k → (Np.dig k n)[j]? = some (UInt8.ofNat (48 + n / 10 ^ (k - 1 - j) % 10)) := by
  intro k
  induction k with
  | zero => intro n j h; omega
  | succ k ih =>
    intro n j h
    rw [Np.dig_cons]
    cases j with
    | zero => simp
    | succ j => rw [List.getElem?_cons_succ, ih n j (by omega), show k - 1 - j = k + 1 - 1 - (j + 1) from by omega]

def cellsOf (l : List UInt8) : Array Value := (l.map fun b => Value.int .u8 (b.toNat : Int)).toArray
theorem nmV_done (c : UInt8) (n : Nat) : nmV c n 0 = cellsOf (c :: Np.dig 13 n) := by
  apply Array.ext_getElem?
  intro j
  unfold cellsOf
  rcases Nat.eq_zero_or_pos j with h0 | h0
  · subst h0; rw [nmV_zero _ _ _ _ rfl]; simp
  · obtain ⟨j, rfl⟩ : ∃ k, j = k + 1 := ⟨j - 1, by omega⟩
    have e : (List.map (fun b : UInt8 => Value.int .u8 (b.toNat : Int)) (c :: Np.dig 13 n)).toArray[j + 1]? = (Np.dig 13 n)[j]?.map fun b => Value.int .u8 (b.toNat : Int) := by simp
    rw [e]
    rcases Nat.lt_or_ge j 13 with hj | hj
    · rw [nmV_at hj, dig_get 13 n j hj, if_neg (by omega), Option.map_some, Np.digit, show 13 - 1 - j = 12 - j from by omega]
    · rw [Array.getElem?_eq_none (by rw [nmV_size]; omega), List.getElem?_eq_none (by rw [Np.dig_len]; omega)]; rfl

theorem conv_nm (w : World) (l : List UInt8) (T : TypeId) (hl : l.length = 14) : (convert 111 9 (.slice (some ⟨w.heap.size, 0, none⟩) 14 14)).run Try.prog (w.alloc (.cells (cellsOf l) T)) = .ok (.string ⟨l.toArray⟩) (w.alloc (.cells (cellsOf l) T)) := by
  have := run_convert_bytes_back (P := Try.prog) (w.alloc (.cells (cellsOf l) T)) 111 9 5 ⟨w.heap.size, 0, none⟩ 14 l Try.underlying111 Try.underlying5 Try.underlying9 (fun j hj => by
    rw [addr_plain, cell_of_row _ _ _ _ _ _ (heap_alloc_new w _)]
    simp [cellsOf, hj])
  rw [hl] at this
  exact this
end Nm
open Go.Proofs.Ythhhocgpoenigaa.Nm

set_option maxRecDepth 100000 in
set_option maxHeartbeats 400000 in
theorem mayBe_any (n : Int) (w : World) : Calls Try.prog 62 #[.int .i64 n] w fun e w' => e = .returned (.bool (decide (0 ≤ n ∧ n ≤ 1099511627776))) ∧ w = w' := by
  by_cases h0 : 0 ≤ n
  · by_cases h1 : n ≤ 1099511627776
    · rw [decide_eq_true (⟨h0, h1⟩ : 0 ≤ n ∧ n ≤ 1099511627776)]
      go_enter Try.func62, Try.ntmps62
      go_wp2
      go_ret
      exact ⟨rfl, rfl⟩
    · rw [decide_eq_false (fun h : 0 ≤ n ∧ n ≤ 1099511627776 => h1 h.2)]
      have h2 : 1099511627776 < n := by omega
      go_enter Try.func62, Try.ntmps62
      go_wp2
      go_ret
      exact ⟨rfl, rfl⟩
  · rw [decide_eq_false (fun h : 0 ≤ n ∧ n ≤ 1099511627776 => h0 h.1)]
    have h2 : n < 0 := by omega
    go_enter Try.func62, Try.ntmps62
    go_wp2
    go_ret
    exact ⟨rfl, rfl⟩

theorem nameL_no {c : UInt8} {n : Int} (h : ¬ (0 ≤ n ∧ n ≤ 1099511627776)) : Np.nameL c n = [] := by unfold Np.nameL; rw [if_neg h]
theorem nameL_yes {c : UInt8} {n : Nat} (h : n ≤ 1099511627776) : Np.nameL c (n : Int) = c :: Np.dig 13 n := by
  unfold Np.nameL; rw [if_pos ⟨by omega, by omega⟩]; simp

set_option maxRecDepth 100000 in
set_option maxHeartbeats 400000 in
theorem laid_no (c : Int) (n : Int) (w : World) (h : ¬ (0 ≤ n ∧ n ≤ 1099511627776)) :
    Calls Try.prog 35 #[.int .u8 c, .int .i64 n] w fun e w' => e = .returned (.string ⟨#[]⟩) ∧ Below w.heap.size w w' := by
  have C1 := mayBe_any n
  rw [decide_eq_false h] at C1
  have C1 := Lib.hid C1
  clear h
  go_enter Try.func35, Try.ntmps35
  go_wp2_with fail
  refine (C1.out _).mono ?_
  rintro e w1 ⟨rfl, rfl⟩
  go_wp2_with fail
  go_ret
  exact ⟨rfl, Below.refl _ _⟩

theorem nm_div (n k : Nat) (hk : k < 13) : n / 10 ^ (12 - k) / 10 = n / 10 ^ (13 - k) := by
  rw [Nat.div_div_eq_div_mul, show 13 - k = 12 - k + 1 from by omega, Nat.pow_succ]

set_option maxRecDepth 100000 in
set_option maxHeartbeats 800000 in
theorem laid_yes (c : UInt8) (n : Nat) (w : World) (h : n ≤ 1099511627776) :
    Calls Try.prog 35 #[.int .u8 (c.toNat : Int), .int .i64 n] w fun e w' => e = .returned (.string ⟨(c :: Np.dig 13 n).toArray⟩) ∧ Below w.heap.size w w' := by
  have C1 := mayBe_any (n : Int)
  rw [decide_eq_true (⟨by omega, by omega⟩ : (0 : Int) ≤ n ∧ (n : Int) ≤ 1099511627776)] at C1
  have C1 := Lib.hid C1
  have hb := c.toNat_lt
  have hbi : (c.toNat : Int) < 256 := by omega
  go_enter Try.func35, Try.ntmps35
  go_wp2_with fail
  refine (C1.out _).mono ?_
  rintro e w1 ⟨rfl, rfl⟩
  go_wp2_with fail
  go_loopw [1, 6] (fun a i wr => ∃ k m : Nat, k ≤ 13 ∧ m ≤ 1099511627776 ∧ a = .int .i64 m ∧ i = .int .i64 k ∧ m = n / 10 ^ (13 - k) ∧ wr = w.alloc (.cells (nmV c n k) 110)) (fun _ i _ => (RowKit.intOf i).toNat)
  case atStart => exact ⟨13, n, by omega, h, rfl, rfl, by simp, rfl⟩
  case round =>
    obtain ⟨k, m, hk, hm, rfl, rfl, hmn, rfl⟩ := hrel
    have HM := Lib.hid hmn
    clear hmn
    by_cases h0 : 0 < k
    · obtain ⟨k, rfl⟩ : ∃ j, k = j + 1 := ⟨k - 1, by omega⟩
      have hget : (nmV c n (k + 1))[k + 1]? = some (.int .u8 0) := by rw [nmV_at (by omega), if_pos (by omega)]; rfl
      have HT := Lib.hid (nmV_step (c := c) (n := n) (i := k) (by omega))
      go_wp2
      go_roundw
      case rel =>
        refine ⟨k, m / 10, by omega, by omega, by go_num, by go_num, ?_, ?_⟩
        · rw [HM.out, show 13 - (k + 1) = 12 - k from by omega, nm_div n k (by omega)]
        · rw [← HT.out, show 12 - k = 13 - (k + 1) from by omega, ← HM.out]
          congr 3
      case measure => simp [RowKit.intOf]
    · obtain rfl : k = 0 := by omega
      have hcv := conv_nm w (c :: Np.dig 13 n) 110 (by simp [Np.dig_len])
      rw [nmV_done]
      go_wp2
      go_ret
      exact ⟨rfl, (Below.refl _ _).alloc (Nat.le_refl _) _⟩

theorem laid_any (c : UInt8) (n : Int) (w : World) (h1 : -9223372036854775808 ≤ n) :
    Calls Try.prog 35 #[.int .u8 (c.toNat : Int), .int .i64 n] w fun e w' => e = .returned (.string ⟨(Np.nameL c n).toArray⟩) ∧ Below w.heap.size w w' := by
  by_cases h : 0 ≤ n ∧ n ≤ 1099511627776
  · obtain ⟨n, rfl⟩ : ∃ k : Nat, n = (k : Int) := ⟨n.toNat, by omega⟩
    rw [nameL_yes (by omega)]
    exact laid_yes c n w (by omega)
  · rw [nameL_no h]
    exact laid_no _ n w h

set_option maxRecDepth 100000 in
set_option maxHeartbeats 400000 in
theorem seg_any (n : Int) (w : World) (h1 : -9223372036854775808 ≤ n) :
    Calls Try.prog 14 #[.int .i64 n] w fun e w' => e = .returned (.string ⟨(Np.nameL 115 n).toArray⟩) ∧ Below w.heap.size w w' := by
  have C1 := fun W : World => laid_any 115 n W h1
  generalize Np.nameL 115 n = l at *
  rw [show (((115 : UInt8).toNat : Nat) : Int) = 115 from rfl] at C1
  have C1 := Lib.hid C1
  go_enter Try.func14, Try.ntmps14
  go_wp2_with fail
  refine (C1.out _).mono ?_
  rintro e w1 ⟨rfl, b1⟩
  go_wp2_with fail
  go_ret
  exact ⟨rfl, b1⟩

end Go.Proofs.Ythhhocgpoenigaa
