/-
  ManifestTells holds.
-/
import Derived.Test.YtcogeflljcefjaaLaw10A
import Derived.Laws.StructEq
import Derived.Deep.RegionHeld3
namespace Go.Proofs.Ytcogeflljcefjaa.Mfs
open Go.RowKit Go.Proofs.Ytcogeflljcefjaa.Qm

theorem kc10 {w1 w2 : World} {b o : Nat} {x : Value} (h : w1.cell? ⟨b, o, none⟩ = some x) (hb : Below w1.heap.size w1 w2) : w2.cell? ⟨b, o, none⟩ = some x := (hb.cell (p := ⟨b, o, none⟩) (block_lt_of_cell h)).trans h
theorem c12 {A1 A2 A3 A4 B1 B2 B3 B4 C1 C2 C3 C4 Z : Prop} (h : A1 ∧ A2 ∧ A3 ∧ A4 ∧ B1 ∧ B2 ∧ B3 ∧ B4 ∧ C1 ∧ C2 ∧ C3 ∧ C4 ∧ Z) : Z := h.2.2.2.2.2.2.2.2.2.2.2.2
theorem k12 {w w1 w2 : World} {a b c : Nat} {x0 x1 x2 x3 y0 y1 y2 y3 z0 z1 z2 z3 : Value}
    (h : w1.cell? ⟨a, 0, none⟩ = some x0 ∧ w1.cell? ⟨a, 1, none⟩ = some x1 ∧ w1.cell? ⟨a, 2, none⟩ = some x2 ∧ w1.cell? ⟨a, 3, none⟩ = some x3 ∧ w1.cell? ⟨b, 0, none⟩ = some y0 ∧ w1.cell? ⟨b, 1, none⟩ = some y1 ∧ w1.cell? ⟨b, 2, none⟩ = some y2 ∧ w1.cell? ⟨b, 3, none⟩ = some y3 ∧ w1.cell? ⟨c, 0, none⟩ = some z0 ∧ w1.cell? ⟨c, 1, none⟩ = some z1 ∧ w1.cell? ⟨c, 2, none⟩ = some z2 ∧ w1.cell? ⟨c, 3, none⟩ = some z3 ∧ Below w.heap.size w w1) (hb : Below w1.heap.size w1 w2) :
    w2.cell? ⟨a, 0, none⟩ = some x0 ∧ w2.cell? ⟨a, 1, none⟩ = some x1 ∧ w2.cell? ⟨a, 2, none⟩ = some x2 ∧ w2.cell? ⟨a, 3, none⟩ = some x3 ∧ w2.cell? ⟨b, 0, none⟩ = some y0 ∧ w2.cell? ⟨b, 1, none⟩ = some y1 ∧ w2.cell? ⟨b, 2, none⟩ = some y2 ∧ w2.cell? ⟨b, 3, none⟩ = some y3 ∧ w2.cell? ⟨c, 0, none⟩ = some z0 ∧ w2.cell? ⟨c, 1, none⟩ = some z1 ∧ w2.cell? ⟨c, 2, none⟩ = some z2 ∧ w2.cell? ⟨c, 3, none⟩ = some z3 ∧ Below w.heap.size w w2 := by
  obtain ⟨h0, h1, h2, h3, i0, i1, i2, i3, j0, j1, j2, j3, hz⟩ := h
  exact ⟨kc10 h0 hb, kc10 h1 hb, kc10 h2 hb, kc10 h3 hb, kc10 i0 hb, kc10 i1 hb, kc10 i2 hb, kc10 i3 hb, kc10 j0 hb, kc10 j1 hb, kc10 j2 hb, kc10 j3 hb, hz.trans (hb.mono hz.size)⟩

set_option maxRecDepth 100000 in
set_option maxHeartbeats 1600000 in
theorem tells10_far (fa : Option Addr) (fn fc : Nat) (m : Mn) (s : ByteArray) (w : World) (hfar : 100 < fn ∨ (fn ≤ 100 ∧ 1000 < s.size)) :
    Calls Try.prog 3 #[mnVal fa fn fc m, .string s] w fun e w' => e = .returned (.bool true) ∧ Below w.heap.size w w' := by
  have HA := Lib.hid ((Below.refl w.heap.size w).alloc (Nat.le_refl _) (.cells #[.int .i64 m.v, .slice fa fn fc, .int .i64 m.z, .int .u32 m.c] 25))
  have AW := Lib.hid awake10
  unfold mnVal
  rcases hfar with hf | ⟨hf, hg⟩
  · have hf : (100 : Int) < (fn : Int) := by omega
    go_enter Try.func3, Try.ntmps3
    go_wp2_with fail
    refine (AW.out _).mono ?_
    rintro e w1 ⟨rfl, b1⟩
    have B1 := Lib.hid (HA.out.trans (b1.mono HA.out.size))
    clear b1
    go_wp2_with fail
    go_ret
    exact ⟨rfl, B1.out⟩
  · have hf : ¬ (100 : Int) < (fn : Int) := by omega
    have hg : (1000 : Int) < (s.size : Int) := by omega
    go_enter Try.func3, Try.ntmps3
    go_wp2_with fail
    refine (AW.out _).mono ?_
    rintro e w1 ⟨rfl, b1⟩
    have B1 := Lib.hid (HA.out.trans (b1.mono HA.out.size))
    clear b1
    go_wp2_with fail
    go_ret
    exact ⟨rfl, B1.out⟩

set_option maxRecDepth 100000 in
set_option maxHeartbeats 6400000 in
theorem tells10_near (fa : Option Addr) (fn fc : Nat) (m : Mn) (s : ByteArray) (w : World) (hv : IsL IL w (.slice fa fn fc) m.l) (hB : MnB m) (hn : fn ≤ 100) (hs : s.size ≤ 1000) :
    Calls Try.prog 3 #[mnVal fa fn fc m, .string s] w fun e w' => e = .returned (.bool true) ∧ Below w.heap.size w w' := by
  have HA := Lib.hid ((Below.refl w.heap.size w).alloc (Nat.le_refl _) (.cells #[.int .i64 m.v, .slice fa fn fc, .int .i64 m.z, .int .u32 m.c] 25))
  have G0 := Lib.hid (heap_alloc_new w (.cells #[.int .i64 m.v, .slice fa fn fc, .int .i64 m.z, .int .u32 m.c] 25))
  have AW := Lib.hid awake10
  obtain ⟨b, hb⟩ : ∃ b : Bool, b = true ↔ Ok m := by
    by_cases h : Ok m
    · exact ⟨true, fun _ => h, fun _ => rfl⟩
    · exact ⟨false, (fun h => by cases h), fun h2 => absurd h2 h⟩
  have PT := fun (W : World) (hb : Below w.heap.size w W) => put10_any fa fn fc m W (hv.keep hb) hB
  have RP := fun (W : World) (hb : Below w.heap.size w W) => rput10_any fa fn fc m W (hv.keep hb) hB
  have RT := fun (W : World) (hB' : Below w.heap.size w W) => right10_any fa fn fc m b W (hv.keep hB') hB hb
  have RR := fun (W : World) (hB' : Below w.heap.size w W) => rright10_any fa fn fc m b W (hv.keep hB') hB hb
  have GT := fun W : World => get10_any s W (by omega)
  have RG := fun W : World => rget10_any s W (by omega)
  generalize getM s.data.toList = R at GT RG
  obtain ⟨g, er⟩ := R
  unfold mnVal putVal10 at PT RP
  unfold mnVal at RT RR
  obtain ⟨A, hA⟩ : ∃ A : ByteArray, (⟨(putM m).1.toArray⟩ : ByteArray) = A := ⟨_, rfl⟩
  obtain ⟨pe, hpe⟩ : ∃ pe : Int, (putM m).2 = pe := ⟨_, rfl⟩
  rw [hA, hpe] at PT RP
  replace PT := Lib.hid PT
  replace RP := Lib.hid RP
  replace RT := Lib.hid RT
  replace RR := Lib.hid RR
  replace GT := Lib.hid GT
  replace RG := Lib.hid RG
  have hf : ¬ (100 : Int) < (fn : Int) := by omega
  have hg : ¬ (1000 : Int) < (s.size : Int) := by omega
  clear hv hB hb hn hs hA hpe
  unfold mnVal
  go_enter Try.func3, Try.ntmps3
  go_wp2_with fail
  refine (PT.out _ HA.out).mono ?_
  rintro e w1 ⟨rfl, b1⟩
  have B1 := Lib.hid (HA.out.trans (b1.mono HA.out.size))
  have G1 := Lib.hid ((b1.block w.heap.size (Array.getElem?_eq_some_iff.1 G0.out).1).trans G0.out)
  obtain ⟨x0, x1, x2, x3⟩ := cells4 G1.out
  clear b1 G0
  go_wp2_with fail
  refine (RP.out _ B1.out).mono ?_
  rintro e w2 ⟨rfl, b2⟩
  have B2 := Lib.hid (B1.out.trans (b2.mono B1.out.size))
  have G2 := Lib.hid ((b2.block w.heap.size (Array.getElem?_eq_some_iff.1 G1.out).1).trans G1.out)
  clear b2 x0 x1 x2 x3
  go_wp2_with fail
  refine (GT.out _).mono ?_
  rintro e w3 ⟨xa, xn, xc, rfl, hv3, b3⟩
  have B3 := Lib.hid (B2.out.trans (b3.mono B2.out.size))
  have G3 := Lib.hid ((b3.block w.heap.size (Array.getElem?_eq_some_iff.1 G2.out).1).trans G2.out)
  have a4 := (Below.refl w3.heap.size w3).alloc (Nat.le_refl _) (.cells #[.int .i64 g.v, .slice xa xn xc, .int .i64 g.z, .int .u32 g.c] 25)
  have B4 := Lib.hid (B3.out.trans (a4.mono B3.out.size))
  have G4 := Lib.hid ((a4.block w.heap.size (Array.getElem?_eq_some_iff.1 G3.out).1).trans G3.out)
  have X4 := Lib.hid (heap_alloc_new w3 (.cells #[.int .i64 g.v, .slice xa xn xc, .int .i64 g.z, .int .u32 g.c] 25))
  have HX4 := Lib.hid (hv3.keep a4)
  clear a4 hv3 b3
  unfold mnVal
  dsimp only
  go_wp2_with fail
  obtain ⟨tx, htx⟩ : ∃ tx, w3.heap.size = tx := ⟨_, rfl⟩
  rw [htx] at X4 ⊢
  generalize w3.alloc (.cells #[.int .i64 g.v, .slice xa xn xc, .int .i64 g.z, .int .u32 g.c] 25) = w4 at *
  clear htx
  refine (RG.out _).mono ?_
  rintro e w5 ⟨ya, yn, yc, rfl, hv5, b5⟩
  have B5 := Lib.hid (B4.out.trans (b5.mono B4.out.size))
  have G5 := Lib.hid ((b5.block w.heap.size (Array.getElem?_eq_some_iff.1 G4.out).1).trans G4.out)
  have X5 := Lib.hid ((b5.block tx (Array.getElem?_eq_some_iff.1 X4.out).1).trans X4.out)
  have HX5 := Lib.hid (HX4.out.keep b5)
  have a6 := (Below.refl w5.heap.size w5).alloc (Nat.le_refl _) (.cells #[.int .i64 g.v, .slice ya yn yc, .int .i64 g.z, .int .u32 g.c] 25)
  have B6 := Lib.hid (B5.out.trans (a6.mono B5.out.size))
  have G6 := Lib.hid ((a6.block w.heap.size (Array.getElem?_eq_some_iff.1 G5.out).1).trans G5.out)
  have X6 := Lib.hid ((a6.block tx (Array.getElem?_eq_some_iff.1 X5.out).1).trans X5.out)
  have Y6 := Lib.hid (heap_alloc_new w5 (.cells #[.int .i64 g.v, .slice ya yn yc, .int .i64 g.z, .int .u32 g.c] 25))
  have HX6 := Lib.hid (HX5.out.keep a6)
  have HY6 := Lib.hid (hv5.keep a6)
  clear a6 hv5 b5
  unfold mnVal
  dsimp only
  go_wp2_with fail
  obtain ⟨ty, hty⟩ : ∃ ty, w5.heap.size = ty := ⟨_, rfl⟩
  rw [hty] at Y6 ⊢
  generalize w5.alloc (.cells #[.int .i64 g.v, .slice ya yn yc, .int .i64 g.z, .int .u32 g.c] 25) = w6 at *
  clear hty
  obtain ⟨p0, p1, p2, p3⟩ := cells4 G6.out
  obtain ⟨q0, q1, q2, q3⟩ := cells4 X6.out
  obtain ⟨r0, r1, r2, r3⟩ := cells4 Y6.out
  have ST : w6.cell? ⟨w.heap.size, 0, none⟩ = some (.int .i64 m.v) ∧ w6.cell? ⟨w.heap.size, 1, none⟩ = some (.slice fa fn fc) ∧ w6.cell? ⟨w.heap.size, 2, none⟩ = some (.int .i64 m.z) ∧ w6.cell? ⟨w.heap.size, 3, none⟩ = some (.int .u32 m.c) ∧ w6.cell? ⟨tx, 0, none⟩ = some (.int .i64 g.v) ∧ w6.cell? ⟨tx, 1, none⟩ = some (.slice xa xn xc) ∧ w6.cell? ⟨tx, 2, none⟩ = some (.int .i64 g.z) ∧ w6.cell? ⟨tx, 3, none⟩ = some (.int .u32 g.c) ∧ w6.cell? ⟨ty, 0, none⟩ = some (.int .i64 g.v) ∧ w6.cell? ⟨ty, 1, none⟩ = some (.slice ya yn yc) ∧ w6.cell? ⟨ty, 2, none⟩ = some (.int .i64 g.z) ∧ w6.cell? ⟨ty, 3, none⟩ = some (.int .u32 g.c) ∧ Below w6.heap.size w6 w6 := ⟨p0, p1, p2, p3, q0, q1, q2, q3, r0, r1, r2, r3, Below.refl _ _⟩
  have SM := fun (W : World) (h : W.cell? ⟨w.heap.size, 0, none⟩ = some (.int .i64 m.v) ∧ W.cell? ⟨w.heap.size, 1, none⟩ = some (.slice fa fn fc) ∧ W.cell? ⟨w.heap.size, 2, none⟩ = some (.int .i64 m.z) ∧ W.cell? ⟨w.heap.size, 3, none⟩ = some (.int .u32 m.c) ∧ W.cell? ⟨tx, 0, none⟩ = some (.int .i64 g.v) ∧ W.cell? ⟨tx, 1, none⟩ = some (.slice xa xn xc) ∧ W.cell? ⟨tx, 2, none⟩ = some (.int .i64 g.z) ∧ W.cell? ⟨tx, 3, none⟩ = some (.int .u32 g.c) ∧ W.cell? ⟨ty, 0, none⟩ = some (.int .i64 g.v) ∧ W.cell? ⟨ty, 1, none⟩ = some (.slice ya yn yc) ∧ W.cell? ⟨ty, 2, none⟩ = some (.int .i64 g.z) ∧ W.cell? ⟨ty, 3, none⟩ = some (.int .u32 g.c) ∧ Below w6.heap.size w6 W) => rsame10_yes xa ya xn xc yn yc g W (HX6.out.keep (c12 h)) (HY6.out.keep (c12 h))
  have RT1 := fun (W : World) (h : W.cell? ⟨w.heap.size, 0, none⟩ = some (.int .i64 m.v) ∧ W.cell? ⟨w.heap.size, 1, none⟩ = some (.slice fa fn fc) ∧ W.cell? ⟨w.heap.size, 2, none⟩ = some (.int .i64 m.z) ∧ W.cell? ⟨w.heap.size, 3, none⟩ = some (.int .u32 m.c) ∧ W.cell? ⟨tx, 0, none⟩ = some (.int .i64 g.v) ∧ W.cell? ⟨tx, 1, none⟩ = some (.slice xa xn xc) ∧ W.cell? ⟨tx, 2, none⟩ = some (.int .i64 g.z) ∧ W.cell? ⟨tx, 3, none⟩ = some (.int .u32 g.c) ∧ W.cell? ⟨ty, 0, none⟩ = some (.int .i64 g.v) ∧ W.cell? ⟨ty, 1, none⟩ = some (.slice ya yn yc) ∧ W.cell? ⟨ty, 2, none⟩ = some (.int .i64 g.z) ∧ W.cell? ⟨ty, 3, none⟩ = some (.int .u32 g.c) ∧ Below w6.heap.size w6 W) => RT.out W (B6.out.trans ((c12 h).mono B6.out.size))
  have RR1 := fun (W : World) (h : W.cell? ⟨w.heap.size, 0, none⟩ = some (.int .i64 m.v) ∧ W.cell? ⟨w.heap.size, 1, none⟩ = some (.slice fa fn fc) ∧ W.cell? ⟨w.heap.size, 2, none⟩ = some (.int .i64 m.z) ∧ W.cell? ⟨w.heap.size, 3, none⟩ = some (.int .u32 m.c) ∧ W.cell? ⟨tx, 0, none⟩ = some (.int .i64 g.v) ∧ W.cell? ⟨tx, 1, none⟩ = some (.slice xa xn xc) ∧ W.cell? ⟨tx, 2, none⟩ = some (.int .i64 g.z) ∧ W.cell? ⟨tx, 3, none⟩ = some (.int .u32 g.c) ∧ W.cell? ⟨ty, 0, none⟩ = some (.int .i64 g.v) ∧ W.cell? ⟨ty, 1, none⟩ = some (.slice ya yn yc) ∧ W.cell? ⟨ty, 2, none⟩ = some (.int .i64 g.z) ∧ W.cell? ⟨ty, 3, none⟩ = some (.int .u32 g.c) ∧ Below w6.heap.size w6 W) => RR.out W (B6.out.trans ((c12 h).mono B6.out.size))
  unfold mnVal at SM
  replace SM := Lib.hid SM
  replace RT1 := Lib.hid RT1
  replace RR1 := Lib.hid RR1
  clear p0 p1 p2 p3 q0 q1 q2 q3 r0 r1 r2 r3
  go_region_held3 (fun w' => w'.cell? ⟨w.heap.size, 0, none⟩ = some (.int .i64 m.v) ∧ w'.cell? ⟨w.heap.size, 1, none⟩ = some (.slice fa fn fc) ∧ w'.cell? ⟨w.heap.size, 2, none⟩ = some (.int .i64 m.z) ∧ w'.cell? ⟨w.heap.size, 3, none⟩ = some (.int .u32 m.c) ∧ w'.cell? ⟨tx, 0, none⟩ = some (.int .i64 g.v) ∧ w'.cell? ⟨tx, 1, none⟩ = some (.slice xa xn xc) ∧ w'.cell? ⟨tx, 2, none⟩ = some (.int .i64 g.z) ∧ w'.cell? ⟨tx, 3, none⟩ = some (.int .u32 g.c) ∧ w'.cell? ⟨ty, 0, none⟩ = some (.int .i64 g.v) ∧ w'.cell? ⟨ty, 1, none⟩ = some (.slice ya yn yc) ∧ w'.cell? ⟨ty, 2, none⟩ = some (.int .i64 g.z) ∧ w'.cell? ⟨ty, 3, none⟩ = some (.int .u32 g.c) ∧ Below w6.heap.size w6 w')
    (first | assumption | exact k12 (by assumption) (Below.refl _ _).drew | exact k12 (by assumption) (by assumption))
    (first | (go_at_call 6; refine (AW.out _).mono ?_; rintro e w16 ⟨rfl, b16⟩) | (go_at_call 13; refine (SM.out _ (by assumption)).mono ?_; rintro e w17 ⟨rfl, b17⟩) | (go_at_call 11; refine (RT1.out _ (by assumption)).mono ?_; rintro e w18 ⟨rfl, b18⟩) | (go_at_call 12; refine (RR1.out _ (by assumption)).mono ?_; rintro e w19 ⟨rfl, b19⟩))
  go_wp2_with fail
  go_ret
  rename_i qq
  exact ⟨by first | rfl | simp, B6.out.trans ((c12 qq).mono B6.out.size)⟩

theorem tells10 (fa : Option Addr) (fn fc : Nat) (m : Mn) (s : ByteArray) (w : World) (hv : IsL IL w (.slice fa fn fc) m.l) (hB : MnB m) :
    Calls Try.prog 3 #[mnVal fa fn fc m, .string s] w fun e w' => e = .returned (.bool true) ∧ Below w.heap.size w w' := by
  by_cases h : 100 < fn ∨ (fn ≤ 100 ∧ 1000 < s.size)
  · exact tells10_far fa fn fc m s w h
  · exact tells10_near fa fn fc m s w hv hB (by omega) (by omega)

end Go.Proofs.Ytcogeflljcefjaa.Mfs
