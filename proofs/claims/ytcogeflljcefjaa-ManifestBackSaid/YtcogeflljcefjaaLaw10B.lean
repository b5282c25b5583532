/-
  ManifestBack holds.
-/
import Derived.Test.YtcogeflljcefjaaLaw10A
import Derived.Laws.StructEq
namespace Go.Proofs.Ytcogeflljcefjaa.Mfs
open Go.RowKit Go.Proofs.Ytcogeflljcefjaa.Qm

set_option maxRecDepth 100000 in
set_option maxHeartbeats 1600000 in
theorem back10_far (fa : Option Addr) (fn fc : Nat) (m : Mn) (ct : Int) (w : World) (hfar : 100 < fn) :
    Calls Try.prog 5 #[mnVal fa fn fc m, .int .u16 ct] w fun e w' => e = .returned (.bool true) ∧ Below w.heap.size w w' := by
  have HA := Lib.hid ((Below.refl w.heap.size w).alloc (Nat.le_refl _) (.cells #[.int .i64 m.v, .slice fa fn fc, .int .i64 m.z, .int .u32 m.c] 25))
  have AW := Lib.hid awake10
  have hf : (100 : Int) < (fn : Int) := by omega
  clear hfar
  unfold mnVal
  go_enter Try.func5, Try.ntmps5
  go_wp2_with fail
  refine (AW.out _).mono ?_
  rintro e w1 ⟨rfl, b1⟩
  have B1 := Lib.hid (HA.out.trans (b1.mono HA.out.size))
  clear b1
  go_wp2_with fail
  go_ret
  exact ⟨rfl, B1.out⟩

set_option maxRecDepth 100000 in
set_option maxHeartbeats 1600000 in
theorem back10_no (fa : Option Addr) (fn fc : Nat) (m : Mn) (ct : Int) (w : World) (hv : IsL IL w (.slice fa fn fc) m.l) (hB : MnB m) (hn : fn ≤ 100) (h : ¬ Ok m) :
    Calls Try.prog 5 #[mnVal fa fn fc m, .int .u16 ct] w fun e w' => e = .returned (.bool true) ∧ Below w.heap.size w w' := by
  have HA := Lib.hid ((Below.refl w.heap.size w).alloc (Nat.le_refl _) (.cells #[.int .i64 m.v, .slice fa fn fc, .int .i64 m.z, .int .u32 m.c] 25))
  have G0 := Lib.hid (heap_alloc_new w (.cells #[.int .i64 m.v, .slice fa fn fc, .int .i64 m.z, .int .u32 m.c] 25))
  have AW := Lib.hid awake10
  have PT := fun (W : World) (hb : Below w.heap.size w W) => put10_any fa fn fc m W (hv.keep hb) hB
  have RT := fun (W : World) (hb : Below w.heap.size w W) => right10_any fa fn fc m false W (hv.keep hb) hB ⟨(fun h => by cases h), fun hk => absurd hk h⟩
  unfold mnVal putVal10 at PT
  unfold mnVal at RT
  rw [putM_no h] at PT
  dsimp only at PT
  replace PT := Lib.hid PT
  replace RT := Lib.hid RT
  have hf : ¬ (100 : Int) < (fn : Int) := by omega
  clear hn hv h
  unfold mnVal
  go_enter Try.func5, Try.ntmps5
  go_wp2_with fail
  refine (PT.out _ HA.out).mono ?_
  rintro e w1 ⟨rfl, b1⟩
  have B1 := Lib.hid (HA.out.trans (b1.mono HA.out.size))
  have G1 := Lib.hid ((b1.block w.heap.size (Array.getElem?_eq_some_iff.1 G0.out).1).trans G0.out)
  obtain ⟨x0, x1, x2, x3⟩ := cells4 G1.out
  clear b1 G0
  go_wp2_with fail
  refine (RT.out _ B1.out).mono ?_
  rintro e w2 ⟨rfl, b2⟩
  have B2 := Lib.hid (B1.out.trans (b2.mono B1.out.size))
  clear b2 x0 x1 x2 x3
  go_wp2_with fail
  refine (AW.out _).mono ?_
  rintro e w3 ⟨rfl, b3⟩
  have B3 := Lib.hid (B2.out.trans (b3.mono B2.out.size))
  clear b3
  go_wp2_with fail
  go_ret
  exact ⟨by first | rfl | simp, B3.out⟩

set_option maxRecDepth 100000 in
set_option maxHeartbeats 3200000 in
theorem back10_yes (fa : Option Addr) (fn fc : Nat) (m : Mn) (ct : Nat) (w : World) (hv : IsL IL w (.slice fa fn fc) m.l) (hB : MnB m) (h : Ok m) (hct : ct ≤ 65535) :
    Calls Try.prog 5 #[mnVal fa fn fc m, .int .u16 ct] w fun e w' => e = .returned (.bool true) ∧ Below w.heap.size w w' := by
  have HA := Lib.hid ((Below.refl w.heap.size w).alloc (Nat.le_refl _) (.cells #[.int .i64 m.v, .slice fa fn fc, .int .i64 m.z, .int .u32 m.c] 25))
  have G0 := Lib.hid (heap_alloc_new w (.cells #[.int .i64 m.v, .slice fa fn fc, .int .i64 m.z, .int .u32 m.c] 25))
  have AW := Lib.hid awake10
  have PT := fun (W : World) (hb : Below w.heap.size w W) => put10_any fa fn fc m W (hv.keep hb) hB
  have RT := fun (W : World) (hb : Below w.heap.size w W) => right10_any fa fn fc m true W (hv.keep hb) hB ⟨fun _ => h, fun _ => rfl⟩
  unfold mnVal putVal10 at PT
  unfold mnVal at RT
  rw [putM_yes h] at PT
  dsimp only at PT
  have hmay := body_may h
  obtain ⟨A, hA⟩ : ∃ A : ByteArray, (⟨(Fr.fr (body m)).toArray⟩ : ByteArray) = A := ⟨_, rfl⟩
  have hAl : A.data.toList = Fr.fr (body m) := by rw [← hA]
  have hz : A.size = (Fr.fr (body m)).length := by rw [← hAl]; rfl
  have hz1 : 0 < A.size ∧ A.size ≤ 70000 := by rw [hz, Fr.fr_len]; have := put_le9 (body m).length; have := hmay.2; omega
  have GT := fun W : World => get10_any A W (by omega)
  rw [hAl, getM_yes h] at GT
  have GC := fun (k : Nat) (hk : k < A.size) (W : World) => (show Calls Try.prog 9 #[.string (A.extract 0 k)] W (GetOut10 W (zero, 2)) from by
    have e : (A.extract 0 k).data.toList = (Fr.fr (body m)).take k := by
      have := ext_list A 0 k
      rw [this, hAl]
      simp
    have := get10_any (A.extract 0 k) W (by rw [show (A.extract 0 k).size = (A.extract 0 k).data.toList.length from rfl, e, List.length_take]; omega)
    rw [e, getM_cut h (by rw [← hz]; exact hk)] at this
    exact this)
  rw [hA] at PT
  have hfn : fn ≤ 64 := by rw [hv.len.1]; exact h.n1
  have hf : ¬ (100 : Int) < (fn : Int) := by omega
  have hne0 : (A.size : Int) ≠ 0 := by omega
  replace PT := Lib.hid PT
  replace RT := Lib.hid RT
  replace GT := Lib.hid GT
  replace GC := Lib.hid GC
  have HV := Lib.hid hv
  clear hv h hA hAl hz hfn hmay
  unfold mnVal
  go_enter Try.func5, Try.ntmps5
  go_wp2_with fail
  refine (PT.out _ HA.out).mono ?_
  rintro e w1 ⟨rfl, b1⟩
  have B1 := Lib.hid (HA.out.trans (b1.mono HA.out.size))
  have G1 := Lib.hid ((b1.block w.heap.size (Array.getElem?_eq_some_iff.1 G0.out).1).trans G0.out)
  obtain ⟨x0, x1, x2, x3⟩ := cells4 G1.out
  clear b1 G0
  go_wp2_with fail
  refine (RT.out _ B1.out).mono ?_
  rintro e w2 ⟨rfl, b2⟩
  have B2 := Lib.hid (B1.out.trans (b2.mono B1.out.size))
  have G2 := Lib.hid ((b2.block w.heap.size (Array.getElem?_eq_some_iff.1 G1.out).1).trans G1.out)
  clear b2 x0 x1 x2 x3
  go_wp2_with fail
  refine (GT.out _).mono ?_
  rintro e w3 ⟨a, n, c, rfl, hv3, b3⟩
  have B3 := Lib.hid (B2.out.trans (b3.mono B2.out.size))
  have G3 := Lib.hid ((b3.block w.heap.size (Array.getElem?_eq_some_iff.1 G2.out).1).trans G2.out)
  have HV3 := Lib.hid hv3
  have hne : ((A.size : Int) == 0) = false := by simpa using hne0
  have B4 := Lib.hid (B3.out.alloc B3.out.size (.cells #[.int .i64 m.v, .slice a n c, .int .i64 m.z, .int .u32 m.c] 25))
  have SM := Lib.hid (fun W (hb : Below w3.heap.size w3 W) => rsame10_yes fa a fn fc n c m W ((HV.out.keep B3.out).keep hb) (HV3.out.keep hb))
  have hb4 := (Below.refl w3.heap.size w3).alloc (Nat.le_refl _) (.cells #[.int .i64 m.v, .slice a n c, .int .i64 m.z, .int .u32 m.c] 25)
  obtain ⟨x0, x1, x2, x3⟩ := cells4 ((hb4.block w.heap.size (Array.getElem?_eq_some_iff.1 G3.out).1).trans G3.out)
  obtain ⟨y0, y1, y2, y3⟩ := cells4 (heap_alloc_new w3 (.cells #[.int .i64 m.v, .slice a n c, .int .i64 m.z, .int .u32 m.c] 25))
  have HB4 := Lib.hid hb4
  unfold mnVal at SM ⊢
  replace SM := Lib.hid (SM.out _ hb4)
  clear b3 hv3 hb4
  dsimp only
  go_wp2_with fail
  refine SM.out.mono ?_
  rintro e w5 ⟨rfl, b5⟩
  have B5 := Lib.hid (B4.out.trans (b5.mono B4.out.size))
  clear b5 x0 x1 x2 x3 y0 y1 y2 y3
  obtain ⟨kk, hkk⟩ : ∃ kk, ct % A.size = kk := ⟨_, rfl⟩
  have hk1 : kk < A.size := by rw [← hkk]; exact Nat.mod_lt _ hz1.1
  have hk2 : Int.tmod (ct : Int) (A.size : Int) = (kk : Int) := by rw [Int.tmod_eq_emod_of_nonneg (by omega), ← hkk]; rfl
  have hk3 : IntKind.i64.wrap (kk : Int) = (kk : Int) := IntWalk.i64_in _ ⟨by omega, by omega⟩
  have hk4 : (kk : Int) ≤ (A.size : Int) := by omega
  have GC1 := Lib.hid fun W => GC.out kk hk1 W
  clear hkk
  go_wp2_with fail
  refine (GC1.out _).mono ?_
  rintro e w6 ⟨a6, n6, c6, rfl, hv6, b6⟩
  have B6 := Lib.hid ((B5.out.trans (b6.mono B5.out.size)).alloc (Nat.le_trans B5.out.size b6.size) (.cells #[.int .i64 0, .slice a6 n6 c6, .int .i64 0, .int .u32 0] 25))
  unfold mnVal zero
  dsimp only
  clear b6 hv6
  go_wp2_with fail
  refine (AW.out _).mono ?_
  rintro e w7 ⟨rfl, b7⟩
  have B7 := Lib.hid (B6.out.trans (b7.mono B6.out.size))
  clear b7
  go_wp2_with fail
  go_ret
  exact ⟨by first | rfl | simp, B7.out⟩

theorem back10 (fa : Option Addr) (fn fc : Nat) (m : Mn) (ct : Int) (w : World) (hv : IsL IL w (.slice fa fn fc) m.l) (hB : MnB m) (h0 : 0 ≤ ct) (h1 : ct ≤ 65535) :
    Calls Try.prog 5 #[mnVal fa fn fc m, .int .u16 ct] w fun e w' => e = .returned (.bool true) ∧ Below w.heap.size w w' := by
  by_cases hn : fn ≤ 100
  · by_cases h : Ok m
    · obtain ⟨c, rfl⟩ : ∃ c : Nat, ct = (c : Int) := ⟨ct.toNat, by omega⟩
      exact back10_yes fa fn fc m c w hv hB h (by omega)
    · exact back10_no fa fn fc m ct w hv hB hn h
  · exact back10_far fa fn fc m ct w (by omega)

end Go.Proofs.Ytcogeflljcefjaa.Mfs
