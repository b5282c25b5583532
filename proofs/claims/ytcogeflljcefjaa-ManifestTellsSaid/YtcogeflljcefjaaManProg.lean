/-
  What the program's Get of layer 10 answers of any text; with MrRight and MrPut: what the program's three functions answer.
-/
import Derived.Test.YtcogeflljcefjaaMrPut
import Derived.Test.YtcogeflljcefjaaMrMan
import Derived.Test.YtcogeflljcefjaaManGet2
import Derived.Test.YtcogeflljcefjaaManSame
namespace Go.Proofs.Ytcogeflljcefjaa.Mfs
open Go.RowKit Go.Proofs.Ytcogeflljcefjaa.Qm

set_option maxRecDepth 100000 in
set_option maxHeartbeats 1600000 in
theorem get10_err (s : ByteArray) (er : Nat) (w : World) (hs : s.size ≤ 140737488351232) (he : Fr.nx s.data.toList = (er, 0, [])) (h3 : er = 2 ∨ er = 3 ∨ er = 4) :
    Calls Try.prog 9 #[.string s] w (GetOut10 w (getM s.data.toList)) := by
  rw [getM_err he (by omega)]
  have C := fun W : World => fnext_any s 0 W hs
  rw [show (0 : Int) = ((0 : Nat) : Int) from rfl, nxAt_in, nxVal_no (k := 0) he (by omega)] at C
  replace C := Lib.hid C
  have HA := Lib.hid ((Below.refl w.heap.size w).alloc (Nat.le_refl _) (.cells #[.int .i64 0, .slice none 0 0, .int .i64 0, .int .u32 0] 25))
  have G0 := Lib.hid (heap_alloc_new w (.cells #[.int .i64 0, .slice none 0 0, .int .i64 0, .int .u32 0] 25))
  clear he
  rcases h3 with rfl | rfl | rfl
  all_goals
    go_enter Try.func9, Try.ntmps9
    go_wp2_with fail
    refine (C.out _).mono ?_
    rintro e w1 ⟨rfl, b1⟩
    have G1 := Lib.hid ((b1.block w.heap.size (Array.getElem?_eq_some_iff.1 G0.out).1).trans G0.out)
    have B1 := Lib.hid (HA.out.trans (b1.mono HA.out.size))
    obtain ⟨z0, z1, z2, z3⟩ := cells4 G1.out
    obtain ⟨f0, f1, f2, f3⟩ := frozen4 G1.out
    clear b1
    go_wp2_with fail
    refine bodyPost_ret (v := .tuple #[.agg #[.int .i64 0, .slice none 0 0, .int .i64 0, .int .u32 0], .int .i64 _]) (by simp [results, Try.results9, go_sem, z0, z1, z2, z3]; rfl) rfl ?_
    exact GetOut10.mk0 _ (bel_st4 B1.out (Nat.le_refl _) _ _ _ _)

theorem manR_b (l : List UInt8) (b : Bool) : MnB (manR l b).1 := by
  unfold manR
  dsimp only
  exact ⟨by have := numR_in l b; exact ⟨by dsimp only; omega, this.2.1⟩, by
    have := numR_in (segsR (numR l b).2.1 (numR l b).2.2).2.1 (segsR (numR l b).2.1 (numR l b).2.2).2.2
    exact ⟨by dsimp only; omega, this.2.1⟩, sumR_in _ _⟩

set_option maxRecDepth 100000 in
set_option maxHeartbeats 3200000 in
theorem get10_form (s : ByteArray) (j : Nat) (b : List UInt8) (w : World) (hs : s.size ≤ 140737488351232) (he : Fr.nx s.data.toList = (0, j, b)) (hbm : Fr.May b.length) :
    Calls Try.prog 9 #[.string s] w (GetOut10 w (getM s.data.toList)) := by
  have C := fun W : World => fnext_any s 0 W hs
  rw [show (0 : Int) = ((0 : Nat) : Int) from rfl, nxAt_in, nxVal_yes (k := 0) he, Nat.zero_add] at C
  replace C := Lib.hid C
  have HA := Lib.hid ((Below.refl w.heap.size w).alloc (Nat.le_refl _) (.cells #[.int .i64 0, .slice none 0 0, .int .i64 0, .int .u32 0] 25))
  have G0 := Lib.hid (heap_alloc_new w (.cells #[.int .i64 0, .slice none 0 0, .int .i64 0, .int .u32 0] 25))
  have HE := Lib.hid he
  have MR := Lib.hid fun (r : Nat) (W : World) (h : RD r b false W) => manifest_any r b false W h (by have := hbm.2; omega)
  obtain ⟨BS, hBS⟩ : ∃ BS : ByteArray, (⟨b.toArray⟩ : ByteArray) = BS := ⟨_, rfl⟩
  rw [hBS] at C
  have HBS := Lib.hid hBS
  clear he hbm hBS
  go_enter Try.func9, Try.ntmps9
  go_wp2_with fail
  refine (C.out _).mono ?_
  rintro e w1 ⟨rfl, b1⟩
  have G1 := Lib.hid ((b1.block w.heap.size (Array.getElem?_eq_some_iff.1 G0.out).1).trans G0.out)
  have B1 := Lib.hid (HA.out.trans (b1.mono HA.out.size))
  have hs1 := B1.out.size
  clear b1 G0 HA
  go_wp2_with fail
  have R0 : RD w1.heap.size b false (w1.alloc (.cells #[.string BS, .bool false] 44)) := by
    rw [← HBS.out]
    exact heap_alloc_new w1 _
  refine (MR.out w1.heap.size _ R0).mono ?_
  obtain ⟨m, hm⟩ : ∃ m, (manR b false).1 = m := ⟨_, rfl⟩
  obtain ⟨l4, hl4⟩ : ∃ l4, (manR b false).2.1 = l4 := ⟨_, rfl⟩
  obtain ⟨b4, hb4⟩ : ∃ b4, (manR b false).2.2 = b4 := ⟨_, rfl⟩
  have HNO := Lib.hid fun (h : b4 = true ∨ l4 ≠ [] ∨ j < s.data.toList.length ∨ ¬ Ok m) => getM_no2 HE.out (by rw [hm, hl4, hb4]; exact h)
  have HYE := Lib.hid fun (h1 : b4 = false) (h2 : l4 = []) (h3 : ¬ j < s.data.toList.length) (h4 : Ok m) => getM_yes2 HE.out (by rw [hb4]; exact h1) (by rw [hl4]; exact h2) h3 (by rw [hm]; exact h4)
  have HMB := Lib.hid (show MnB m by rw [← hm]; exact manR_b b false)
  rw [hm] at HYE
  rw [hm, hl4, hb4]
  clear hm hl4 hb4
  rintro e w3 ⟨sa, sn, sc, rfl, hi3, ho3, h3, g3⟩
  have B3 := Lib.hid ((B1.out.alloc hs1 (.cells #[.string BS, .bool false] 44)).grown g3 (by simp; omega) (fun k hk => by injection hk with hk; omega))
  have HI3 := Lib.hid hi3
  have H3 := Lib.hid h3
  have HOW := Lib.hid (show ∀ q, (Value.slice sa sn sc).ownBlock = some q → w.heap.size < q from fun q hq => by have := ho3 q hq; simp at this; have := (Array.getElem?_eq_some_iff.1 G1.out).1; omega)
  have hlt : w.heap.size < w1.heap.size := (Array.getElem?_eq_some_iff.1 G1.out).1
  have G3 := Lib.hid (((g3.block w.heap.size (by simp; omega) (fun e => by injection e with e; omega)).trans (Below.heap_alloc w1 _ _ hlt)).trans G1.out)
  have hs3 := g3.size
  clear hi3 ho3 h3 g3 R0
  unfold mnVal
  have A4 := Lib.hid ((Below.refl w3.heap.size w3).alloc (Nat.le_refl _) (.cells #[.int .i64 m.v, .slice sa sn sc, .int .i64 m.z, .int .u32 m.c] 25))
  have G4 := Lib.hid (heap_alloc_new w3 (.cells #[.int .i64 m.v, .slice sa sn sc, .int .i64 m.z, .int .u32 m.c] 25))
  have H4 := Lib.hid (H3.out.keep A4.out)
  have RS4 := Lib.hid ((A4.out.block w.heap.size (Array.getElem?_eq_some_iff.1 G3.out).1).trans G3.out)
  have HI4 := Lib.hid (HI3.out.keep A4.out)
  have B4 := Lib.hid (B3.out.trans (A4.out.mono B3.out.size))
  obtain ⟨r0, r1, r2, r3⟩ := cells4 G4.out
  obtain ⟨d0, d1, e0, e1⟩ := H4.out.cells
  obtain ⟨z0, z1, z2, z3⟩ := cells4 RS4.out
  obtain ⟨f0, f1, f2, f3⟩ := frozen4 RS4.out
  have hne : w1.heap.size ≠ w3.heap.size := by have := H3.out.lt; omega
  have HZ := Lib.hid (show s.data.toList.length = s.size from rfl)
  cases b4 with
  | true =>
    have HF := Lib.hid (HNO.out (.inl rfl))
    go_wp2_with fail
    refine bodyPost_ret (v := .tuple #[.agg #[.int .i64 0, .slice none 0 0, .int .i64 0, .int .u32 0], .int .i64 3]) (by simp [results, Try.results9, go_sem, z0, z1, z2, z3]) rfl ?_
    rw [HF.out]
    exact GetOut10.mk0 3 (bel_st4 B4.out (Nat.le_refl _) _ _ _ _)
  | false =>
    by_cases hl : l4 = []
    case neg =>
      have HF := Lib.hid (HNO.out (.inr (.inl hl)))
      obtain ⟨X, hX⟩ : ∃ X : ByteArray, (⟨l4.toArray⟩ : ByteArray) = X := ⟨_, rfl⟩
      have hq : X.toList.isEmpty = false := by
        rw [ByteArray.toList_eq, ← hX]
        cases l4 with
        | nil => exact absurd rfl hl
        | cons x t => rfl
      rw [hX] at d0
      clear hl
      go_wp2_with fail
      refine bodyPost_ret (v := .tuple #[.agg #[.int .i64 0, .slice none 0 0, .int .i64 0, .int .u32 0], .int .i64 3]) (by simp [results, Try.results9, go_sem, z0, z1, z2, z3]) rfl ?_
      rw [HF.out]
      exact GetOut10.mk0 3 (bel_st4 B4.out (Nat.le_refl _) _ _ _ _)
    subst hl
    by_cases hj : j < s.size
    · have HF := Lib.hid (HNO.out (.inr (.inr (.inl hj))))
      have hj2 : (j : Int) < (s.size : Int) := by omega
      go_wp2_with fail
      refine bodyPost_ret (v := .tuple #[.agg #[.int .i64 0, .slice none 0 0, .int .i64 0, .int .u32 0], .int .i64 3]) (by simp [results, Try.results9, go_sem, z0, z1, z2, z3]) rfl ?_
      rw [HF.out]
      exact GetOut10.mk0 3 (bel_st4 B4.out (Nat.le_refl _) _ _ _ _)
    have hj2 : decide ((j : Int) < (s.size : Int)) = false := by simp; omega
    by_cases hok : Ok m
    case neg =>
      have HF := Lib.hid (HNO.out (.inr (.inr (.inr hok))))
      have RR := right10_any sa sn sc m false _ HI4.out HMB.out ⟨(fun h => by cases h), fun hk => absurd hk hok⟩
      unfold mnVal at RR
      replace RR := Lib.hid RR
      clear hok
      go_wp2_with fail
      refine RR.out.mono ?_
      rintro e w5 ⟨rfl, b5⟩
      have RS5 := Lib.hid ((b5.block w.heap.size (Array.getElem?_eq_some_iff.1 RS4.out).1).trans RS4.out)
      have B5 := Lib.hid (B4.out.trans (b5.mono B4.out.size))
      clear b5 z0 z1 z2 z3 f0 f1 f2 f3 r0 r1 r2 r3 d0 d1 e0 e1
      obtain ⟨z0, z1, z2, z3⟩ := cells4 RS5.out
      obtain ⟨f0, f1, f2, f3⟩ := frozen4 RS5.out
      go_wp2_with fail
      refine bodyPost_ret (v := .tuple #[.agg #[.int .i64 0, .slice none 0 0, .int .i64 0, .int .u32 0], .int .i64 3]) (by simp [results, Try.results9, go_sem, z0, z1, z2, z3]) rfl ?_
      rw [HF.out]
      exact GetOut10.mk0 3 (bel_st4 B5.out (Nat.le_refl _) _ _ _ _)
    · have HF := Lib.hid (HYE.out rfl rfl hj hok)
      have RR := right10_any sa sn sc m true _ HI4.out HMB.out ⟨fun _ => hok, fun _ => rfl⟩
      unfold mnVal at RR
      replace RR := Lib.hid RR
      clear hok
      go_wp2_with fail
      refine RR.out.mono ?_
      rintro e w5 ⟨rfl, b5⟩
      have RS5 := Lib.hid ((b5.block w.heap.size (Array.getElem?_eq_some_iff.1 RS4.out).1).trans RS4.out)
      have G5 := Lib.hid ((b5.block w3.heap.size (Array.getElem?_eq_some_iff.1 G4.out).1).trans G4.out)
      have B5 := Lib.hid (B4.out.trans (b5.mono B4.out.size))
      have HI5 := Lib.hid (HI4.out.keep b5)
      have hwne : w.heap.size ≠ w3.heap.size := by have := (Array.getElem?_eq_some_iff.1 G3.out).1; omega
      clear b5 z0 z1 z2 z3 f0 f1 f2 f3 r0 r1 r2 r3 d0 d1 e0 e1
      obtain ⟨z0, z1, z2, z3⟩ := cells4 RS5.out
      obtain ⟨r0, r1, r2, r3⟩ := cells4 G5.out
      obtain ⟨f0, f1, f2, f3⟩ := frozen4 RS5.out
      go_wp2_with fail
      refine bodyPost_ret (v := .tuple #[.agg #[.int .i64 m.v, .slice sa sn sc, .int .i64 m.z, .int .u32 m.c], .int .i64 0]) (by simp [results, Try.results9, go_sem, z0, z1, z2, z3]) rfl ?_
      rw [HF.out]
      refine ⟨sa, sn, sc, rfl, ?_, bel_st4 B5.out (Nat.le_refl _) _ _ _ _⟩
      have hg : w5.grownBy ((((w5.setCell ⟨w.heap.size, 0, none⟩ (.int .i64 m.v)).setCell ⟨w.heap.size, 1, none⟩ (.slice sa sn sc)).setCell ⟨w.heap.size, 2, none⟩ (.int .i64 m.z)).setCell ⟨w.heap.size, 3, none⟩ (.int .u32 m.c)) (some w.heap.size) :=
        grown_trans (grown_trans (grown_trans (grown_set w5 w.heap.size 0 _) (grown_set _ w.heap.size 1 _)) (grown_set _ w.heap.size 2 _)) (grown_set _ w.heap.size 3 _)
      exact isl_grown HI5.out (fun q hq => by have := HOW.out q hq; omega) hg

theorem get10_any (s : ByteArray) (w : World) (hs : s.size ≤ 140737488351232) :
    Calls Try.prog 9 #[.string s] w (GetOut10 w (getM s.data.toList)) := by
  rcases Fr.nx_cases s.data.toList with ⟨er, h, he⟩ | ⟨j, b, h, _, _, hb, _⟩
  · exact get10_err s er w hs h he
  · exact get10_form s j b w hs h hb

end Go.Proofs.Ytcogeflljcefjaa.Mfs
