/-
  ManifestFramed holds.
-/
import Derived.Test.YtcogeflljcefjaaLaw10A
import Derived.Laws.StructEq
namespace Go.Proofs.Ytcogeflljcefjaa.Mfs
open Go.RowKit Go.Proofs.Ytcogeflljcefjaa.Qm

/-- What stands behind a frame makes it none's. -/
theorem getM_behind {b t : List UInt8} (hb : Fr.May b.length) (ht : t ≠ []) : (getM (Fr.fr b ++ t)).2 = 3 := by
  have h1 := Fr.nx_fr b t hb
  rw [getM_no h1]
  rintro ⟨m, hm, e⟩
  have h2 := Fr.nx_fr (body m) [] (body_may hm)
  rw [List.append_nil] at h2
  replace h2 := h2.symm.trans ((congrArg Fr.nx e).trans h1)
  injection h2 with _ h2
  injection h2 with h2 _
  have h3 := congrArg List.length e
  rw [List.length_append, h2] at h3
  exact ht (List.length_eq_zero_iff.1 (by omega))

set_option maxRecDepth 100000 in
set_option maxHeartbeats 1600000 in
theorem framed10_far (s t : ByteArray) (w : World) (hs : s.size ≤ 140737488351232) (h : ¬ Fr.May s.size ∨ (Fr.May s.size ∧ (300 < s.size ∨ (s.size ≤ 300 ∧ 300 < t.size)))) :
    Calls Try.prog 4 #[.string s, .string t] w fun e w' => e = .returned (.bool true) ∧ Below w.heap.size w w' := by
  have AW := Lib.hid awake10
  have P : ∃ (F : ByteArray) (pe : Int), (∀ W : World, Calls Try.prog 14 #[.string s] W fun e w' => e = .returned (.tuple #[.string F, .int .i64 pe]) ∧ Below W.heap.size W w') ∧ (pe = 5 ∨ (pe = 0 ∧ ((300 : Int) < s.size ∨ (¬ (300 : Int) < s.size ∧ (300 : Int) < t.size)))) := by
    rcases h with h | ⟨h, h2⟩
    · refine ⟨⟨#[]⟩, 5, fun W => (rfput_no s W (by unfold maxLen; omega) h).mono ?_, .inl rfl⟩
      rintro e w' ⟨rfl, rfl⟩
      exact ⟨rfl, Below.refl _ _⟩
    · exact ⟨_, 0, fun W => rfput_yes s W h, .inr ⟨rfl, by omega⟩⟩
  obtain ⟨F, pe, PT, hc⟩ := P
  replace PT := Lib.hid PT
  clear h hs
  rcases hc with rfl | ⟨rfl, hf | ⟨hf, hg⟩⟩
  all_goals
    go_enter Try.func4, Try.ntmps4
    go_wp2_with fail
    refine (PT.out _).mono ?_
    rintro e w1 ⟨rfl, b1⟩
    have B1 := Lib.hid b1
    clear b1
    go_wp2_with fail
    refine (AW.out _).mono ?_
    rintro e w2 ⟨rfl, b2⟩
    have B2 := Lib.hid (B1.out.trans (b2.mono B1.out.size))
    clear b2
    go_wp2_with fail
    go_ret
    exact ⟨rfl, B2.out⟩

set_option maxRecDepth 100000 in
set_option maxHeartbeats 3200000 in
theorem framed10_near (s t : ByteArray) (w : World) (hm : Fr.May s.size) (hs : s.size ≤ 300) (ht : t.size ≤ 300) :
    Calls Try.prog 4 #[.string s, .string t] w fun e w' => e = .returned (.bool true) ∧ Below w.heap.size w w' := by
  have AW := Lib.hid awake10
  have PT := fun W : World => rfput_yes s W hm
  obtain ⟨F, hF⟩ : ∃ F : ByteArray, (⟨(Fr.fr s.data.toList).toArray⟩ : ByteArray) = F := ⟨_, rfl⟩
  have hFl : F.data.toList = Fr.fr s.data.toList := by rw [← hF]
  have hFz : F.size ≤ 400 := by
    rw [← hF, size_mk_list, Fr.fr_len]
    have := put_le9 s.data.toList.length
    have : s.data.toList.length = s.size := rfl
    omega
  rw [hF] at PT
  have hadd : (F ++ t).data.toList = Fr.fr s.data.toList ++ t.data.toList := by rw [← hFl]; simp
  have hz : (F ++ t).size ≤ 1000 := by rw [ByteArray.size_append]; omega
  have GT := fun W : World => get10_any (F ++ t) W (by omega)
  have RG := fun W : World => rget10_any (F ++ t) W (by omega)
  have hR : ¬ t = ⟨#[]⟩ → (getM (F ++ t).data.toList).2 = 3 := fun hne => by
    rw [hadd]
    exact getM_behind hm fun e => hne (ByteArray.ext (Array.ext' e))
  have s1 : ¬ 9223372036854775807 < F.size + t.size := by omega
  generalize getM (F ++ t).data.toList = R at GT RG hR
  obtain ⟨g, er⟩ := R
  dsimp only at hR
  have f1 : ¬ (300 : Int) < (s.size : Int) := by omega
  have f2 : ¬ (300 : Int) < (t.size : Int) := by omega
  replace PT := Lib.hid PT
  replace GT := Lib.hid GT
  replace RG := Lib.hid RG
  clear hm hs ht hF hFl hFz hadd hz
  have hcase : t = ⟨#[]⟩ ∨ (er = 3 ∧ (t.toList == (⟨#[]⟩ : ByteArray).toList) = false ∧ (t.toList == []) = false) := by
    by_cases h : t = ⟨#[]⟩
    · exact .inl h
    · have h2 : (t.toList == (⟨#[]⟩ : ByteArray).toList) = false := by
        rw [ByteArray.toList_eq, ByteArray.toList_eq, beq_eq_false_iff_ne]
        exact fun e => h (ByteArray.ext (Array.ext' e))
      refine .inr ⟨hR h, h2, ?_⟩
      rw [ByteArray.toList_eq, beq_eq_false_iff_ne]
      exact fun e => h (ByteArray.ext (Array.ext' e))
  clear hR
  rcases hcase with rfl | ⟨rfl, h1, h2⟩
  all_goals
    go_enter Try.func4, Try.ntmps4
    go_wp2_with fail
    refine (PT.out _).mono ?_
    rintro e w1 ⟨rfl, B1⟩
    have B1 := Lib.hid B1
    go_wp2_with fail
    refine (GT.out _).mono ?_
    rintro e w3 ⟨xa, xn, xc, rfl, hv3, b3⟩
    have B3 := Lib.hid (B1.out.trans (b3.mono B1.out.size))
    have a4 := (Below.refl w3.heap.size w3).alloc (Nat.le_refl _) (.cells #[.int .i64 g.v, .slice xa xn xc, .int .i64 g.z, .int .u32 g.c] 25)
    have B4 := Lib.hid (B3.out.trans (a4.mono B3.out.size))
    have X4 := Lib.hid (heap_alloc_new w3 (.cells #[.int .i64 g.v, .slice xa xn xc, .int .i64 g.z, .int .u32 g.c] 25))
    have HX4 := Lib.hid (hv3.keep a4)
    clear a4 hv3 b3
    unfold mnVal
    dsimp only
    go_wp2_with fail
    obtain ⟨tx, htx⟩ : ∃ tx, w3.heap.size = tx := ⟨_, rfl⟩
    rw [htx] at X4 ⊢
    generalize w3.alloc (.cells #[.int .i64 g.v, .slice xa xn xc, .int .i64 g.z, .int .u32 g.c] 25) = w4 at *
    clear htx
    refine (RG.out _).mono ?_
    rintro e w5 ⟨ya, yn, yc, rfl, hv5, b5⟩
    have B5 := Lib.hid (B4.out.trans (b5.mono B4.out.size))
    have X5 := Lib.hid ((b5.block tx (Array.getElem?_eq_some_iff.1 X4.out).1).trans X4.out)
    have HX5 := Lib.hid (HX4.out.keep b5)
    have a6 := (Below.refl w5.heap.size w5).alloc (Nat.le_refl _) (.cells #[.int .i64 g.v, .slice ya yn yc, .int .i64 g.z, .int .u32 g.c] 25)
    have B6 := Lib.hid (B5.out.trans (a6.mono B5.out.size))
    have X6 := Lib.hid ((a6.block tx (Array.getElem?_eq_some_iff.1 X5.out).1).trans X5.out)
    have Y6 := Lib.hid (heap_alloc_new w5 (.cells #[.int .i64 g.v, .slice ya yn yc, .int .i64 g.z, .int .u32 g.c] 25))
    have HX6 := Lib.hid (HX5.out.keep a6)
    have HY6 := Lib.hid (hv5.keep a6)
    clear a6 hv5 b5
    unfold mnVal
    dsimp only
    go_wp2_with fail
    obtain ⟨ty, hty⟩ : ∃ ty, w5.heap.size = ty := ⟨_, rfl⟩
    rw [hty] at Y6 ⊢
    generalize w5.alloc (.cells #[.int .i64 g.v, .slice ya yn yc, .int .i64 g.z, .int .u32 g.c] 25) = w6 at *
    clear hty
    refine (AW.out _).mono ?_
    rintro e w7 ⟨rfl, b7⟩
    have B7 := Lib.hid (B6.out.trans (b7.mono B6.out.size))
    obtain ⟨q0, q1, q2, q3⟩ := cells4 ((b7.block tx (Array.getElem?_eq_some_iff.1 X6.out).1).trans X6.out)
    obtain ⟨r0, r1, r2, r3⟩ := cells4 ((b7.block ty (Array.getElem?_eq_some_iff.1 Y6.out).1).trans Y6.out)
    have SM := rsame10_yes xa ya xn xc yn yc g w7 (HX6.out.keep b7) (HY6.out.keep b7)
    unfold mnVal at SM
    replace SM := Lib.hid SM
    clear b7
    go_wp2_with fail
    refine SM.out.mono ?_
    rintro e w8 ⟨rfl, b8⟩
    have B8 := Lib.hid (B7.out.trans (b8.mono B7.out.size))
    clear b8 q0 q1 q2 q3 r0 r1 r2 r3
    go_wp2_with fail
    go_ret
    exact ⟨by first | rfl | simp, B8.out⟩

theorem framed10 (s t : ByteArray) (w : World) (hs : s.size ≤ 140737488351232) :
    Calls Try.prog 4 #[.string s, .string t] w fun e w' => e = .returned (.bool true) ∧ Below w.heap.size w w' := by
  by_cases hm : Fr.May s.size
  · by_cases h : s.size ≤ 300 ∧ t.size ≤ 300
    · exact framed10_near s t w hm h.1 h.2
    · exact framed10_far s t w hs (.inr ⟨hm, by omega⟩)
  · exact framed10_far s t w hs (.inl hm)

end Go.Proofs.Ytcogeflljcefjaa.Mfs
