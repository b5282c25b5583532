/-
  RetainRises, walked.
-/
import Derived.Test.YtmbkgcmmajnidaaLaw11A
import Derived.Deep.RegionHeld3
import Derived.Deep.DeepCutAuto
namespace Go.Proofs.Ytmbkgcmmajnidaa.Rts
open Go.RowKit Go.Proofs.Ytmbkgcmmajnidaa.Rt

set_option maxRecDepth 100000 in
set_option maxHeartbeats 1600000 in
theorem rises11 (fa : Option Addr) (fn fc : Nat) (l : List Sg) (keep count a0 a1 : Int) (w : World) (hv : IsL SL w (.slice fa fn fc) l) (hc : fn ≤ fc) (h0 : -9223372036854775808 ≤ keep) (h1 : keep ≤ 9223372036854775807) (h2 : -9223372036854775808 ≤ count) (h3 : count ≤ 9223372036854775807)
    (ha0 : 0 ≤ a0) (ha1 : a0 ≤ 65535) (hb0 : 0 ≤ a1) (hb1 : a1 ≤ 65535) :
    Calls Try.prog 5 #[.agg #[.slice fa fn fc, .int .i64 keep, .int .i64 count, .int .u16 a0, .int .u16 a1]] w fun e w' => e = .returned (.bool true) ∧ Below w.heap.size w w' := by
  obtain ⟨b, hb⟩ := few_or l
  have MY := Lib.hid fun (W : World) (h : Below w.heap.size w W) => may11_any fa fn fc l b W (hv.keep h) hb
  have AW := Lib.hid fun W : World => awake11 W
  have HV := Lib.hid hv
  have HB := Lib.hid hb
  clear hb
  go_enter Try.func5, Try.ntmps5
  go_wp2_with fail
  have BX := Lib.hid ((Below.refl w.heap.size w).alloc (Nat.le_refl _) (.cells #[.slice fa fn fc, .int .i64 keep, .int .i64 count, .int .u16 a0, .int .u16 a1] 33))
  have GX := Lib.hid (heap_alloc_new w (.cells #[.slice fa fn fc, .int .i64 keep, .int .i64 count, .int .u16 a0, .int .u16 a1] 33))
  generalize World.alloc w _ = w0 at BX GX ⊢
  have x0 : w0.cell? ⟨w.heap.size, 0, none⟩ = some (.slice fa fn fc) := by rw [cell_of_row _ _ 0 _ _ _ GX.out]; rfl
  have x1 : w0.cell? ⟨w.heap.size, 1, none⟩ = some (.int .i64 keep) := by rw [cell_of_row _ _ 1 _ _ _ GX.out]; rfl
  have x2 : w0.cell? ⟨w.heap.size, 2, none⟩ = some (.int .i64 count) := by rw [cell_of_row _ _ 2 _ _ _ GX.out]; rfl
  have x3 : w0.cell? ⟨w.heap.size, 3, none⟩ = some (.int .u16 a0) := by rw [cell_of_row _ _ 3 _ _ _ GX.out]; rfl
  have x4 : w0.cell? ⟨w.heap.size, 4, none⟩ = some (.int .u16 a1) := by rw [cell_of_row _ _ 4 _ _ _ GX.out]; rfl
  have n0 := World.new_ne w0 _ x0
  have n1 := World.new_ne w0 _ x1
  have n2 := World.new_ne w0 _ x2
  have n3 := World.new_ne w0 _ x3
  have n4 := World.new_ne w0 _ x4
  go_region_held3 (fun W => W.cell? ⟨w.heap.size, 0, none⟩ = some (.slice fa fn fc) ∧ W.cell? ⟨w.heap.size, 1, none⟩ = some (.int .i64 keep) ∧ W.cell? ⟨w.heap.size, 2, none⟩ = some (.int .i64 count) ∧ W.cell? ⟨w.heap.size, 3, none⟩ = some (.int .u16 a0) ∧ W.cell? ⟨w.heap.size, 4, none⟩ = some (.int .u16 a1)) (go_keep) (fail)
  have GM0 := Lib.hid (show (w0.alloc (.cells #[.int .u16 a0, .int .u16 a1] 31)).drew.heap[w0.heap.size]? = some (.cells #[.int .u16 a0, .int .u16 a1] 31 (0, 0)) from heap_alloc_new w0 _)
  have B0 := Lib.hid (BX.out.trans (((Below.refl _ w0).alloc (Nat.le_refl _) (.cells #[.int .u16 a0, .int .u16 a1] 31)).drew.mono BX.out.size))
  generalize (w0.alloc _).drew = w2 at GM0 B0 ⊢
  obtain ⟨mb, hmb⟩ : ∃ mb, w0.heap.size = mb := ⟨_, rfl⟩
  rw [hmb] at GM0 ⊢
  clear x0 x1 x2 x3 x4 n0 n1 n2 n3 n4 BX GX hmb
  have XM := Lib.hid fun (W : World) (b : Below w2.heap.size w2 W) => (show W.cell? ⟨mb, 0, none⟩ = some (.int .u16 a0) ∧ W.cell? ⟨mb, 1, none⟩ = some (.int .u16 a1) from by
    have h := (b.block _ (Array.getElem?_eq_some_iff.1 GM0.out).1).trans GM0.out
    exact ⟨by rw [cell_of_row _ _ 0 _ _ _ h]; rfl, by rw [cell_of_row _ _ 1 _ _ _ h]; rfl⟩)
  have hl5 : fn ≤ 9223372036854775807 := by have := hv.len; unfold maxLen at this; omega
  by_cases hf : Few l
  · obtain rfl := HB.out.2 hf
    by_cases hk : 1152921504606846976 < keep
    · have dk : decide (1152921504606846976 < keep) = true := by simpa using hk
      clear hv hf
      go_wp2_with fail
      refine (MY.out _ B0.out).mono ?_
      rintro e w3 ⟨rfl, rfl⟩
      go_wp2_with fail
      refine (AW.out _).mono ?_
      rintro e w4 ⟨rfl, b4⟩
      have B4 := Lib.hid (B0.out.trans (b4.mono B0.out.size))
      clear b4
      go_wp2_with fail
      go_ret
      exact ⟨rfl, B4.out⟩
    · have dk : decide (1152921504606846976 < keep) = false := by simpa using hk
      by_cases hk2 : 1152921504606846976 < count
      · have dk2 : decide (1152921504606846976 < count) = true := by simpa using hk2
        clear hv hf
        go_wp2_with fail
        refine (MY.out _ B0.out).mono ?_
        rintro e w3 ⟨rfl, rfl⟩
        go_wp2_with fail
        refine (AW.out _).mono ?_
        rintro e w4 ⟨rfl, b4⟩
        have B4 := Lib.hid (B0.out.trans (b4.mono B0.out.size))
        clear b4
        go_wp2_with fail
        go_ret
        exact ⟨rfl, B4.out⟩
      · have dk2 : decide (1152921504606846976 < count) = false := by simpa using hk2
        obtain ⟨p, hp⟩ := pick_some l keep count
        obtain ⟨m, hm⟩ := pick_some l (keep + a0) (count + a1)
        have hmp := hp.mono hm (by omega) (by omega)
        have hpl := hp.lt
        have hfl := hv.len.1
        rw [← hfl] at hpl
        obtain ⟨hpl, hpl2⟩ := hpl
        have P1 := Lib.hid fun (W : World) (h : Below w.heap.size w W) => pick11_any fa fn fc l keep count p W (HV.out.keep h) hc hf.may hp h0 h1 h2 h3
        have P2 := Lib.hid fun (W : World) (h : Below w.heap.size w W) => pick11_any fa fn fc l (keep + a0) (count + a1) m W (HV.out.keep h) hc hf.may hm (by omega) (by omega) (by omega) (by omega)
        have P3 := Lib.hid fun (W : World) (h : Below w.heap.size w W) (fa' : Option Addr) (hs : IsL SL W (.slice fa' (fn - p) (fc - p)) (l.drop p)) => pick11_any fa' (fn - p) (fc - p) (l.drop p) keep count 0 W hs (by omega) (hf.may.drop p) hp.again h0 h1 h2 h3
        have dp1 : decide ((p : Int) < 0) = false := by simp
        have dp2 : decide ((fn : Int) < (p : Int)) = false := by simp; omega
        have dmp : (m : Int) ≤ (p : Int) := by omega
        have hpc : p ≤ fc := by omega
        have HD := Lib.hid fun (g o : Nat) (W : World) (h : Below w.heap.size w W) (e : fa = some ⟨g, o, none⟩) => (show IsL SL W (.slice (some ⟨g, o + p * 3, none⟩) (fn - p) (fc - p)) (l.drop p) from by
          subst e
          exact (HV.out.keep h).drop hpl _ (.inl rfl))
        have HL0 := Lib.hid hfl
        clear hf hp hm hfl
        go_wp2_with fail
        refine (MY.out _ B0.out).mono ?_
        rintro e w3 ⟨rfl, rfl⟩
        go_wp2_with fail
        refine (P1.out _ B0.out).mono ?_
        rintro e w4 ⟨rfl, b4⟩
        have B4 := Lib.hid (B0.out.trans (b4.mono B0.out.size))
        have C4 := Lib.hid b4
        clear b4
        go_wp2_with fail
        refine (AW.out _).mono ?_
        rintro e w5 ⟨rfl, b5⟩
        have B5 := Lib.hid (B4.out.trans (b5.mono B4.out.size))
        have C5 := Lib.hid (bel_trans2 C4.out b5)
        obtain ⟨y0, y1⟩ := XM.out _ C5.out
        clear b5
        go_wp2_with fail
        refine (P2.out _ B5.out).mono ?_
        rintro e w6 ⟨rfl, b6⟩
        have B6 := Lib.hid (B5.out.trans (b6.mono B5.out.size))
        clear b6
        by_cases hz : fn = 0
        · subst hz
          obtain rfl : p = 0 := by omega
          obtain rfl : l = [] := List.length_eq_zero_iff.1 HL0.out.symm
          clear hv
          cases fa with
          | none =>
            go_wp2_with fail
            refine (pick11_any _ 0 fc [] keep count 0 _ (IsL.nil _ _ _) (Nat.zero_le _) ⟨by simp, by simp⟩ (.inl ⟨rfl, rfl⟩) h0 h1 h2 h3).mono ?_
            rintro e w7 ⟨rfl, b7⟩
            have B7 := Lib.hid (B6.out.trans (b7.mono B6.out.size))
            clear b7
            go_wp2_with fail
            go_ret
            exact ⟨rfl, B7.out⟩
          | some x =>
            go_wp2_with fail
            refine (pick11_any _ 0 fc [] keep count 0 _ (IsL.nil _ _ _) (Nat.zero_le _) ⟨by simp, by simp⟩ (.inl ⟨rfl, rfl⟩) h0 h1 h2 h3).mono ?_
            rintro e w7 ⟨rfl, b7⟩
            have B7 := Lib.hid (B6.out.trans (b7.mono B6.out.size))
            clear b7
            go_wp2_with fail
            go_ret
            exact ⟨rfl, B7.out⟩
        · obtain ⟨g, o, rfl, _⟩ := sg_at hv (show 0 < fn by omega)
          clear hv
          go_wp2_with fail
          refine (P3.out _ B6.out _ (HD.out g o _ B6.out rfl)).mono ?_
          rintro e w7 ⟨rfl, b7⟩
          have B7 := Lib.hid (B6.out.trans (b7.mono B6.out.size))
          clear b7
          go_wp2_with fail
          go_ret
          exact ⟨rfl, B7.out⟩
  · obtain rfl : b = false := by rw [← Bool.not_eq_true, HB.out]; exact hf
    clear hv hf
    go_wp2_with fail
    refine (MY.out _ B0.out).mono ?_
    rintro e w3 ⟨rfl, rfl⟩
    go_wp2_with fail
    refine (AW.out _).mono ?_
    rintro e w4 ⟨rfl, b4⟩
    have B4 := Lib.hid (B0.out.trans (b4.mono B0.out.size))
    clear b4
    go_wp2_with fail
    go_ret
    exact ⟨rfl, B4.out⟩

end Go.Proofs.Ytmbkgcmmajnidaa.Rts
