/-
  What FrameBack answers: true, whatever it is given; nothing that was there is changed.
-/
import Derived.Test.YtnkgbmfpfdadjaaLaw03R
namespace Go.Proofs.Ytnkgbmfpfdadjaa
open Go.RowKit

theorem string_back (s : ByteArray) : (⟨s.data.toList.toArray⟩ : ByteArray) = s := rfl

set_option maxRecDepth 100000 in
set_option maxHeartbeats 1600000 in
theorem back3 (v0 : Value) (ss : List ByteArray) (w : World) (h : IsStrs w v0 ss) :
    Calls Try.prog 5 #[v0] w fun e w' => e = .returned (.bool true) ∧ Below w.heap.size w w' := by
  have C0 := Lib.hid (row_any v0 ss w h)
  have HI := Lib.hid h
  obtain ⟨a, cap, rfl, hm, hsz, hcells⟩ := h
  have HC := Lib.hid hcells
  clear hcells hsz
  obtain ⟨len, hlen⟩ : ∃ len, ss.length = len := ⟨_, rfl⟩
  rw [hlen] at hm C0 HI ⊢
  have HL := Lib.hid hlen
  clear hlen
  unfold maxLen at hm
  go_enter Try.func5, Try.ntmps5
  go_wp2_with fail
  refine C0.out.mono ?_
  rintro e w1 (⟨hr, v, rfl, hn, b1⟩ | ⟨hr, rfl, b1⟩)
  · obtain ⟨g, c2, rfl, _, hnc⟩ := hn
    rw [ends_len] at hnc ⊢
    have HR := Lib.hid hr
    have HN := Lib.hid hnc
    clear hr hnc
    rw [HL.out] at HN ⊢
    have hlen20 : len ≤ 20 := by have := HR.out.1; rw [HL.out] at this; exact this
    have C1 := Lib.hid fun W : World => all_any ⟨(Fr.row (bl ss)).toArray⟩ W (by rw [size_mk_list]; have := row_le HR.out ss.length (Nat.le_refl _); rw [endAt_all] at this; rw [HL.out] at this; omega) (by rw [size_mk_list]; have := row_le HR.out ss.length (Nat.le_refl _); rw [endAt_all] at this; rw [HL.out] at this; omega)
    unfold AllOut at C1
    rw [show (⟨(Fr.row (bl ss)).toArray⟩ : ByteArray).data.toList = Fr.row (bl ss) from rfl, all_of_row HR.out] at C1
    simp only [bl_strs] at C1
    have HNX := Lib.hid fun k (hk : k < ss.length) (W : World) => (next_of_row HR.out hk) ▸ fnext_any ⟨(Fr.row (bl ss)).toArray⟩ (endAt ss k : Int) W (by rw [size_mk_list]; have := row_le HR.out ss.length (Nat.le_refl _); rw [endAt_all] at this; rw [HL.out] at this; omega)
    obtain ⟨R, hR⟩ : ∃ R, Fr.row (bl ss) = R := ⟨_, rfl⟩
    rw [hR] at C1 HNX ⊢
    clear hR
    go_wp2_with fail
    refine (C1.out _).mono ?_
    rintro e w2 ⟨v2, rfl, i2, b2⟩
    have I2 := Lib.hid i2
    clear i2
    go_wp2_with fail
    refine (same_yes _ v2 _ _ ((HI.out.below b1 (Nat.le_refl _)).below b2 (Nat.le_refl _)) I2.out).mono ?_
    rintro e w3 ⟨rfl, n3, rfl⟩
    go_wp2_with fail
    have b03 := b2.trans ((below_drewN n3).mono b2.size)
    go_loopw [9] (fun i wr => ∃ k : Nat, k ≤ len ∧ i = .int .i64 k ∧ Below w1.heap.size w1 wr) (fun i _ => len - (intOf i).toNat)
    case atStart => exact ⟨0, Nat.zero_le _, rfl, b03⟩
    case round =>
      obtain ⟨k, hk, rfl, hb⟩ := hrel
      by_cases hlt : k < len
      · have hlt' : k < ss.length := by rw [HL.out]; exact hlt
        have hNX := HNX.out k hlt'
        have hSZ := size_of_row HR.out hlt'
        have hq1 := row_le HR.out k (by omega)
        have hq2 := row_le HR.out (k + 1) (by omega)
        have hqq := endAt_succ hlt'
        have he1 := HN.out k (by omega)
        have he2 := HN.out (k + 1) (by omega)
        have hbo := (HR.out.2 _ (getD_mem hlt')).2
        rw [ends_get ss (by omega)] at he1 he2
        rcases HC.out with h0 | ⟨b, off, rfl, hcs⟩
        · rw [h0] at hlt'; simp at hlt'
        have hcw := hcs k hlt'
        have hblk := Nat.lt_of_lt_of_le (block_lt_of_cell hcw) b1.size
        have hcw1 : w1.cell? ⟨b, off + k, none⟩ = some (.string (ss.getD k ByteArray.empty)) := by rw [b1.cell (p := ⟨b, off + k, none⟩) (block_lt_of_cell hcw)]; exact hcw
        have hgk := block_lt_of_cell he1
        have hz : IntKind.i64.wrap ((endAt ss (k + 1) : Int) - (endAt ss k : Int)) = sizeI ((ss.getD k ByteArray.empty).size : Int) := by
          rw [hSZ]
          exact IntWalk.i64_in _ ⟨by omega, by omega⟩
        clear hcs hcw hSZ hlt' hqq
        obtain ⟨s, hse⟩ : ∃ s, ss.getD k ByteArray.empty = s := ⟨_, rfl⟩
        obtain ⟨q1, hqe1⟩ : ∃ q, endAt ss k = q := ⟨_, rfl⟩
        obtain ⟨q2, hqe2⟩ : ∃ q, endAt ss (k + 1) = q := ⟨_, rfl⟩
        rw [hse] at hNX hcw1 hz hbo
        rw [hqe1] at hNX he1 hz hq1
        rw [hqe2] at hNX he2 hz hq2
        clear hse hqe1 hqe2
        have NX := Lib.hid hNX
        have S1 := Lib.hid fun W : World => size_any (s.size : Int) W (by omega) (by omega)
        clear hNX
        generalize sizeI (s.size : Int) = z at S1 hz
        have hc1 : wr.cell? ⟨g, k, none⟩ = some (.int .i64 (q1 : Int)) := by rw [hb.cell (p := ⟨g, k, none⟩) hgk]; exact he1
        go_wp2_with fail
        refine (NX.out _).mono ?_
        rintro e w4 ⟨rfl, b4⟩
        have hb4 := hb.trans (b4.mono hb.size)
        have hd1 : w4.cell? ⟨g, k, none⟩ = some (.int .i64 (q1 : Int)) := by rw [hb4.cell (p := ⟨g, k, none⟩) hgk]; exact he1
        have hd2 : w4.cell? ⟨g, k + 1, none⟩ = some (.int .i64 (q2 : Int)) := by rw [hb4.cell (p := ⟨g, k + 1, none⟩) hgk]; exact he2
        have hd3 : w4.cell? ⟨b, off + k, none⟩ = some (.string s) := by rw [hb4.cell (p := ⟨b, off + k, none⟩) hblk]; exact hcw1
        have hi1 : (k : Int) < (len : Int) := by omega
        have hi2 : IntKind.i64.wrap ((k : Int) + 1) = (k : Int) + 1 := IntWalk.i64_in _ ⟨by omega, by omega⟩
        have hi3 : (k : Int) + 1 < (len : Int) + 1 := by omega
        have hi6 : (k : Int) < (len : Int) + 1 := by omega
        have hi4 : 0 ≤ (k : Int) + 1 := by omega
        have hi5 : ((k : Int) + 1).toNat = k + 1 := by omega
        go_wp2_with fail
        go_quiet ((go_at_call 13; exact Calls.quiet_of_same ((S1.out _).mono fun _ _ ⟨he, hw⟩ => ⟨he, hw.symm⟩)))
        go_wp2_with fail
        go_roundw
        case rel => exact ⟨k + 1, by omega, by go_num, hb4.trans ((below_drewN _).mono hb4.size)⟩
        case measure => simp [intOf]; omega
      · go_wp2_with fail
        refine (awake03 _).mono ?_
        rintro e w4 ⟨rfl, b4⟩
        go_wp2_with fail
        go_ret
        exact ⟨rfl, bel_trans2 (bel_trans2 b1 hb) b4⟩
  · go_wp2_with fail
    refine (awake03 _).mono ?_
    rintro e w3 ⟨rfl, b3⟩
    go_wp2_with fail
    go_ret
    exact ⟨rfl, bel_trans2 b1 b3⟩

end Go.Proofs.Ytnkgbmfpfdadjaa
