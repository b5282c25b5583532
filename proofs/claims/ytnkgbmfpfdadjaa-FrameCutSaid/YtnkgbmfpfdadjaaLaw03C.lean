/-
  What FrameCut answers: true, whatever it is given; nothing that was there is changed.
-/
import Derived.Test.YtnkgbmfpfdadjaaLaw03R
namespace Go.Proofs.Ytnkgbmfpfdadjaa
open Go.RowKit

theorem all_of_cut {ss : List ByteArray} {k n : Nat} (hr : RowOk ss) (hk : k ≤ ss.length) (h1 : endAt ss k ≤ n) (h2 : n ≤ (Fr.row (bl ss)).length) (h3 : k < ss.length → n < endAt ss (k + 1)) :
    Fr.all ((Fr.row (bl ss)).take n) = (bl (ss.take k), endAt ss k, if endAt ss k = n then 0 else 2) := by
  have hmay : ∀ x ∈ bl (ss.take k), Fr.May x.length := by
    intro x hx
    refine bl_may hr x ?_
    unfold bl at hx ⊢
    rw [List.map_take] at hx
    exact List.mem_of_mem_take hx
  by_cases hlt : k < ss.length
  · have hb := hr.2 _ (getD_mem hlt)
    have hn := h3 hlt
    rw [endAt_succ hlt] at hn
    obtain ⟨d, rfl⟩ : ∃ d, n = endAt ss k + d := ⟨n - endAt ss k, by omega⟩
    have e : (Fr.row (bl ss)).take (endAt ss k + d) = Fr.row (bl (ss.take k)) ++ (Fr.fr (ss.getD k ByteArray.empty).data.toList).take d := by
      rw [row_split hlt, show endAt ss k + d = (Fr.row (bl (ss.take k))).length + d from rfl, List.take_length_add_append, List.take_append_of_le_length (by omega)]
    have hmb : Fr.May (ss.getD k ByteArray.empty).data.toList.length := ⟨hb.1, by have := hb.2; show (ss.getD k ByteArray.empty).size ≤ 65536; omega⟩
    rw [e, Fr.all_cut _ _ d hmay hmb (by omega)]
    have e2 : (if d = 0 then 0 else 2 : Nat) = if endAt ss k = endAt ss k + d then 0 else 2 := by
      by_cases hd : d = 0
      · subst hd; simp
      · rw [if_neg hd, if_neg (by omega)]
    rw [e2]
    rfl
  · have hk' : k = ss.length := by omega
    subst hk'
    have e0 := endAt_all ss
    have : n = (Fr.row (bl ss)).length := by omega
    subst this
    rw [List.take_length, all_of_row hr, List.take_length, if_pos e0, e0]

theorem ext_zero (R : List UInt8) (n : Nat) : (⟨R.toArray⟩ : ByteArray).extract 0 n = ⟨(R.take n).toArray⟩ := by
  apply ByteArray.ext
  apply Array.ext'
  rw [ext_list]
  simp

set_option maxRecDepth 100000 in
set_option maxHeartbeats 1600000 in
theorem cut3 (v0 : Value) (ss : List ByteArray) (m : Nat) (w : World) (h : IsStrs w v0 ss) (hcap : CapOk v0) (hm16 : m ≤ 65535) :
    Calls Try.prog 6 #[v0, .int .u16 (m : Int)] w fun e w' => e = .returned (.bool true) ∧ Below w.heap.size w w' := by
  have C0 := Lib.hid (row_any v0 ss w h)
  have HI := Lib.hid h
  obtain ⟨a, cap, rfl, hm, hsz, hcells⟩ := h
  have hcap := hcap _ _ _ rfl
  clear hcells hsz
  obtain ⟨len, hlen⟩ : ∃ len, ss.length = len := ⟨_, rfl⟩
  rw [hlen] at hm C0 HI hcap ⊢
  have HL := Lib.hid hlen
  clear hlen
  unfold maxLen at hm
  go_enter Try.func6, Try.ntmps6
  go_wp2_with fail
  refine C0.out.mono ?_
  rintro e w1 (⟨hr, v, rfl, hn, b1⟩ | ⟨hr, rfl, b1⟩)
  · obtain ⟨g, c2, rfl, _, hnc⟩ := hn
    rw [ends_len] at hnc ⊢
    have HR := Lib.hid hr
    have HN := Lib.hid hnc
    clear hr hnc
    rw [HL.out] at HN ⊢
    have hlen20 : len ≤ 20 := by have := HR.out.1; rw [HL.out] at this; exact this
    have hRl : (Fr.row (bl ss)).length ≤ 8000 := by have := row_le HR.out ss.length (Nat.le_refl _); rw [endAt_all] at this; rw [HL.out] at this; omega
    have HALL := Lib.hid fun k n => @all_of_cut ss k n HR.out
    obtain ⟨R, hR⟩ : ∃ R, Fr.row (bl ss) = R := ⟨_, rfl⟩
    rw [hR] at hRl HALL ⊢
    clear hR
    go_wp2_with fail
    obtain ⟨n, hn⟩ : ∃ n : Nat, m % (R.length + 1) = n := ⟨_, rfl⟩
    have hnR : n ≤ R.length := by rw [← hn]; have := Nat.mod_lt m (show 0 < R.length + 1 by omega); omega
    rw [show (m : Int) % ((R.length : Int) + 1) = (n : Int) from by rw [← hn]; simp]
    clear hn
    go_loop [9] (fun i => ∃ k : Nat, k ≤ len ∧ i = .int .i64 k ∧ endAt ss k ≤ n) (fun i => len - (intOf i).toNat)
    case atStart => exact ⟨0, Nat.zero_le _, rfl, Nat.zero_le _⟩
    case round =>
      obtain ⟨k, hk, rfl, hle⟩ := hrel
      have hgo : (k < len ∧ endAt ss (k + 1) ≤ n) ∨ (k < len → n < endAt ss (k + 1)) := by omega
      rcases hgo with ⟨hlt, hle2⟩ | hstop
      · have he2 := HN.out (k + 1) (by omega)
        rw [ends_get ss (by omega)] at he2
        have HLE := Lib.hid hle2
        have hle3 : (endAt ss (k + 1) : Int) ≤ (n : Int) := by omega
        clear hle hle2
        generalize endAt ss (k + 1) = q2 at he2 hle3
        have i1 : (k : Int) + 1 < (len : Int) + 1 := by omega
        have i2 : (k : Int) < (len : Int) := by omega
        go_wp2_with fail
        go_round
        case rel => exact ⟨k + 1, by omega, by go_num, HLE.out⟩
        case measure => simp [intOf]; omega
      · have hA := HALL.out k n (by rw [HL.out]; exact hk) hle hnR (by rw [HL.out]; exact hstop)
        have he1 := HN.out k (by omega)
        rw [ends_get ss (by omega)] at he1
        have HST := Lib.hid hstop
        have hq1 : (endAt ss k : Int) ≤ (n : Int) := by omega
        have C1 := fun W : World => all_any ⟨(R.take n).toArray⟩ W (by rw [size_mk_list, List.length_take]; omega) (by rw [size_mk_list, List.length_take]; omega)
        unfold AllOut at C1
        rw [show (⟨(R.take n).toArray⟩ : ByteArray).data.toList = R.take n from rfl, hA] at C1
        simp only [bl_strs] at C1
        have hX := ext_zero R n
        clear hA hstop hle
        obtain ⟨T, hT⟩ : ∃ T : ByteArray, (⟨(R.take n).toArray⟩ : ByteArray) = T := ⟨_, rfl⟩
        rw [hT] at C1 hX
        clear hT
        have HX := Lib.hid hX
        clear hX
        have hkl : (k : Int) < (len : Int) + 1 := by omega
        have hkc : (k : Int) ≤ (cap : Int) := by omega
        by_cases heq : endAt ss k = n
        · rw [if_pos heq, heq] at C1
          rw [heq] at he1
          clear heq hq1
          have C1 := Lib.hid C1
          by_cases hlt : k < len
          · have he2 := HN.out (k + 1) (by omega)
            rw [ends_get ss (by omega)] at he2
            have hgt : (n : Int) < (endAt ss (k + 1) : Int) := by have := HST.out hlt; omega
            generalize endAt ss (k + 1) = q2 at he2 hgt
            have i1 : (k : Int) + 1 < (len : Int) + 1 := by omega
            have i2 : (k : Int) < (len : Int) := by omega
            go_wp2_with fail
            rw [HX.out]
            refine (C1.out _).mono ?_
            rintro e w2 ⟨v2, rfl, i2, b2⟩
            have I2 := Lib.hid i2
            clear i2
            have hd1 : w2.cell? ⟨g, k, none⟩ = some (.int .i64 (n : Int)) := by rw [b2.cell (p := ⟨g, k, none⟩) (block_lt_of_cell he1)]; exact he1
            go_wp2_with fail
            refine (awake03 _).mono ?_
            rintro e w3 ⟨rfl, b3⟩
            have hd2 : w3.cell? ⟨g, k, none⟩ = some (.int .i64 (n : Int)) := by rw [b3.cell (p := ⟨g, k, none⟩) (block_lt_of_cell hd1)]; exact hd1
            go_wp2_with fail
            refine (same_yes v2 _ _ _ (I2.out.below b3 (Nat.le_refl _)) ((((HI.out.cut hk).below b1 (Nat.le_refl _)).below b2 (Nat.le_refl _)).below b3 (Nat.le_refl _))).mono ?_
            rintro e w4 ⟨rfl, n4, rfl⟩
            go_wp2_with fail
            go_ret
            exact ⟨rfl, bel_trans2 (bel_trans2 (bel_trans2 b1 b2) b3) (below_drewN n4)⟩
          · have hlt2 : (len : Int) ≤ (k : Int) := by omega
            go_wp2_with fail
            rw [HX.out]
            refine (C1.out _).mono ?_
            rintro e w2 ⟨v2, rfl, i2, b2⟩
            have I2 := Lib.hid i2
            clear i2
            have hd1 : w2.cell? ⟨g, k, none⟩ = some (.int .i64 (n : Int)) := by rw [b2.cell (p := ⟨g, k, none⟩) (block_lt_of_cell he1)]; exact he1
            go_wp2_with fail
            refine (awake03 _).mono ?_
            rintro e w3 ⟨rfl, b3⟩
            have hd2 : w3.cell? ⟨g, k, none⟩ = some (.int .i64 (n : Int)) := by rw [b3.cell (p := ⟨g, k, none⟩) (block_lt_of_cell hd1)]; exact hd1
            go_wp2_with fail
            refine (same_yes v2 _ _ _ (I2.out.below b3 (Nat.le_refl _)) ((((HI.out.cut hk).below b1 (Nat.le_refl _)).below b2 (Nat.le_refl _)).below b3 (Nat.le_refl _))).mono ?_
            rintro e w4 ⟨rfl, n4, rfl⟩
            go_wp2_with fail
            go_ret
            exact ⟨rfl, bel_trans2 (bel_trans2 (bel_trans2 b1 b2) b3) (below_drewN n4)⟩
        · rw [if_neg heq] at C1
          have C1 := Lib.hid C1
          generalize endAt ss k = q1 at C1 he1 heq hq1
          have hne : ¬ (q1 : Int) = (n : Int) := by omega
          have hne2 : ((q1 : Int) == (n : Int)) = false := by rw [beq_eq_false_iff_ne]; exact hne
          by_cases hlt : k < len
          · have he2 := HN.out (k + 1) (by omega)
            rw [ends_get ss (by omega)] at he2
            have hgt : (n : Int) < (endAt ss (k + 1) : Int) := by have := HST.out hlt; omega
            generalize endAt ss (k + 1) = q2 at he2 hgt
            have i1 : (k : Int) + 1 < (len : Int) + 1 := by omega
            have i2 : (k : Int) < (len : Int) := by omega
            go_wp2_with fail
            rw [HX.out]
            refine (C1.out _).mono ?_
            rintro e w2 ⟨v2, rfl, i2, b2⟩
            have I2 := Lib.hid i2
            clear i2
            have hd1 : w2.cell? ⟨g, k, none⟩ = some (.int .i64 (q1 : Int)) := by rw [b2.cell (p := ⟨g, k, none⟩) (block_lt_of_cell he1)]; exact he1
            go_wp2_with fail
            refine (awake03 _).mono ?_
            rintro e w3 ⟨rfl, b3⟩
            have hd2 : w3.cell? ⟨g, k, none⟩ = some (.int .i64 (q1 : Int)) := by rw [b3.cell (p := ⟨g, k, none⟩) (block_lt_of_cell hd1)]; exact hd1
            go_wp2_with fail
            refine (same_yes v2 _ _ _ (I2.out.below b3 (Nat.le_refl _)) ((((HI.out.cut hk).below b1 (Nat.le_refl _)).below b2 (Nat.le_refl _)).below b3 (Nat.le_refl _))).mono ?_
            rintro e w4 ⟨rfl, n4, rfl⟩
            go_wp2_with fail
            go_ret
            exact ⟨rfl, bel_trans2 (bel_trans2 (bel_trans2 b1 b2) b3) (below_drewN n4)⟩
          · have hlt2 : (len : Int) ≤ (k : Int) := by omega
            go_wp2_with fail
            rw [HX.out]
            refine (C1.out _).mono ?_
            rintro e w2 ⟨v2, rfl, i2, b2⟩
            have I2 := Lib.hid i2
            clear i2
            have hd1 : w2.cell? ⟨g, k, none⟩ = some (.int .i64 (q1 : Int)) := by rw [b2.cell (p := ⟨g, k, none⟩) (block_lt_of_cell he1)]; exact he1
            go_wp2_with fail
            refine (awake03 _).mono ?_
            rintro e w3 ⟨rfl, b3⟩
            have hd2 : w3.cell? ⟨g, k, none⟩ = some (.int .i64 (q1 : Int)) := by rw [b3.cell (p := ⟨g, k, none⟩) (block_lt_of_cell hd1)]; exact hd1
            go_wp2_with fail
            refine (same_yes v2 _ _ _ (I2.out.below b3 (Nat.le_refl _)) ((((HI.out.cut hk).below b1 (Nat.le_refl _)).below b2 (Nat.le_refl _)).below b3 (Nat.le_refl _))).mono ?_
            rintro e w4 ⟨rfl, n4, rfl⟩
            go_wp2_with fail
            go_ret
            exact ⟨rfl, bel_trans2 (bel_trans2 (bel_trans2 b1 b2) b3) (below_drewN n4)⟩
  · go_wp2_with fail
    refine (awake03 _).mono ?_
    rintro e w3 ⟨rfl, b3⟩
    go_wp2_with fail
    go_ret
    exact ⟨rfl, bel_trans2 b1 b3⟩

end Go.Proofs.Ytnkgbmfpfdadjaa
