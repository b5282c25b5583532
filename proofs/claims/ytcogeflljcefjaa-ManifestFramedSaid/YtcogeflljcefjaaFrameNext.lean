/-
  What frame's Next answers, at any place of any text; nothing that was there is changed.
-/
import Derived.Test.YtcogeflljcefjaaFrameCode
import Derived.Test.YtcogeflljcefjaaBase
namespace Go.Proofs.Ytcogeflljcefjaa
open Go.RowKit

/-- What Next answers at a place that isn't below 0. -/
def nxVal (s : ByteArray) (k : Nat) : Value :=
  match Fr.nx (s.data.toList.drop k) with
  | (0, j, b) => .tuple #[.string ⟨b.toArray⟩, .int .i64 ((k + j : Nat) : Int), .int .i64 0]
  | (e + 1, _, _) => .tuple #[.string ⟨#[]⟩, .int .i64 0, .int .i64 ((e + 1 : Nat) : Int)]
theorem nxVal_no {s : ByteArray} {k e : Nat} (h : Fr.nx (s.data.toList.drop k) = (e, 0, [])) (he : e ≠ 0) : nxVal s k = .tuple #[.string ⟨#[]⟩, .int .i64 0, .int .i64 (e : Int)] := by
  unfold nxVal
  rw [h]
  obtain ⟨e, rfl⟩ : ∃ e', e = e' + 1 := ⟨e - 1, by omega⟩
  rfl
theorem nxVal_yes {s : ByteArray} {k j : Nat} {b : List UInt8} (h : Fr.nx (s.data.toList.drop k) = (0, j, b)) : nxVal s k = .tuple #[.string ⟨b.toArray⟩, .int .i64 ((k + j : Nat) : Int), .int .i64 0] := by
  unfold nxVal
  rw [h]
/-- What Next answers, at any place. -/
def nxAt (s : ByteArray) (i : Int) : Value := if i < 0 then .tuple #[.string ⟨#[]⟩, .int .i64 0, .int .i64 2] else nxVal s i.toNat
theorem below_drewN {w : World} (n : Nat) : Below w.heap.size w (w.drewN n) := by
  induction n generalizing w with
  | zero => exact Below.refl _ _
  | succ n ih => exact ih.drew
theorem nxAt_out {s : ByteArray} {i : Int} (h : i < 0 ∨ (s.size : Int) ≤ i) : nxAt s i = .tuple #[.string ⟨#[]⟩, .int .i64 0, .int .i64 2] := by
  unfold nxAt
  split
  · rfl
  · exact nxVal_no (e := 2) (by rw [List.drop_eq_nil_of_le (by show s.size ≤ i.toNat; omega)]; exact Fr.nx_cut rfl) (by omega)
theorem nxAt_in (s : ByteArray) (k : Nat) : nxAt s (k : Int) = nxVal s k := by unfold nxAt; rw [if_neg (by omega)]; simp

set_option maxRecDepth 100000 in
theorem fnext_out (s : ByteArray) (i : Int) (w : World) (h : i < 0 ∨ (s.size : Int) ≤ i) :
    Calls Try.prog 20 #[.string s, .int .i64 i] w fun e w' => e = .returned (.tuple #[.string ⟨#[]⟩, .int .i64 0, .int .i64 2]) ∧ w = w' := by
  by_cases h0 : i < 0
  · clear h
    go_enter Try.func20, Try.ntmps20
    go_wp2_with fail
    go_ret3
    exact ⟨rfl, rfl⟩
  · have h1 : (s.size : Int) ≤ i := by omega
    clear h
    go_enter Try.func20, Try.ntmps20
    go_wp2_with fail
    go_ret3
    exact ⟨rfl, rfl⟩

theorem slice_kq (s : ByteArray) (k q : Nat) (w : World) (h1 : k ≤ q) (h2 : q ≤ s.size) : (Instr.slice 9 (.string s) (some (.int .i64 (k : Int))) (some (.int .i64 (q : Int))) none).run Try.prog w = .ok (.string (s.extract k q)) w := by
  have := run_slice_string (P := Try.prog) w 9 s .i64 .i64 (k : Int) (q : Int) Try.underlying9 (by omega) (by omega) (by omega)
  rw [this]
  congr 3
theorem slice_q4 (s : ByteArray) (q : Nat) (w : World) (h2 : q + 4 ≤ s.size) : (Instr.slice 9 (.string s) (some (.int .i64 (q : Int))) (some (.int .i64 ((q : Int) + 4))) none).run Try.prog w = .ok (.string (s.extract q (q + 4))) w := by
  have := run_slice_string (P := Try.prog) w 9 s .i64 .i64 (q : Int) ((q : Int) + 4) Try.underlying9 (by omega) (by omega) (by omega)
  rw [this]
  congr 3

set_option maxRecDepth 100000 in
set_option maxHeartbeats 1600000 in
theorem fnext_in (s : ByteArray) (k : Nat) (w : World) (hs : s.size ≤ 140737488351232) (hk : k < s.size) :
    Calls Try.prog 20 #[.string s, .int .i64 k] w fun e w' => e = .returned (nxVal s k) ∧ Below w.heap.size w w' := by
  have hk0 : decide ((k : Int) < 0) = false := by simp
  have hk1 : decide ((s.size : Int) ≤ (k : Int)) = false := by simp; omega
  have C := Lib.hid fun W : World => isCut_any (s.extract k s.size) W (by unfold maxLen; rw [ByteArray.size_extract]; omega)
  rw [ext_list, List.take_of_length_le (by simp)] at C
  have D := Lib.hid fun W : World => read_any s (k : Int) W (by omega)
  have hL : (s.data.toList.drop k).length = s.size - k := by rw [List.length_drop]; rfl
  have HL := Lib.hid hL
  clear hL
  by_cases hc : Fr.cutB (s.data.toList.drop k) = true
  · rw [hc] at C
    have HV := Lib.hid (nxVal_no (Fr.nx_cut hc) (by omega))
    clear hc
    go_enter Try.func20, Try.ntmps20
    go_wp2_with fail
    refine (C.out _).mono ?_
    rintro e w' ⟨rfl, rfl⟩
    go_wp2_with fail
    go_ret3
    exact ⟨by rw [HV.out]; rfl, Below.refl _ _⟩
  have hc : Fr.cutB (s.data.toList.drop k) = false := by simpa using hc
  rw [hc] at C
  have e0 : rdAt s (k : Int) = rdVal (s.data.toList.drop k) k := by unfold rdAt; rw [if_neg (by omega)]; simp
  rw [e0] at D
  clear e0
  rcases ht : Vp.take (s.data.toList.drop k) with _ | ⟨m, j⟩
  · rw [rdVal_none k ht] at D
    have HV := Lib.hid (nxVal_no (Fr.nx_none hc ht) (by omega))
    clear hc ht
    go_enter Try.func20, Try.ntmps20
    go_wp2_with fail
    refine (C.out _).mono ?_
    rintro e w' ⟨rfl, rfl⟩
    go_wp2_with fail
    refine (D.out _).mono ?_
    rintro e w' ⟨rfl, n, rfl⟩
    go_wp2_with fail
    go_ret3
    exact ⟨by rw [HV.out]; rfl, below_drewN n⟩
  rw [rdVal_some k ht] at D
  obtain ⟨hj0, hj9, hjl, hm63⟩ := Vp.take_some ht
  rw [HL.out] at hjl
  obtain ⟨q, hq⟩ : ∃ q, k + j = q := ⟨_, rfl⟩
  have hq1 : k ≤ q := by omega
  have hq2 : q ≤ s.size := by omega
  rw [show (k : Int) + (j : Int) = (q : Int) from by omega] at D
  have HQ := Lib.hid hq
  have HT := Lib.hid ht
  have HJ := Lib.hid (show j = q - k by omega)
  clear hq hc ht
  by_cases hm : Fr.May m
  · have F := Lib.hid fun W : World => may_yes (m : Int) W (by have := hm.1; omega) (by have := hm.2; omega)
    have hm2 : m ≤ 65536 := hm.2
    have HM := Lib.hid hm
    clear hm
    by_cases hl : s.size < q + 4 + m
    · have HV := Lib.hid (nxVal_no (Fr.nx_short HT.out HM.out (by rw [HL.out]; have := HQ.out; omega)) (by omega))
      clear hjl hj0 hj9
      go_enter Try.func20, Try.ntmps20
      go_wp2_with fail
      refine (C.out _).mono ?_
      rintro e w' ⟨rfl, rfl⟩
      go_wp2_with fail
      refine (D.out _).mono ?_
      rintro e w' ⟨rfl, n, rfl⟩
      go_wp2_with fail
      refine (F.out _).mono ?_
      rintro e w' ⟨rfl, rfl⟩
      go_wp2_with fail
      go_ret3
      exact ⟨by rw [HV.out]; rfl, below_drewN n⟩
    · have hl' : q + 4 + m ≤ s.size := by omega
      have HNL : Hid (¬ (s.data.toList.drop k).length < j + 4 + m) := Lib.hid (by rw [HL.out]; have := HQ.out; omega)
      clear hl hjl hj0 hj9
      go_enter Try.func20, Try.ntmps20
      go_wp2_with fail
      refine (C.out _).mono ?_
      rintro e w' ⟨rfl, rfl⟩
      go_wp2_with fail
      refine (D.out _).mono ?_
      rintro e w' ⟨rfl, n, rfl⟩
      go_wp2_with fail
      refine (F.out _).mono ?_
      rintro e w' ⟨rfl, rfl⟩
      go_wp2_with fail
      obtain ⟨B, hB⟩ : ∃ B, s.extract (q + 4) (q + 4 + m) = B := ⟨_, rfl⟩
      have hBs : B.size ≤ maxLen := by rw [← hB, ByteArray.size_extract]; unfold maxLen; omega
      have hAs : (s.extract k q).size ≤ maxLen := by rw [ByteArray.size_extract]; unfold maxLen; omega
      rw [hB]
      have HB := Lib.hid hB
      clear hB
      have E0 : ∀ W : World, IsStrs (W.alloc (.cells #[.string (s.extract k q), .string B] 9)) (.slice (some ⟨W.heap.size, 0, none⟩) 2 2) [s.extract k q, B] := fun W =>
        IsStrs.lits W [s.extract k q, B] (show 2 ≤ maxLen by decide) (fun x hx => by
          simp only [List.mem_cons, List.not_mem_nil, or_false] at hx
          rcases hx with rfl | rfl
          · exact hAs
          · exact hBs)
      have E := Lib.hid fun W : World => sum_any _ _ _ (E0 W)
      clear E0 hAs hBs
      have hX := Cp.sum_lt 0 (cat [s.extract k q, B])
      obtain ⟨X, hXe⟩ : ∃ X, Cp.sum 0 (cat [s.extract k q, B]) = X := ⟨_, rfl⟩
      rw [hXe] at E hX
      have HX := Lib.hid hXe
      clear hXe
      have G := Lib.hid fun W : World => four_any X W hX
      rw [four_same] at G
      clear hX
      have hs1 := fun W : World => slice_kq s k q W hq1 hq2
      have hs2 := fun W : World => slice_q4 s q W (by omega)
      have i1 : (k : Int) ≤ (q : Int) := by omega
      have i2 : (q : Int) ≤ (s.size : Int) := by omega
      have i3 : (q : Int) ≤ (q : Int) + 4 := by omega
      have i4 : (q : Int) + 4 ≤ (s.size : Int) := by omega
      have i5 : 0 ≤ (q : Int) + 4 := by omega
      go_cut [66] (fun v w2 => ∃ c : Bool, v = .bool c ∧ (c = false ↔ Fr.four X = (s.extract q (q + 4)).data.toList) ∧ Below w.heap.size w w2)
      case first =>
        go_region_with (first | (go_at_call 28; refine (E.out _).mono ?_; rintro e w4 ⟨rfl, b4⟩) | (go_at_call 17; refine (G.out _).mono ?_; rintro e w5 ⟨rfl, b5⟩))
        go_wp2_with fail
        go_meet
        case rel =>
          refine ⟨_, rfl, ?_, bel_trans2 (below_drewN n).drew (bel_trans2 (bel_of_alloc b4) b5)⟩
          rw [Lib.toList_data]
          simp
      case rest =>
        obtain ⟨c, rfl, hc, hb⟩ := hcut
        have e1 : (s.extract q (q + 4)).data.toList = ((s.data.toList.drop k).drop j).take 4 := by
          rw [ext_list, List.drop_drop, HQ.out, show q + 4 - q = 4 from by omega]
        have e2 : B.data.toList = ((s.data.toList.drop k).drop (j + 4)).take m := by
          rw [← HB.out, ext_list, List.drop_drop, show k + (j + 4) = q + 4 from by have := HQ.out; omega, show q + 4 + m - (q + 4) = m from by omega]
        have e3 : (s.extract k q).data.toList = (s.data.toList.drop k).take j := by
          rw [ext_list, HJ.out]
        have e4 : X = Cp.sum 0 ((s.data.toList.drop k).take j ++ ((s.data.toList.drop k).drop (j + 4)).take m) := by
          rw [← HX.out, ← e2, ← e3]; simp [cat]
        rw [e1, e4] at hc
        cases c with
        | false =>
          have HV := nxVal_yes (Fr.nx_ok HT.out HM.out HNL.out (hc.1 rfl))
          rw [← e2, show k + (j + 4 + m) = q + 4 + m from by have := HQ.out; omega] at HV
          have HV := Lib.hid HV
          clear hc e1 e2 e3 e4
          go_wp2_with fail
          go_ret3
          refine ⟨?_, hb⟩
          rw [HV.out]
          rfl
        | true =>
          have hne : Fr.four (Cp.sum 0 ((s.data.toList.drop k).take j ++ ((s.data.toList.drop k).drop (j + 4)).take m)) ≠ ((s.data.toList.drop k).drop j).take 4 := by
            intro hh
            have := hc.2 hh
            cases this
          have HV := Lib.hid (nxVal_no (Fr.nx_sum HT.out HM.out HNL.out hne) (by omega))
          clear hc e1 e2 e3 e4 hne
          go_wp2_with fail
          go_ret3
          refine ⟨?_, hb⟩
          rw [HV.out]
          rfl
  · have F := Lib.hid fun W : World => may_no (m : Int) W (by unfold Fr.May at hm; omega)
    have HV := Lib.hid (nxVal_no (Fr.nx_form HT.out hm) (by omega))
    clear hm hjl hj0 hj9
    go_enter Try.func20, Try.ntmps20
    go_wp2_with fail
    refine (C.out _).mono ?_
    rintro e w' ⟨rfl, rfl⟩
    go_wp2_with fail
    refine (D.out _).mono ?_
    rintro e w' ⟨rfl, n, rfl⟩
    go_wp2_with fail
    refine (F.out _).mono ?_
    rintro e w' ⟨rfl, rfl⟩
    go_wp2_with fail
    go_ret3
    exact ⟨by rw [HV.out]; rfl, below_drewN n⟩

theorem fnext_any (s : ByteArray) (i : Int) (w : World) (hs : s.size ≤ 140737488351232) :
    Calls Try.prog 20 #[.string s, .int .i64 i] w fun e w' => e = .returned (nxAt s i) ∧ Below w.heap.size w w' := by
  by_cases h : i < 0 ∨ (s.size : Int) ≤ i
  · rw [nxAt_out h]
    exact (fnext_out s i w h).mono fun _ _ ⟨he, hw⟩ => ⟨he, by rw [← hw]; exact Below.refl _ _⟩
  · obtain ⟨k, rfl⟩ : ∃ k : Nat, i = (k : Int) := ⟨i.toNat, by omega⟩
    rw [nxAt_in]
    exact fnext_in s k w hs (by omega)

end Go.Proofs.Ytcogeflljcefjaa
