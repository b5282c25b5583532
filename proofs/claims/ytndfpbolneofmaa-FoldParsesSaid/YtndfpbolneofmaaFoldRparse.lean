/-
  What the document's Parse answers; nothing that was there is changed.
-/
import Derived.Test.YtndfpbolneofmaaFoldParse
namespace Go.Proofs.Ytndfpbolneofmaa
open Go.RowKit

set_option maxRecDepth 100000 in
set_option maxHeartbeats 1600000 in
theorem rfparse_none (s : ByteArray) (w : World) (hs : s.size ≤ 4611686018427387904) (ht : Vp.take s.data.toList = none) :
    Calls Try.prog 17 #[.string s] w (ParseOut w s.data.toList) := by
  have C := fun W : World => rread_any s ((0 : Nat) : Int) W (by omega)
  rw [rdAt_none (by simpa using ht)] at C
  have C : ∀ W : World, Calls Try.prog 26 #[.string s, .int .i64 0] W fun e w' => e = .returned (.tuple #[.int .i64 0, .int .i64 0, .bool false]) ∧ Below W.heap.size W w' := C
  have C := Lib.hid C
  have HV := Lib.hid (parse_none ht)
  clear ht
  go_enter Try.func17, Try.ntmps17
  go_wp2_with fail
  refine (C.out _).mono ?_
  rintro e w1 ⟨rfl, b1⟩
  go_wp2_with fail
  go_ret2
  exact ParseOut.no HV.out b1

set_option maxRecDepth 100000 in
set_option maxHeartbeats 3200000 in
theorem rfparse_some (s : ByteArray) (n j : Nat) (w : World) (hs : s.size ≤ 1000000000000) (ht : Vp.take s.data.toList = some (n, j)) :
    Calls Try.prog 17 #[.string s] w (ParseOut w s.data.toList) := by
  obtain ⟨i0, hi0, hz0, hz1, hz2⟩ := info_parts info_pr
  have hjl := (Vp.take_some ht).2.2.1
  rw [show s.data.toList.length = s.size from rfl] at hjl
  have C := fun W : World => rread_any s ((0 : Nat) : Int) W (by omega)
  rw [rdAt_some (k := 0) ht (Nat.zero_add j)] at C
  have C : ∀ W : World, Calls Try.prog 26 #[.string s, .int .i64 0] W fun e w' => e = .returned (.tuple #[.int .i64 (n : Int), .int .i64 (j : Int), .bool true]) ∧ Below W.heap.size W w' := C
  have C := Lib.hid C
  by_cases hn : 256 < n
  · have HV := Lib.hid (parse_many ht hn)
    have hni : (256 : Int) < (n : Int) := by omega
    clear ht hn
    go_enter Try.func17, Try.ntmps17
    go_wp2_with fail
    refine (C.out _).mono ?_
    rintro e w1 ⟨rfl, b1⟩
    go_wp2_with fail
    go_ret2
    exact ParseOut.no HV.out b1
  · have HV := Lib.hid (parse_run ht (by omega))
    have hni : (n : Int) ≤ 256 := by omega
    have hnn : n ≤ 256 := by omega
    clear ht hn
    have mixed := mixed_pr
    go_enter Try.func17, Try.ntmps17
    go_wp2_with fail
    refine (C.out _).mono ?_
    rintro e w1 ⟨rfl, b1⟩
    have HI : Hid (ParseIn w s n j 0 [] j (.slice none 0 0) w1) := ⟨Own.nil _ _, rfl, rfl, by simp, hjl, b1⟩
    clear b1
    go_wp2_with fail
    go_loopw [5, 7, 8] (fun x v y wr => ∃ (i k : Nat) (acc : List Fp.Pr), i ≤ n ∧ x = .int .i64 k ∧ y = .int .i64 i ∧ ParseIn w s n j i acc k v wr) (fun _ _ y _ => n - (intOf y).toNat)
    case atStart => exact ⟨0, j, [], Nat.zero_le _, rfl, rfl, HI.out⟩
    case round =>
      obtain ⟨i, k, acc, hi, rfl, rfl, hr⟩ := hrel
      have HR := Lib.hid hr
      have hkl := hr.at_
      have hal := hr.len
      have HS := Lib.hid hr.bel.size
      clear hr
      by_cases hlt : i < n
      · have HB := Lib.hid HR.out.bel
        have HVN := Lib.hid fun (h : Fp.pairAt (s.data.toList.drop k) = none) => HV.out.1 (run_stop HR.out.run hlt h)
        by_cases hk : k < s.size
        · have P := fun W : World => rread_any s ((k + 1 : Nat) : Int) W (by omega)
          rcases ht : Vp.take (s.data.toList.drop (k + 1)) with _ | ⟨n2, j2⟩
          · rw [rdAt_none ht] at P
            have P : ∀ W : World, Calls Try.prog 26 #[.string s, .int .i64 ((k : Int) + 1)] W fun e w' => e = .returned (.tuple #[.int .i64 0, .int .i64 0, .bool false]) ∧ Below W.heap.size W w' := P
            have P := Lib.hid P
            have HV2 := Lib.hid (HVN.out (pairAt_no ht))
            clear ht
            go_wp2_with fail
            refine (P.out _).mono ?_
            rintro e w2 ⟨rfl, b2⟩
            have HF := Lib.hid (ParseOut.no HV2.out (HB.out.trans (b2.mono HS.out)))
            clear b2
            go_wp2_with fail
            go_ret2
            exact HF.out
          · obtain ⟨_, hj2, hn2⟩ := take_pos ht
            obtain ⟨q, hq⟩ : ∃ q, k + 1 + j2 = q := ⟨_, rfl⟩
            rw [rdAt_some ht hq] at P
            have P : ∀ W : World, Calls Try.prog 26 #[.string s, .int .i64 ((k : Int) + 1)] W fun e w' => e = .returned (.tuple #[.int .i64 (n2 : Int), .int .i64 (q : Int), .bool true]) ∧ Below W.heap.size W w' := P
            have P := Lib.hid P
            have HPA := pairAt_at ht hk
            rw [hq] at HPA hj2
            clear ht
            by_cases hlong : s.size < q + n2
            · have HV2 := Lib.hid (HVN.out (by rw [HPA, if_pos hlong]))
              have h1 : (s.size : Int) - (q : Int) < (n2 : Int) := by omega
              clear HPA hq hlong
              go_wp2_with fail
              refine (P.out _).mono ?_
              rintro e w2 ⟨rfl, b2⟩
              have HF := Lib.hid (ParseOut.no HV2.out (HB.out.trans (b2.mono HS.out)))
              clear b2
              go_wp2_with fail
              go_ret2
              exact HF.out
            · rw [if_neg hlong] at HPA
              have HT := run_step HR.out.run hlt HPA
              rw [show k + (1 + j2 + n2) = q + n2 by omega] at HT
              have HT := Lib.hid HT
              have h1 : (n2 : Int) ≤ (s.size : Int) - (q : Int) := by omega
              have h2 : (q : Int) ≤ (s.size : Int) := by omega
              have h3 : (q : Int) + (n2 : Int) ≤ (s.size : Int) := by omega
              have h4 : (q : Int) ≤ (q : Int) + (n2 : Int) := by omega
              have h5 : (k : Int) < (s.size : Int) := by omega
              have hqn : q + n2 ≤ s.size := by omega
              have hw1 : IntKind.i64.wrap ((q : Int) + (n2 : Int)) = (q : Int) + (n2 : Int) := IntWalk.i64_in _ ⟨by omega, by omega⟩
              have hw2 : (0 : Int) ≤ (q : Int) + (n2 : Int) := by omega
              have hw3 : ((q : Int) + (n2 : Int)).toNat = q + n2 := by omega
              clear HPA hq hlong
              go_wp2_with fail
              refine (P.out _).mono ?_
              rintro e w2 ⟨rfl, b2⟩
              have HB2 := Lib.hid (HR.out.bel.trans (b2.mono HS.out))
              have HO := Lib.hid (HR.out.own.below b2)
              have hS2 := Lib.hid HB2.out.size
              clear b2
              go_wp2_with fail
              go_region_law_o (refine step_append_own rfl (.tmp 51) (.tmp 62) 22 rfl w.heap.size 40 i0 (.agg #[.int .u8 0, .string ByteArray.empty]) 2 24 Try.underlying22 hi0 hz0 hz1 hz2 rfl (by decide) _ _ _ (by simp [Act.eval]) (World.ownsRow.alloc (HO.out.below (bel_drewN 1)) _) ⟨w2.heap.size, 0, none⟩ 1 1 [.int .u8 (s[k].toNat : Int), .string (s.extract q (q + n2))] (by simp [Act.eval]) rfl (new_pr w2.drew _ _ _) (by simp [Value.oneCell']) (by unfold maxLen; omega) (by omega) (by simp; have := hS2.out; omega) ?_; intro v' w3 hown' hgrow3)
              have HN : Hid (ParseIn w s n j (i + 1) (acc ++ [⟨s[k], s.extract q (q + n2)⟩]) (q + n2) v' w3) := ⟨own_snoc_pr hown', HT.out, by rw [List.length_append, HR.out.len]; rfl, fun p hp => (by
                rcases List.mem_append.1 hp with h | h
                · exact HR.out.val p h
                · rw [List.mem_singleton] at h
                  rw [h]
                  show (s.extract q (q + n2)).size ≤ s.size
                  rw [ByteArray.size_extract]
                  omega), hqn, ((HB2.out.drew).alloc hS2.out _).grown hgrow3 (by simp; have := hS2.out; omega) (fun q hq => (World.ownsRow.lt HO.out q hq).1)⟩
              clear hown' hgrow3
              go_wp2_with fail
              go_roundw
              case rel => exact ⟨i + 1, q + n2, _, by omega, by go_num, by go_num, HN.out⟩
              case measure => simp [intOf]; omega
        · have HV2 := Lib.hid (HVN.out (by rw [List.drop_eq_nil_of_le (by show s.size ≤ k; omega)]; rfl))
          go_wp2_with fail
          go_ret2
          exact ParseOut.no HV2.out HB.out
      · obtain rfl : i = n := by omega
        have hrun := HV.out.2 acc k (run_done HR.out.run)
        have HB := Lib.hid HR.out.bel
        rw [show s.data.toList.length = s.size from rfl] at hrun
        by_cases hk : k < s.size
        · have HV2 := Lib.hid (hrun.2.1 (by omega))
          clear hrun
          go_wp2_with fail
          go_ret2
          exact ParseOut.no HV2.out HB.out
        · obtain rfl : k = s.size := by omega
          have R0 : Hid (∀ v, ParseIn w s i j i acc s.size v wr → IsPrs wr v acc) := fun v h => h.own.is (by have := h.len; unfold maxLen; omega) (fun p hp => by have := h.val p hp; omega)
          have HIS := Lib.hid (R0.out _ HR.out)
          clear R0
          have R := rfright_any _ acc wr HIS.out
          rcases hb : Fp.stB acc with _ | _
          · have HV2 := Lib.hid (hrun.2.2 hb)
            rw [hb] at R
            have R := Lib.hid R
            clear hrun hb
            go_wp2_with fail
            refine R.out.mono ?_
            rintro e w2 ⟨rfl, b2⟩
            have HF := Lib.hid (ParseOut.no HV2.out (HB.out.trans (b2.mono HS.out)))
            clear b2
            go_wp2_with fail
            go_ret2
            exact HF.out
          · have HV2 := Lib.hid (hrun.1 rfl hb)
            rw [hb] at R
            have R := Lib.hid R
            clear hrun hb
            go_wp2_with fail
            refine R.out.mono ?_
            rintro e w2 ⟨rfl, b2⟩
            have HF := Lib.hid (ParseOut.yes HV2.out (HIS.out.below b2 (Nat.le_refl _)) (HB.out.trans (b2.mono HS.out)))
            clear b2
            go_wp2_with fail
            go_ret2
            exact HF.out

/-- The document's Parse, of any text. -/
theorem rfparse_any (s : ByteArray) (w : World) (hs : s.size ≤ 1000000000000) :
    Calls Try.prog 17 #[.string s] w (ParseOut w s.data.toList) := by
  rcases ht : Vp.take s.data.toList with _ | ⟨n, j⟩
  · exact rfparse_none s w (by omega) ht
  · exact rfparse_some s n j w hs ht

end Go.Proofs.Ytndfpbolneofmaa
