/-
  TimerOnce, walked.
-/
import Derived.Test.YtpbpkeifehobjaaTimWo
import Derived.Test.YtpbpkeifehobjaaTimOnce
namespace Go.Proofs.Ytpbpkeifehobjaa.Tm
open Go.RowKit Go.Proofs.Ytpbpkeifehobjaa.Tp Go.Proofs.Ytpbpkeifehobjaa.Aps

theorem count_snoc {l : List Int} {j : Nat} (h : j < l.length) : (l.take (j + 1)).count 0 = (l.take j).count 0 + if l.getD j 0 = 0 then 1 else 0 := by
  rw [List.take_add_one, List.getElem?_eq_getElem h, List.count_append, getD_lt h]
  simp only [Option.toList_some, List.count_cons, List.count_nil, Nat.zero_add, beq_iff_eq]

set_option maxRecDepth 100000 in
set_option maxHeartbeats 3200000 in
theorem once18 (fa : Option Addr) (fn fc : Nat) (zs : List Ac) (after : Nat) (w : World) (hv : IsL AcL w (.slice fa fn fc) zs) :
    Calls Try.prog 4 #[.slice fa fn fc, .int .u8 (after : Int)] w fun e w' => e = .returned (.bool true) ∧ Below w.heap.size w w' := by
  have AW := Lib.hid fun W : World => awake18 W
  have HV := Lib.hid hv
  clear hv
  by_cases hl : fn ≤ 40
  · obtain ⟨N, hN⟩ : ∃ N, 1 + after % 20 = N := ⟨_, rfl⟩
    have hN1 : 1 ≤ N := by omega
    have hN2 : N ≤ 20 := by omega
    have hN3 : (after : Int).tmod 20 = (N : Int) - 1 := by have : (after : Int).tmod 20 = ((after % 20 : Nat) : Int) := rfl; rw [this]; omega
    clear hN
    have AR := Lib.hid (arm18_any 0 0 (N : Int) (.slice none 0 0) [] w (IsL.nil w none 0) (by simp) (by decide) (by decide) (by omega) Right.nil)
    go_enter Try.func4, Try.ntmps4
    go_wp2_with fail
    rw [show (1 : Int) + ((N : Int) - 1) = (N : Int) by omega]
    refine AR.out.mono ?_
    rintro e w1 ⟨a1, n1, c1, rfl, hi, hn, hr, b1⟩
    have OS := Lib.hid (On.start (n := (N : Int)) (by omega))
    have hlen : (arm 0 [] 0 (N : Int)).length ≤ 1 := by unfold arm cancel; simp [ins]
    have WS : Wo w w1.heap.size 0 (arm 0 [] 0 (N : Int)) (.slice a1 n1 c1) (w1.alloc (.cells #[.int .i64 0, .slice a1 n1 c1] 26)) := by
      have k := (Below.refl w1.heap.size w1).alloc (Nat.le_refl _) (.cells #[.int .i64 0, .slice a1 n1 c1] 26)
      refine ⟨((Bs.start w).keep b1).new _ _, hi.keep k, hn, fun p n' c' e => ?_⟩
      rcases hr p n' c' e with h1 | ⟨p', n2, c2, e', h1⟩
      · exact ⟨by omega, by simp; omega⟩
      · injection e' with e'; cases e'
    obtain ⟨L0, hL0⟩ : ∃ L0, arm 0 [] 0 (N : Int) = L0 := ⟨_, rfl⟩
    rw [hL0] at WS hlen
    have OS2 := OS.out
    rw [hL0] at OS2
    replace OS := Lib.hid OS2
    have hB0 := b1.size
    replace WS := Lib.hid WS
    clear hi hn hr b1 AR hL0 OS2
    go_wp2_with fail
    generalize World.alloc w1 _ = w0 at WS ⊢
    obtain ⟨B, hB⟩ : ∃ B, w1.heap.size = B := ⟨_, rfl⟩
    rw [hB] at WS hB0 ⊢
    clear hB
    go_loopw [7, 8, 9] (fun tk rg i W => ∃ (k t : Nat) (L : List Al) (va : Option Addr) (vn vc : Nat), k ≤ fn + 30 ∧ tk = .int .i64 t ∧ rg = .int .i64 ((if N ≤ t then 1 else 0 : Nat) : Int) ∧ i = .int .i64 k ∧ t ≤ k ∧ (fn ≤ k → k - fn ≤ t) ∧ L.length ≤ k + 1 ∧ On (N : Int) t L ∧ Wo w B t L (.slice va vn vc) W) (fun _ _ i _ => fn + 30 - (intOf i).toNat)
    case atStart => exact ⟨0, 0, L0, a1, n1, c1, Nat.zero_le _, rfl, by rw [if_neg (by omega)]; rfl, rfl, Nat.le_refl _, fun _ => by omega, hlen, OS.out, WS.out⟩
    case round =>
      obtain ⟨k, t, L, va, vn, vc, hk, rfl, rfl, rfl, htk, hkt, hL, hO, hW⟩ := hrel
      have HO := Lib.hid hO
      have HW := Lib.hid hW
      obtain ⟨rg, hrg⟩ : ∃ rg : Nat, (if N ≤ t then 1 else 0) = rg := ⟨_, rfl⟩
      rw [hrg]
      have HRG := Lib.hid hrg
      clear hO hW hrg
      by_cases hlt : k < fn + 30
      · have W1 := Lib.hid (HW.out.keep ((Below.refl _ _).alloc (Nat.le_refl _) (.cells #[.int .i64 2, .int .i64 0, .int .i64 0] 28)))
        have hA := heap_alloc_new wr (.cells #[.int .i64 2, .int .i64 0, .int .i64 0] 28)
        go_upto_if 37 with (fail)
        obtain ⟨A, hAe⟩ : ∃ A, wr.heap.size = A := ⟨_, rfl⟩
        have hBA : B < A := by rw [← hAe]; exact HW.out.b.lt (.head _)
        rw [hAe] at hA ⊢
        go_cut [] (fun W => ∃ (qk qi qa : Int), (fn ≤ k → qk = 2 ∧ qa = 0) ∧ (-9223372036854775808 ≤ qi ∧ qi ≤ 9223372036854775807) ∧ W.heap[A]? = some (.cells #[.int .i64 qk, .int .i64 qi, .int .i64 qa] 28 (0, 0)) ∧ Wo w B t L (.slice va vn vc) W)
        case first =>
          by_cases hlf : k < fn
          · obtain ⟨g, off, rfl, c0, c1, c2, hq⟩ := ac_at (HV.out.keep W1.out.b.w) hlf
            generalize zs.getD k aczero = q at *
            obtain ⟨qk, qi, qa⟩ := q
            dsimp only at c0 c1 c2 hq
            have W2 := Lib.hid (HW.out.keep ((Below.refl _ _).alloc (Nat.le_refl _) (.cells #[.int .i64 qk, .int .i64 qi, .int .i64 qa] 28)))
            have hA2 := heap_alloc_new wr (.cells #[.int .i64 qk, .int .i64 qi, .int .i64 qa] 28)
            rw [hAe] at hA2
            have HA2 := Lib.hid hA2
            have HQ := Lib.hid hq.2.1
            clear hA2 hq hA
            go_wp2_with fail
            go_meet
            case rel => exact ⟨qk, qi, qa, fun h => absurd hlf (by omega), HQ.out, HA2.out, W2.out⟩
          · have HA := Lib.hid hA
            clear hA
            go_wp2_with fail
            go_meet
            case rel => exact ⟨2, 0, 0, fun _ => ⟨rfl, rfl⟩, ⟨by decide, by decide⟩, HA.out, W1.out⟩
        case rest =>
          obtain ⟨qk, qi, qa, hq0, hqi, hA2, hW2⟩ := hcut
          have HA2 := Lib.hid hA2
          have W2 := Lib.hid hW2
          obtain ⟨c0, c1, c2⟩ : wc.cell? ⟨A, 0, none⟩ = some (.int .i64 qk) ∧ wc.cell? ⟨A, 1, none⟩ = some (.int .i64 qi) ∧ wc.cell? ⟨A, 2, none⟩ = some (.int .i64 qa) := ⟨by rw [cell_of_row _ _ 0 _ _ _ hA2]; rfl, by rw [cell_of_row _ _ 1 _ _ _ hA2]; rfl, by rw [cell_of_row _ _ 2 _ _ _ hA2]; rfl⟩
          clear hA2 hW2 hA hAe W1
          by_cases hq : 1099511627776 < qa
          · go_wp2_with fail
            go_roundw
            case rel => exact ⟨k + 1, t, L, va, vn, vc, by omega, rfl, by rw [HRG.out], by go_num, by omega, fun h => by by_cases h2 : fn ≤ k; have := hq0 h2; omega; omega, by omega, HO.out, W2.out⟩
            case measure => simp [intOf]; omega
          · have hqa : qa ≤ 1099511627776 := by omega
            go_upto_block 2 with fail
            generalize hm : (if qi < 0 then (0 : Int) else qi) = m
            have hm0 : 0 ≤ m := by rw [← hm]; split <;> omega
            obtain ⟨ix, hid⟩ : ∃ ix, 1 + m % 5 = ix := ⟨_, rfl⟩
            have hid1 : 1 ≤ ix := by omega
            have hid2 : ix ≤ 5 := by omega
            rw [hid]
            clear hm hid hm0
            go_cut [7, 8] (fun tk rg W => ∃ (t' rg' : Nat) (L' : List Al) (xa : Option Addr) (xn xc : Nat), tk = .int .i64 t' ∧ rg = .int .i64 rg' ∧ (t ≤ t' ∧ t' ≤ t + 1) ∧ (fn ≤ k → t' = t + 1) ∧ (if N ≤ t' then 1 else 0) = rg' ∧ L'.length ≤ L.length + 1 ∧ On (N : Int) t' L' ∧ Wo w B t' L' (.slice xa xn xc) W)
            case first =>
              have hk3 : qk = 0 ∨ qk = 1 ∨ (qk ≠ 0 ∧ qk ≠ 1) := by omega
              rcases hk3 with rfl | rfl | ⟨hk0, hk1⟩
              · obtain ⟨x0, x1⟩ := W2.out.b.at2 (b := B) (.head _)
                have AM := Lib.hid (arm18_any t ix qa (.slice va vn vc) L wc W2.out.lv (by omega) (by omega) (by omega) hqa HO.out.r)
                go_wp2_with fail
                refine AM.out.mono ?_
                rintro e w5 ⟨a1, n1, r1, rfl, hi1, hn1, hr1, b1⟩
                have P5 := Lib.hid (W2.out.put (now' := t) hB0 b1 hi1 hn1 hr1)
                obtain ⟨z0, z1⟩ := (W2.out.b.keep b1).fz2 (.head _)
                obtain ⟨t0, t1⟩ := (W2.out.b.keep b1).at2 (.head _)
                clear hi1 hn1 hr1 b1 x0 x1 c0 c1 c2 AM
                go_wp2_with fail
                go_meet
                case rel => exact ⟨t, rg, _, a1, n1, r1, rfl, rfl, ⟨Nat.le_refl _, by omega⟩, fun h => absurd (hq0 h).1 (by omega), HRG.out, by unfold arm; rw [ins_len]; have := cancel_len L ix; omega, HO.out.arm (by omega), P5.out⟩
              · obtain ⟨x0, x1⟩ := W2.out.b.at2 (b := B) (.head _)
                have CA := Lib.hid (cancel18_any t ix (.slice va vn vc) L wc W2.out.lv (by omega))
                go_wp2_with fail
                refine CA.out.mono ?_
                rintro e w5 ⟨a1, n1, r1, rfl, hi1, hn1, hr1, b1⟩
                have P5 := Lib.hid (W2.out.put (now' := t) hB0 b1 hi1 hn1 hr1)
                obtain ⟨z0, z1⟩ := (W2.out.b.keep b1).fz2 (.head _)
                obtain ⟨t0, t1⟩ := (W2.out.b.keep b1).at2 (.head _)
                clear hi1 hn1 hr1 b1 x0 x1 c0 c1 c2 CA
                go_wp2_with fail
                go_meet
                case rel => exact ⟨t, rg, _, a1, n1, r1, rfl, rfl, ⟨Nat.le_refl _, by omega⟩, fun h => absurd (hq0 h).1 (by omega), HRG.out, by have := cancel_len L ix; omega, HO.out.cancel (by omega), P5.out⟩
              · obtain ⟨x0, x1⟩ := W2.out.b.at2 (b := B) (.head _)
                have TK := Lib.hid (tick18_any t (.slice va vn vc) L wc W2.out.lv (by omega) (by omega) (by omega) HO.out.r W2.out.nv)
                go_wp2_with fail
                refine TK.out.mono ?_
                rintro e w5 ⟨a1, n1, r1, p1, m1, d1, rfl, hi1, hn1, hr1, ho1, hp1, b1⟩
                have V5 := (Below.refl w5.heap.size w5).alloc (Nat.le_refl _) (.cells #[.int .i64 (t + 1), .slice a1 n1 r1] 26)
                have K5 := b1.alloc b1.size (.cells #[.int .i64 (t + 1), .slice a1 n1 r1] 26)
                have P5 := Lib.hid (W2.out.put (now' := t + 1) hB0 K5 (hi1.keep V5) hn1 (fun p n c e => (hr1 p n c e).imp (fun h => ⟨h.1, Nat.lt_of_lt_of_le h.2 V5.size⟩) (fun h => h)))
                have hBw : B < wc.heap.size := W2.out.b.lt (.head _)
                have O5 := Lib.hid (isl_put (isl_put (ho1.keep V5) B 0 (.int .i64 (t + 1)) (fun _ p n c e => by have := hp1 p n c e; omega)) B 1 (.slice a1 n1 r1) (fun _ p n c e => by have := hp1 p n c e; omega))
                obtain ⟨z0, z1⟩ := (W2.out.b.keep K5).fz2 (.head _)
                obtain ⟨t0, t1⟩ := (W2.out.b.keep K5).at2 (.head _)
                have HM := Lib.hid ho1.len
                clear hi1 hn1 hr1 b1 x0 x1 c0 c1 c2 TK ho1 hp1 V5 K5
                go_wp2_with fail
                generalize ((World.alloc w5 _).setCell _ _).setCell _ _ = w6 at P5 O5 ⊢
                have ON := Lib.hid HO.out.count
                have HML := Lib.hid HM.out.1
                go_loopw [8, 14] (fun rg' i W => ∃ j : Nat, j ≤ m1 ∧ i = .int .i64 j ∧ rg' = .int .i64 ((rg + ((rings L (t + 1)).take j).count 0 : Nat) : Int) ∧ Below w6.heap.size w6 W) (fun _ i _ => m1 - (intOf i).toNat)
                case atStart => exact ⟨0, Nat.zero_le _, rfl, rfl, Below.refl _ _⟩
                case round =>
                  obtain ⟨j, hj, rfl, rfl, hb⟩ := hrel
                  have HB := Lib.hid hb
                  clear hb
                  obtain ⟨c, hc⟩ : ∃ c, rg + ((rings L (t + 1)).take j).count 0 = c := ⟨_, rfl⟩
                  rw [hc]
                  have HC := Lib.hid hc
                  have hcb : c ≤ 1 + j := by
                    have h1 := List.count_le_length (a := (0 : Int)) (l := (rings L (t + 1)).take j)
                    rw [List.length_take] at h1
                    have h2 := HRG.out
                    split at h2 <;> omega
                  clear hc
                  have hm9 : m1 ≤ 100000000 := by rw [HML.out]; have := rings_len L (t + 1); omega
                  by_cases hlt : j < m1
                  · obtain ⟨g, off, rfl, d0⟩ := nl_at (O5.out.keep HB.out) hlt
                    have hcs := count_snoc (l := rings L (t + 1)) (j := j) (by rw [← HML.out]; exact hlt)
                    by_cases hz : (rings L (t + 1)).getD j 0 = 0
                    · rw [hz] at d0
                      rw [if_pos hz] at hcs
                      have hpos : 0 < (rings L (t + 1)).count 0 := by
                        rw [List.count_pos_iff, ← hz, getD_lt (by rw [← HML.out]; exact hlt)]
                        exact List.getElem_mem _
                      have htn : (t : Int) + 1 = N := by
                        by_cases h : (t : Int) + 1 = N
                        · exact h
                        · rw [ON.out, if_neg h] at hpos; omega
                      have HCS := Lib.hid hcs
                      clear hcs hpos hz
                      go_wp2_with fail
                      go_roundw
                      case rel => exact ⟨j + 1, by omega, by go_num, by rw [HCS.out, ← Nat.add_assoc, HC.out]; go_num, HB.out⟩
                      case measure => simp [intOf]; omega
                    · rw [if_neg hz] at hcs
                      have HCS := Lib.hid hcs
                      generalize (rings L (t + 1)).getD j 0 = x at d0 hz
                      clear hcs
                      go_wp2_with fail
                      go_roundw
                      case rel => exact ⟨j + 1, by omega, by go_num, by rw [HCS.out, Nat.add_zero, HC.out], HB.out⟩
                      case measure => simp [intOf]; omega
                  · obtain rfl : j = m1 := by omega
                    have hct : (rings L (t + 1)).take j = rings L (t + 1) := by rw [HML.out]; exact List.take_length
                    have hrc : (if N ≤ t + 1 then 1 else 0) = c := by
                      have h1 := HC.out
                      have h2 := HRG.out
                      rw [hct, ON.out, ← h2] at h1
                      rw [← h1]
                      by_cases h3 : N ≤ t
                      · rw [if_pos h3, if_pos (by omega), if_neg (by omega)]
                      · rw [if_neg h3]
                        by_cases h4 : t + 1 = N
                        · rw [if_pos (by omega), if_pos (by omega)]
                        · rw [if_neg (by omega), if_neg (by omega)]
                    have HCC := Lib.hid hrc
                    clear hct hrc
                    go_wp2_with fail
                    go_meet
                    case rel => exact ⟨t + 1, c, rest L (t + 1), a1, n1, r1, by go_num, rfl, ⟨by omega, Nat.le_refl _⟩, fun _ => rfl, HCC.out, Nat.le_succ_of_le (rest_len _ _), by have := HO.out.tick; push_cast; exact this, by have := P5.out.keep HB.out; push_cast; exact this⟩
            case rest =>
              obtain ⟨t', rg', L', xa, xn, xc, rfl, rfl, ht', htk', hrg', hL', hO', hW'⟩ := hcut
              have HO' := Lib.hid hO'
              have W3 := Lib.hid hW'
              have HRG' := Lib.hid hrg'
              clear hO' hW' hrg' c0 c1 c2 W2
              obtain ⟨x0, x1⟩ := W3.out.b.at2 (b := B) (.head _)
              have AR := Lib.hid (armed18_any t' 0 (.slice xa xn xc) L' wc W3.out.lv)
              rw [HO'.out.armed] at AR
              go_wp2_with fail
              refine AR.out.mono ?_
              rintro e w9 ⟨rfl, b9⟩
              have W9 := Lib.hid (W3.out.keep b9)
              clear b9 x0 x1 AR W3
              have hdd : (decide ((t' : Int) < (N : Int)) != decide ((t' : Int) < (N : Int))) = false := by simp
              go_wp2_with fail
              go_roundw
              case rel => exact ⟨k + 1, t', L', xa, xn, xc, by omega, rfl, by rw [HRG'.out], by go_num, by omega, fun h => by by_cases h2 : fn ≤ k; have := htk' h2; omega; omega, by omega, HO'.out, W9.out⟩
              case measure => simp [intOf]; omega
      · obtain rfl : k = fn + 30 := by omega
        have hN9 : N ≤ t := by omega
        have hr1 : rg = 1 := by rw [← HRG.out, if_pos hN9]
        subst hr1
        obtain ⟨x0, x1⟩ := HW.out.b.at2 (b := B) (.head _)
        clear HRG
        go_wp2_with fail
        refine (AW.out _).mono ?_
        rintro e w9 ⟨rfl, b9⟩
        have W9 := Lib.hid (HW.out.keep b9)
        clear x0 x1
        obtain ⟨x0, x1⟩ := W9.out.b.at2 (b := B) (.head _)
        go_wp2_with fail
        go_ret
        exact ⟨rfl, W9.out.b.w⟩
  · have e1 : decide (40 < (fn : Int)) = true := by simp; omega
    go_enter Try.func4, Try.ntmps4
    go_wp2_with fail
    refine (AW.out _).mono ?_
    rintro e w1 ⟨rfl, b1⟩
    have B1 := Lib.hid b1
    clear b1
    go_wp2_with fail
    go_ret
    exact ⟨rfl, B1.out⟩

end Go.Proofs.Ytpbpkeifehobjaa.Tm
