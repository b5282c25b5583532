/-
  The law of the bound, of acts as a list.
-/
import Derived.Test.YtkfkojgjcedijaaDiskTwo
namespace Go.Proofs.Ytkfkojgjcedijaa.Dsk
open Go.RowKit Go.Proofs.Ytkfkojgjcedijaa.Dp

set_option maxRecDepth 100000 in
set_option maxHeartbeats 6400000 in
theorem full_in (v : Value) (l : List Ra) (a : Int) (w : World) (h : IsActs w v l) (ha : 0 ≤ a ∧ a ≤ 255) :
    Calls Try.prog 6 #[v, .int .u8 a] w fun e w' => e = .returned (.bool true) ∧ Below w.heap.size w w' := by
  obtain ⟨fa, fn, fc, rfl⟩ : ∃ a n c, v = .slice a n c := by obtain ⟨a, c, h, _⟩ := h.1; exact ⟨a, _, c, h⟩
  have HA := Lib.hid h
  have S := fun W : World => fun hx : IsL AL W (.slice fa fn fc) l => short_any _ l W hx
  have AW := Lib.hid fun W : World => awake06 W
  have hfn := h.1.len.1
  clear h
  by_cases hs : Short l
  · rw [decide_eq_true hs] at S
    have S := Lib.hid S
    have HS := Lib.hid hs
    have hn60 : fn ≤ 60 := by have := hs.1; omega
    clear hs hfn
    obtain ⟨N, hN⟩ : ∃ N : Nat, a.toNat = N := ⟨_, rfl⟩
    obtain ⟨ha1, ha2⟩ := ha
    have haN : a = (N : Int) := by omega
    subst haN
    clear hN
    have AR := fun W : World => limit_val (.slice none 0 0) empty (1 + (N : Int)) W (IsL.nil W none 0)
    have FU : (limit empty (1 + (N : Int))).c = 1 + (N : Int) ∧ (used (limit empty (1 + (N : Int))).f : Int) ≤ 1 + (N : Int) := ⟨by show max (1 + (N : Int)) 0 = _; omega, by show ((used [] : Nat) : Int) ≤ _; have : used [] = 0 := rfl; omega⟩
    have BD : Bd (limit empty (1 + (N : Int))) 1 := Bd.empty.step (a := ⟨7, 1 + (N : Int), ⟨#[]⟩, ⟨#[]⟩, []⟩) (by show 1 + (N : Int) ≤ _; omega) (by show (0 : Nat) ≤ 100; omega)
    have hDf : (limit empty (1 + (N : Int))).f = [] := rfl
    generalize limit empty (1 + (N : Int)) = D0 at AR FU BD hDf
    replace FU := Lib.hid FU
    replace BD := Lib.hid BD
    unfold dkVal Dp.empty at AR
    dsimp only at AR
    have AR := Lib.hid AR
    go_enter Try.func6, Try.ntmps6
    go_wp2_with fail
    refine (S.out w HA.out.1).mono ?_
    rintro e w0 ⟨rfl, rfl⟩
    go_wp2_with fail
    refine (AR.out _).mono ?_
    rintro e w1 ⟨rfl, b1⟩
    have V0 := Lib.hid (Var.new (W := w1) (base := w.heap.size) (v := .slice none 0 0) (D := D0) (by rw [hDf]; exact OwnL.nil _ _))
    have B0 := Lib.hid (b1.alloc b1.size (.cells #[.slice none 0 0, .int .i64 D0.c, .bool D0.a, .int .i64 D0.l, .bool D0.x] 24))
    have hb1 := b1.size
    clear b1 hDf
    go_wp2_with fail
    generalize World.alloc w1 _ = W0 at V0 B0 ⊢
    obtain ⟨bb, hbb⟩ : ∃ bb, w1.heap.size = bb := ⟨_, rfl⟩
    rw [hbb] at V0 hb1 ⊢
    clear hbb
    go_loopw [6] (fun i wr => ∃ (k : Nat) (v : Value) (D : Dk), k ≤ fn ∧ i = .int .i64 k ∧ Var wr w.heap.size bb v D ∧ (D.c = 1 + (N : Int) ∧ (used D.f : Int) ≤ 1 + (N : Int)) ∧ Bd D (k + 1) ∧ Below w.heap.size w wr) (fun i _ => fn - (intOf i).toNat)
    case atStart => exact ⟨0, _, _, Nat.zero_le _, rfl, V0.out, FU.out, BD.out, B0.out⟩
    case round =>
      obtain ⟨k, v, D, hk, rfl, hV, hF, hB, bel⟩ := hrel
      have HV := Lib.hid hV
      have HF := Lib.hid hF
      have HB := Lib.hid hB
      have HBel := Lib.hid bel
      have hsz := bel.size
      have hbl := hV.lt
      clear hV hF hB
      by_cases hlt : k < fn
      · obtain ⟨hok, g, off, rfl, c0, c1, c2, c3, c4⟩ := acts_at HA.out bel hlt
        have hsh := HS.out.at k
        have HR := Lib.hid hok
        generalize l.getD k rzero = r at *
        by_cases hk7 : r.x.k = 7
        · have HB' := Lib.hid (HB.out.mono (show k + 1 ≤ k + 1 + 1 by omega))
          rw [hk7] at c0
          clear hk7
          go_wp2_with fail
          go_roundw
          case rel => exact ⟨k + 1, v, D, by omega, by go_num, HV.out, HF.out, HB'.out, bel⟩
          case measure => simp [intOf]; omega
        · obtain ⟨D', er, hact, HX⟩ : ∃ D' er, act D r.x = (D', er) ∧ Hid ((used D'.f : Int) ≤ 1 + (N : Int) ∧ D'.c = 1 + (N : Int) ∧ (er ≠ 0 → { D' with x := D.x } = D)) := by
            have h := act_full (D := D) (a := r.x) (by rw [HF.out.1]; omega) (by rw [HF.out.1]; exact HF.out.2) hk7
            rw [HF.out.1] at h
            exact ⟨_, _, rfl, h.1, h.2.1, h.2.2⟩
          have DO := fun W (hv : IsL FL W v D.f) (hr : RaOk W r) => do_any v D r W hv (HB.out.sm (by omega)) hr (by omega)
          rw [hact] at DO
          have BD' : Bd D' (k + 2) := by
            have := HB.out.step (a := r.x) hok.1.2.1.2 hsh.2
            rw [hact] at this
            exact this
          have BD' := Lib.hid BD'
          unfold dkVal raVal at DO
          have DO := Lib.hid DO
          clear hact
          obtain ⟨va, vn, vc, rfl⟩ := own_slice HV.out.l.1
          obtain ⟨p0, p1, p2, p3, p4⟩ := cells5 HV.out.h
          unfold Ra.kv at c4
          have hgl := block_lt_of_cell c0
          go_wp2_with fail
          go_cut [7, 8] (fun p q w2 => ∃ (t : Nat) (v' : Value), p = .pointer (some ⟨t, 0, none⟩) ∧ q = .int .i64 er ∧ w.heap.size ≤ t ∧ Two2 w.heap.size bb t (.slice va vn vc) v' D D' w w2)
          case first =>
            have V1 := HV.out.keep (Below.refl _ _).drew
            have DO0 := Lib.hid (DO.out wr.drew (V1.l.is (HB.out.sm (by omega))) (HR.out.keep (Below.refl _ _).drew))
            have hzb := ((Below.refl _ wr).alloc (Nat.le_refl _) (.cells #[.slice none 0 0, .int .i64 0, .bool false, .int .i64 0, .bool false] 24)).drew
            have DO1 := Lib.hid (DO.out (wr.alloc (.cells #[.slice none 0 0, .int .i64 0, .bool false, .int .i64 0, .bool false] 24)).drew ((HV.out.keep hzb).l.is (HB.out.sm (by omega))) (HR.out.keep hzb))
            have HZ := Lib.hid (show (wr.alloc (.cells #[.slice none 0 0, .int .i64 0, .bool false, .int .i64 0, .bool false] 24)).drew.heap[wr.heap.size]? = _ from heap_alloc_new wr _)
            have FA := Lib.hid fun v' W' (hk : KeptOr W' wr.drew.heap.size (.slice va vn vc) D.f v' D'.f) (b : Below wr.drew.heap.size wr.drew W') => Two2.after (w := w) V1 hsz hk b HBel.out.drew
            have FB := Lib.hid fun v' W' (hk : KeptOr W' (wr.alloc (.cells #[.slice none 0 0, .int .i64 0, .bool false, .int .i64 0, .bool false] 24)).drew.heap.size (.slice va vn vc) D.f v' D'.f) (b : Below (wr.alloc (.cells #[.slice none 0 0, .int .i64 0, .bool false, .int .i64 0, .bool false] 24)).drew.heap.size _ W') =>
              Two2.before (w := w) (HV.out.keep hzb) ((HV.out.l.to (Nat.le_refl _)).keep hzb) HZ.out (Nat.le_trans hsz hzb.size) (by omega) hk b (HBel.out.trans (hzb.mono hsz)) hsz
            unfold set5 at FB
            have HWR := Lib.hid hsz
            clear V1 hzb DO
            go_region_with (first | ((with_reducible refine DO0.out.mono ?_); rintro e w4 ⟨v4, rfl, hk4, b4⟩; obtain ⟨xa, xn, xc, rfl⟩ := kept_slice hk4 rfl; have HW4 := Lib.hid (show w.heap.size ≤ w4.heap.size from Nat.le_trans hsz b4.size); have HTw := Lib.hid (FA.out (.slice xa xn xc) w4 hk4 b4); clear hk4 b4; unfold dkVal) | ((with_reducible refine DO1.out.mono ?_); rintro e w4 ⟨v4, rfl, hk4, b4⟩; obtain ⟨xa, xn, xc, rfl⟩ := kept_slice hk4 rfl; obtain ⟨q0, q1, q2, q3, q4⟩ := cells5 (hkeep HZ.out b4); obtain ⟨f0, f1, f2, f3, f4⟩ := frozen5 (hkeep HZ.out b4); have HTw := Lib.hid (FB.out (.slice xa xn xc) w4 hk4 b4); clear hk4 b4; unfold dkVal))
            all_goals go_wp2_with fail
            all_goals go_meet
            all_goals
              case rel =>
                first | (with_reducible exact ⟨w4.heap.size, .slice xa xn xc, rfl, rfl, HW4.out, HTw.out⟩) | (with_reducible exact ⟨wr.heap.size, .slice xa xn xc, rfl, rfl, HWR.out, HTw.out⟩)
          case rest =>
            obtain ⟨t, v', rfl, rfl, htw, hT⟩ := hcut
            clear DO
            obtain ⟨xa, xn, xc, rfl⟩ := own_slice hT.tw.n.l.1
            have hSm : Sm D' := BD'.out.sm (by omega)
            have US := Lib.hid (used_any (.slice xa xn xc) D'.f D'.c D'.l D'.a D'.x wc (hT.tw.n.l.is hSm) (by have := hSm.u; omega))
            have HT := Lib.hid hT
            obtain ⟨d0, d1, d2, d3, d4⟩ := cells5 hT.tw.n.h
            obtain ⟨hu1, hc1, hX⟩ := HX.out
            clear hT p0 p1 p2 p3 p4 c0 c1 c2 c3 c4 HX
            obtain ⟨Df, Dc, Da, Dl, Dx⟩ := D'
            obtain ⟨Ef, Ec, Ea, El, Ex⟩ := D
            dsimp only at *
            subst hc1
            have hXX := Lib.hid hX
            clear hX
            obtain ⟨u, hu⟩ : ∃ u, used Df = u := ⟨_, rfl⟩
            rw [hu] at US hu1
            have HU := Lib.hid hu
            clear hu
            go_wp2_with fail
            refine US.out.mono ?_
            rintro e w5 ⟨rfl, b5⟩
            have hT5 := HT.out.keep b5
            have HT5 := Lib.hid hT5
            obtain ⟨d0, d1, d2, d3, d4⟩ := cells5 hT5.tw.n.h
            obtain ⟨f0, f1, f2, f3, f4⟩ := frozen5 hT5.tw.n.h
            obtain ⟨q0, q1, q2, q3, q4⟩ := cells5 hT5.tw.o.h
            obtain ⟨g0, g1, g2, g3, g4⟩ := frozen5 hT5.tw.o.h
            have hne := hT5.ne
            clear hT5 b5 HT US
            have HP := Lib.hid (HT5.out.power htw Ex)
            have HBB := Lib.hid (show Bd ⟨Df, 1 + (N : Int), Da, Dl, Ex⟩ (k + 2) ∧ Bd ⟨Df, 1 + (N : Int), Da, Dl, true⟩ (k + 2) from ⟨⟨BD'.out.b, BD'.out.r, BD'.out.n, BD'.out.u⟩, ⟨BD'.out.b, BD'.out.r, BD'.out.n, BD'.out.u⟩⟩)
            have HUU := Lib.hid (show (used Df : Int) ≤ 1 + (N : Int) by rw [HU.out]; exact hu1)
            by_cases her : er = 0
            · subst her
              have HN := Lib.hid HP.out.tw.next
              have HNB := Lib.hid (bel_set5 HP.out.tw.b hb1 (.slice xa xn xc) (.int .i64 (1 + (N : Int))) (.bool Da) (.int .i64 Dl) (.bool Ex))
              clear HP HT5
              go_wp2_with fail
              go_roundw
              case rel => exact ⟨k + 1, .slice xa xn xc, ⟨Df, 1 + (N : Int), Da, Dl, Ex⟩, by omega, by go_num, HN.out, ⟨rfl, HUU.out⟩, HBB.out.1, HNB.out⟩
              case measure => simp [intOf]; omega
            · have hD := hXX.out her
              injection hD with hD1 hD2 hD3 hD4
              subst hD1 hD2 hD3 hD4
              have hSm2 : Sm ⟨Df, 1 + (N : Int), Da, Dl, Ex⟩ := HBB.out.1.sm (by omega)
              have SM := rsame_yes (.slice xa xn xc) (.slice va vn vc) ⟨Df, 1 + (N : Int), Da, Dl, Ex⟩ (w5.setCell ⟨t, 4, none⟩ (.bool Ex)) (HP.out.tw.n.l.is hSm2) (HP.out.tw.o.l.is hSm2)
              unfold dkVal at SM
              replace SM := Lib.hid SM
              have e0 : (er != 0) = true := by simpa using her
              clear hSm2
              go_wp2_with fail
              refine SM.out.mono ?_
              rintro e w7 ⟨rfl, b7⟩
              have hT7 := HP.out.keep b7
              obtain ⟨d0, d1, d2, d3, d4⟩ := cells5 hT7.tw.n.h
              obtain ⟨f0, f1, f2, f3, f4⟩ := frozen5 hT7.tw.n.h
              obtain ⟨q0, q1, q2, q3, q4⟩ := cells5 hT7.tw.o.h
              obtain ⟨g0, g1, g2, g3, g4⟩ := frozen5 hT7.tw.o.h
              by_cases h10 : er = 10
              · subst h10
                have HP2 := hT7.power htw true
                have HN := Lib.hid HP2.tw.next
                have HNB := Lib.hid (bel_set5 HP2.tw.b hb1 (.slice xa xn xc) (.int .i64 (1 + (N : Int))) (.bool Da) (.int .i64 Dl) (.bool true))
                clear HP HT5 hT7 HP2 b7 SM
                go_wp2_with fail
                go_roundw
                case rel => exact ⟨k + 1, .slice xa xn xc, ⟨Df, 1 + (N : Int), Da, Dl, true⟩, by omega, by go_num, HN.out, ⟨rfl, HUU.out⟩, HBB.out.2, HNB.out⟩
                case measure => simp [intOf]; omega
              · have e1 : (er == 10) = false := by simpa using h10
                have HN := Lib.hid hT7.tw.next
                have HNB := Lib.hid (bel_set5 hT7.tw.b hb1 (.slice xa xn xc) (.int .i64 (1 + (N : Int))) (.bool Da) (.int .i64 Dl) (.bool Ex))
                clear HP HT5 hT7 b7 SM
                go_wp2_with fail
                go_roundw
                case rel => exact ⟨k + 1, .slice xa xn xc, ⟨Df, 1 + (N : Int), Da, Dl, Ex⟩, by omega, by go_num, HN.out, ⟨rfl, HUU.out⟩, HBB.out.1, HNB.out⟩
                case measure => simp [intOf]; omega
      · go_wp2_with fail
        refine (AW.out _).mono ?_
        rintro e w5 ⟨rfl, b5⟩
        go_wp2_with fail
        go_ret
        exact ⟨rfl, bel.trans (b5.mono hsz)⟩
  · rw [decide_eq_false hs] at S
    have S := Lib.hid S
    clear hs hfn
    go_enter Try.func6, Try.ntmps6
    go_wp2_with fail
    refine (S.out w HA.out.1).mono ?_
    rintro e w0 ⟨rfl, rfl⟩
    go_wp2_with fail
    refine (AW.out _).mono ?_
    rintro e w5 ⟨rfl, b5⟩
    go_wp2_with fail
    go_ret
    exact ⟨rfl, b5⟩

end Go.Proofs.Ytkfkojgjcedijaa.Dsk
