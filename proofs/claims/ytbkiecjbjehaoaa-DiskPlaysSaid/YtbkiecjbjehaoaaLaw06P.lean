/-
  The law of acts one behind the other: the program's disk is the document's.
-/
import Derived.Test.YtbkiecjbjehaoaaDiskDuo
namespace Go.Proofs.Ytbkiecjbjehaoaa.Dsk
open Go.RowKit Go.Proofs.Ytbkiecjbjehaoaa.Dp

set_option maxRecDepth 100000 in
set_option maxHeartbeats 6400000 in
theorem plays_in (v : Value) (l : List Ra) (w : World) (h : IsActs w v l) :
    Calls Try.prog 4 #[v] w fun e w' => e = .returned (.bool true) ∧ Below w.heap.size w w' := by
  obtain ⟨fa, fn, fc, rfl⟩ : ∃ a n c, v = .slice a n c := by obtain ⟨a, c, h, _⟩ := h.1; exact ⟨a, _, c, h⟩
  have HA := Lib.hid h
  have S := fun W : World => fun hx : IsL AL W (.slice fa fn fc) l => short_any _ l W hx
  have AW := Lib.hid fun W : World => awake06 W
  have hfn := h.1.len.1
  clear h
  by_cases hs : Short l
  · rw [decide_eq_true hs] at S
    replace S := Lib.hid S
    have HS := Lib.hid hs
    have hn60 : fn ≤ 60 := by have := hs.1; omega
    clear hs hfn
    obtain ⟨g0, g1, gb, gs⟩ := boxes2 w #[.slice none 0 0, .int .i64 0, .bool false, .int .i64 0, .bool false] #[.slice none 0 0, .int .i64 0, .bool false, .int .i64 0, .bool false] 24 24
    have V0 : Duo w.heap.size w.heap.size (w.heap.size + 1) (.slice none 0 0) (.slice none 0 0) empty _ := ⟨g0, g1, ⟨OwnL.nil _ _, fun h => by cases h⟩, ⟨OwnL.nil _ _, fun h => by cases h⟩, ⟨OwnL.nil _ _, fun h => by cases h⟩, ⟨OwnL.nil _ _, fun h => by cases h⟩, by omega⟩
    replace V0 := Lib.hid V0
    have B0 := Lib.hid gb
    clear g0 g1 gb gs
    go_enter Try.func4, Try.ntmps4
    go_wp2_with fail
    refine (S.out w HA.out.1).mono ?_
    rintro e w0 ⟨rfl, rfl⟩
    go_wp2_with fail
    generalize World.alloc (World.alloc w _) _ = W0 at V0 B0 ⊢
    go_loopw [5] (fun i wr => ∃ (k : Nat) (v1 v2 : Value) (D : Dk), k ≤ fn ∧ i = .int .i64 k ∧ Duo w.heap.size w.heap.size (w.heap.size + 1) v1 v2 D wr ∧ Bd D (k + 1) ∧ Below w.heap.size w wr) (fun i _ => fn - (intOf i).toNat)
    case atStart => exact ⟨0, _, _, _, Nat.zero_le _, rfl, V0.out, Bd.empty.mono (Nat.zero_le _), B0.out⟩
    case round =>
      clear V0 B0
      obtain ⟨k, v1, v2, D, hk, rfl, hV, hB, bel⟩ := hrel
      have HV := Lib.hid hV
      have HB := Lib.hid hB
      have HBel := Lib.hid bel
      have hsz := bel.size
      have hb1 := hV.lt1
      have hb2 := hV.lt2
      clear hV hB
      by_cases hlt : k < fn
      · have HACT := Lib.hid (fun W (b : Below w.heap.size w W) => acts_at HA.out b hlt)
        obtain ⟨hok, g, off, rfl, c0, c1, c2, c3, c4⟩ := acts_at HA.out bel hlt
        have HCA := Lib.hid fun W (b : Below w.heap.size w W) => act_cells HA.out hlt W b
        have hsh := HS.out.at k
        have HR := Lib.hid hok
        have HROK := Lib.hid fun W (b : Below w.heap.size w W) => (acts_at HA.out b hlt).1
        clear HACT
        generalize l.getD k rzero = r at *
        obtain ⟨D', er, hact⟩ : ∃ D' er, act D r.x = (D', er) := ⟨_, _, rfl⟩
        have DO := fun W (hv : IsL FL W v1 D.f) (hr : RaOk W r) => do_any v1 D r W hv (HB.out.sm (by omega)) hr (by omega)
        have WO := fun W (hv : IsL FL W v2 D.f) (hr : RaOk W r) => want_any v2 D r W hv (HB.out.sm (by omega)) hr (by omega)
        rw [hact] at DO WO
        have BD' : Bd D' (k + 2) := by
          have := HB.out.step (a := r.x) hok.1.2.1.2 hsh.2
          rw [hact] at this
          exact this
        replace BD' := Lib.hid BD'
        unfold dkVal raVal at DO WO
        replace DO := Lib.hid DO
        replace WO := Lib.hid WO
        clear hact
        obtain ⟨va, vn, vc, rfl⟩ := own_slice HV.out.h11.1
        obtain ⟨xva, xvn, xvc, rfl⟩ := own_slice HV.out.h22.1
        obtain ⟨p0, p1, p2, p3, p4⟩ := cells5 HV.out.a
        unfold Ra.kv at c4 HCA
        have hgl := block_lt_of_cell c0
        go_wp2_with fail
        go_cut [6, 7] (fun p q w2 => ∃ (s : Nat) (u : Value), p = .pointer (some ⟨s, 0, none⟩) ∧ q = .int .i64 er ∧ DoA w.heap.size w.heap.size (w.heap.size + 1) s (.slice va vn vc) (.slice xva xvn xvc) u D D' w w2)
        case first =>
          have V1 := HV.out.keep (Below.refl _ _).drew
          have DO0 := Lib.hid (DO.out wr.drew (V1.h11.is (HB.out.sm (by omega))) (HR.out.keep (Below.refl _ _).drew))
          have hzb := ((Below.refl _ wr).alloc (Nat.le_refl _) (.cells #[.slice none 0 0, .int .i64 0, .bool false, .int .i64 0, .bool false] 24)).drew
          have DO1 := Lib.hid (DO.out (wr.alloc (.cells #[.slice none 0 0, .int .i64 0, .bool false, .int .i64 0, .bool false] 24)).drew ((HV.out.keep hzb).h11.is (HB.out.sm (by omega))) (HR.out.keep hzb))
          have HZ := Lib.hid (show (wr.alloc (.cells #[.slice none 0 0, .int .i64 0, .bool false, .int .i64 0, .bool false] 24)).drew.heap[wr.heap.size]? = _ from heap_alloc_new wr _)
          have FA := Lib.hid fun v' W' (hk : KeptOr W' wr.drew.heap.size (.slice va vn vc) D.f v' D'.f) (b : Below wr.drew.heap.size wr.drew W') => DoA.after (w := w) V1 hsz hk b HBel.out.drew
          have FB := Lib.hid fun v' W' (hk : KeptOr W' (wr.alloc (.cells #[.slice none 0 0, .int .i64 0, .bool false, .int .i64 0, .bool false] 24)).drew.heap.size (.slice va vn vc) D.f v' D'.f) (b : Below (wr.alloc (.cells #[.slice none 0 0, .int .i64 0, .bool false, .int .i64 0, .bool false] 24)).drew.heap.size _ W') =>
            DoA.before (w := w) (HV.out.keep hzb) HZ.out ((HV.out.h11.to (Nat.le_refl _)).keep hzb) ((HV.out.h21.to (Nat.le_refl _)).keep hzb) (by omega) (by omega) (Nat.le_trans hsz hzb.size) hk b (HBel.out.trans (hzb.mono hsz)) hsz
          unfold Dsk.set5 at FB
          clear V1 hzb DO
          go_region_with (first | ((with_reducible refine DO0.out.mono ?_); rintro e w4 ⟨v4, rfl, hk4, b4⟩; obtain ⟨xa, xn, xc, rfl⟩ := kept_slice hk4 rfl; have HTw := Lib.hid (FA.out (.slice xa xn xc) w4 hk4 b4); clear hk4 b4; unfold dkVal) | ((with_reducible refine DO1.out.mono ?_); rintro e w4 ⟨v4, rfl, hk4, b4⟩; obtain ⟨xa, xn, xc, rfl⟩ := kept_slice hk4 rfl; obtain ⟨q0, q1, q2, q3, q4⟩ := cells5 (hkeep HZ.out b4); obtain ⟨f0, f1, f2, f3, f4⟩ := frozen5 (hkeep HZ.out b4); have HTw := Lib.hid (FB.out (.slice xa xn xc) w4 hk4 b4); clear hk4 b4; unfold dkVal))
          all_goals go_wp2_with fail
          all_goals go_meet
          all_goals
            case rel =>
              first | (with_reducible exact ⟨w4.heap.size, .slice xa xn xc, rfl, rfl, HTw.out⟩) | (with_reducible exact ⟨wr.heap.size, .slice xa xn xc, rfl, rfl, HTw.out⟩)
        case rest =>
          obtain ⟨s, u, rfl, rfl, hT⟩ := hcut
          clear DO p0 p1 p2 p3 p4 c0 c1 c2 c3 c4
          obtain ⟨ua, un, uc, rfl⟩ := own_slice hT.o.k1.1
          have HT := Lib.hid hT
          have hszc := hT.bel.size
          have hb1c := hT.d.lt1
          have hb2c := hT.d.lt2
          have hsc := hT.o.lt
          have hs0 := hT.ht
          obtain ⟨c0, c1, c2, c3, c4⟩ := HCA.out wc hT.bel
          obtain ⟨p0, p1, p2, p3, p4⟩ := cells5 hT.d.b
          have HRc := Lib.hid (HROK.out wc hT.bel)
          have hglc := block_lt_of_cell c0
          clear hT hgl hb1 hb2 hsz
          go_wp2_with fail
          go_cut [8, 9] (fun p q w2 => ∃ (t : Nat) (u : Value), p = .pointer (some ⟨t, 0, none⟩) ∧ q = .int .i64 er ∧ DoB w.heap.size w.heap.size (w.heap.size + 1) s t (.slice va vn vc) (.slice xva xvn xvc) (.slice ua un uc) u D D' w w2)
          case first =>
            have V1 := HT.out.keep (Below.refl _ _).drew
            have WO0 := Lib.hid (WO.out wc.drew (V1.d.h22.is (HB.out.sm (by omega))) (HRc.out.keep (Below.refl _ _).drew))
            have hzb := ((Below.refl _ wc).alloc (Nat.le_refl _) (.cells #[.slice none 0 0, .int .i64 0, .bool false, .int .i64 0, .bool false] 24)).drew
            have WO1 := Lib.hid (WO.out (wc.alloc (.cells #[.slice none 0 0, .int .i64 0, .bool false, .int .i64 0, .bool false] 24)).drew ((HT.out.d.keep hzb).h22.is (HB.out.sm (by omega))) (HRc.out.keep hzb))
            have HZ := Lib.hid (show (wc.alloc (.cells #[.slice none 0 0, .int .i64 0, .bool false, .int .i64 0, .bool false] 24)).drew.heap[wc.heap.size]? = _ from heap_alloc_new wc _)
            have FA := Lib.hid fun v' W' (hk : KeptOr W' wc.drew.heap.size (.slice xva xvn xvc) D.f v' D'.f) (b : Below wc.drew.heap.size wc.drew W') => DoB.after (w := w) V1 hszc hk b
            have FB := Lib.hid fun v' W' (hk : KeptOr W' (wc.alloc (.cells #[.slice none 0 0, .int .i64 0, .bool false, .int .i64 0, .bool false] 24)).drew.heap.size (.slice xva xvn xvc) D.f v' D'.f) (b : Below (wc.alloc (.cells #[.slice none 0 0, .int .i64 0, .bool false, .int .i64 0, .bool false] 24)).drew.heap.size _ W') =>
              DoB.before (w := w) (HT.out.keep hzb) HZ.out ((HT.out.d.h11.to (Nat.le_refl _)).keep hzb) ((HT.out.d.h21.to (Nat.le_refl _)).keep hzb) ((HT.out.o.k1.to (Nat.le_refl _)).keep hzb) (by omega) (by omega) (by omega) (Nat.le_trans hszc hzb.size) hk b hszc
            unfold Dsk.set5 at FB
            clear V1 hzb WO
            go_region_with (first | ((with_reducible refine WO0.out.mono ?_); rintro e w4 ⟨v4, rfl, hk4, b4⟩; obtain ⟨xa, xn, xc, rfl⟩ := kept_slice hk4 rfl; have HTw := Lib.hid (FA.out (.slice xa xn xc) w4 hk4 b4); clear hk4 b4; unfold dkVal) | ((with_reducible refine WO1.out.mono ?_); rintro e w4 ⟨v4, rfl, hk4, b4⟩; obtain ⟨xa, xn, xc, rfl⟩ := kept_slice hk4 rfl; obtain ⟨q0, q1, q2, q3, q4⟩ := cells5 (hkeep HZ.out b4); obtain ⟨f0, f1, f2, f3, f4⟩ := frozen5 (hkeep HZ.out b4); have HTw := Lib.hid (FB.out (.slice xa xn xc) w4 hk4 b4); clear hk4 b4; unfold dkVal))
            all_goals go_wp2_with fail
            all_goals go_meet
            all_goals
              case rel =>
                first | (with_reducible exact ⟨w4.heap.size, .slice xa xn xc, rfl, rfl, HTw.out⟩) | (with_reducible exact ⟨wc.heap.size, .slice xa xn xc, rfl, rfl, HTw.out⟩)
          case rest =>
            obtain ⟨t, u', rfl, rfl, hT2⟩ := hcut
            clear WO p0 p1 p2 p3 p4 c0 c1 c2 c3 c4 HT HRc hszc hb1c hb2c hsc hglc
            obtain ⟨ta, tn, tc, rfl⟩ := own_slice hT2.o.k1.1
            have HS1 := Lib.hid (HB.out.sm (show k + 1 ≤ 1000 by omega))
            have HS2 := Lib.hid (BD'.out.sm (show k + 2 ≤ 1000 by omega))
            have SM1 := rsame_yes (.slice ua un uc) (.slice ta tn tc) D' wc (hT2.a.o.k1.is HS2.out) (hT2.o.k1.is HS2.out)
            unfold dkVal at SM1
            replace SM1 := Lib.hid SM1
            obtain ⟨q0, q1, q2, q3, q4⟩ := cells5 hT2.a.o.h
            obtain ⟨r0, r1, r2, r3, r4⟩ := cells5 hT2.o.h
            have HT := Lib.hid hT2
            clear hT2
            go_wp2_with fail
            refine SM1.out.mono ?_
            rintro e w5 ⟨rfl, b5⟩
            have HT5 := Lib.hid (HT.out.keep b5)
            have SM2 := rsame_yes (.slice va vn vc) (.slice xva xvn xvc) D w5 (HT5.out.a.d.h11.is HS1.out) (HT5.out.a.d.h22.is HS1.out)
            unfold dkVal at SM2
            replace SM2 := Lib.hid SM2
            obtain ⟨d0, d1, d2, d3, d4⟩ := cells5 HT5.out.a.d.a
            obtain ⟨e0, e1, e2, e3, e4⟩ := cells5 HT5.out.a.d.b
            clear b5 q0 q1 q2 q3 q4 r0 r1 r2 r3 r4
            go_wp2_with fail
            refine SM2.out.mono ?_
            rintro e w6 ⟨rfl, b6⟩
            have HT6 := Lib.hid (HT5.out.keep b6)
            have RT := rright_any (.slice ua un uc) D' true w6 (HT6.out.a.o.k1.is HS2.out) ⟨fun _ => HS2.out.r, fun _ => rfl⟩
            unfold dkVal at RT
            replace RT := Lib.hid RT
            obtain ⟨q0, q1, q2, q3, q4⟩ := cells5 HT6.out.a.o.h
            clear b6 d0 d1 d2 d3 d4 e0 e1 e2 e3 e4
            go_wp2_with fail
            refine RT.out.mono ?_
            rintro e w7 ⟨rfl, b7⟩
            have hT7 := HT6.out.keep b7
            obtain ⟨q0, q1, q2, q3, q4⟩ := cells5 hT7.a.o.h
            obtain ⟨r0, r1, r2, r3, r4⟩ := cells5 hT7.o.h
            obtain ⟨d0, d1, d2, d3, d4⟩ := cells5 hT7.a.d.a
            obtain ⟨e0, e1, e2, e3, e4⟩ := cells5 hT7.a.d.b
            obtain ⟨f0, f1, f2, f3, f4⟩ := frozen5 hT7.a.d.a
            obtain ⟨m0, m1, m2, m3, m4⟩ := frozen5 hT7.a.d.b
            have HN1 := Lib.hid ((hT7.a.d.next hT7.a.o hT7.o).keep (Below.refl _ _).drew)
            have NB1 := Lib.hid (bel_set5 (bel_set5 hT7.a.bel (Nat.le_refl w.heap.size) (.slice ua un uc) (.int .i64 D'.c) (.bool D'.a) (.int .i64 D'.l) (.bool D'.x)) (Nat.le_add_right w.heap.size 1) (.slice ta tn tc) (.int .i64 D'.c) (.bool D'.a) (.int .i64 D'.l) (.bool D'.x)).drew
            unfold Dsk.set5 at HN1 NB1
            have n1 := hT7.a.o.n1
            have n2 := hT7.a.o.n2
            have n3 := hT7.o.n1
            have n4 := hT7.o.n2
            have n5 := n1.symm
            have n6 := n2.symm
            have n7 := n3.symm
            have n8 := n4.symm
            clear hT7 b7
            go_wp2_with fail
            go_region
            go_wp2_with fail
            go_roundw
            case rel => exact ⟨k + 1, .slice ua un uc, .slice ta tn tc, D', by omega, by go_num, HN1.out, BD'.out, NB1.out⟩
            case measure => simp [intOf]; omega
      · go_wp2_with fail
        refine (AW.out _).mono ?_
        rintro e w5 ⟨rfl, b5⟩
        go_wp2_with fail
        go_ret
        exact ⟨rfl, bel.trans (b5.mono hsz)⟩
  · rw [decide_eq_false hs] at S
    replace S := Lib.hid S
    clear hs hfn
    go_enter Try.func4, Try.ntmps4
    go_wp2_with fail
    refine (S.out w HA.out.1).mono ?_
    rintro e w0 ⟨rfl, rfl⟩
    go_wp2_with fail
    refine (AW.out _).mono ?_
    rintro e w5 ⟨rfl, b5⟩
    go_wp2_with fail
    go_ret
    exact ⟨rfl, b5⟩

end Go.Proofs.Ytbkiecjbjehaoaa.Dsk
