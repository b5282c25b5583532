/-
  The law of the fuse, of acts as a list.
-/
import Derived.Test.YtkfkojgjcedijaaDiskVar
namespace Go.Proofs.Ytkfkojgjcedijaa.Dsk
open Go.RowKit Go.Proofs.Ytkfkojgjcedijaa.Dp

theorem field_down (a : Option Addr) (n c : Nat) (x y : Int) (d e : Bool) (w : World) : (Instr.field 24 (.agg #[.slice a n c, .int .i64 x, .bool d, .int .i64 y, .bool e]) 4).run Try.prog w = .ok (.bool e) w := by kernel_rfl

set_option maxRecDepth 100000 in
set_option maxHeartbeats 6400000 in
theorem fuse_in (v : Value) (l : List Ra) (a : Int) (w : World) (h : IsActs w v l) (ha : 0 ≤ a ∧ a ≤ 255) :
    Calls Try.prog 7 #[v, .int .u8 a] w fun e w' => e = .returned (.bool true) ∧ Below w.heap.size w w' := by
  obtain ⟨fa, fn, fc, rfl⟩ : ∃ a n c, v = .slice a n c := by obtain ⟨a, c, h, _⟩ := h.1; exact ⟨a, _, c, h⟩
  have HA := Lib.hid h
  have S := fun W : World => fun hx : IsL AL W (.slice fa fn fc) l => short_any _ l W hx
  have AW := Lib.hid fun W : World => awake06 W
  have hfn := h.1.len.1
  clear h
  by_cases hs : Short l
  · rw [decide_eq_true hs] at S
    have S := Lib.hid S
    have HS := Lib.hid hs
    have hn60 : fn ≤ 60 := by have := hs.1; omega
    clear hs hfn
    obtain ⟨N, hN⟩ : ∃ N : Nat, (a.toNat % 20 = N) := ⟨_, rfl⟩
    have hN20 : N < 20 := by omega
    have hmod : a.tmod 20 = (N : Int) := by rw [Int.tmod_eq_emod_of_nonneg ha.1]; omega
    have hmod2 : a % 20 = (N : Int) := by omega
    obtain ⟨ha1, ha2⟩ := ha
    clear hN
    have AR := fun W : World => arm_val (.slice none 0 0) empty (N : Int) W (IsL.nil W none 0)
    have FU := Fuse.start (N : Int) (by omega)
    have BD : Bd (arm empty (N : Int)) 1 := Bd.empty.step (a := ⟨6, (N : Int), ⟨#[]⟩, ⟨#[]⟩, []⟩) (by show (N : Int) ≤ _; omega) (by show (0 : Nat) ≤ 100; omega)
    have hDf : (arm empty (N : Int)).f = [] := rfl
    generalize arm empty (N : Int) = D0 at AR FU BD hDf
    have FU := Lib.hid FU
    have BD := Lib.hid BD
    unfold dkVal Dp.empty at AR
    dsimp only at AR
    have AR := Lib.hid AR
    go_enter Try.func7, Try.ntmps7
    go_wp2_with fail
    refine (S.out w HA.out.1).mono ?_
    rintro e w0 ⟨rfl, rfl⟩
    go_wp2_with fail
    refine (AR.out _).mono ?_
    rintro e w1 ⟨rfl, b1⟩
    have V0 := Lib.hid (Var.new (W := w1) (base := w.heap.size) (v := .slice none 0 0) (D := D0) (by rw [hDf]; exact OwnL.nil _ _))
    have B0 := Lib.hid (b1.alloc b1.size (.cells #[.slice none 0 0, .int .i64 D0.c, .bool D0.a, .int .i64 D0.l, .bool D0.x] 24))
    have hb1 := b1.size
    clear b1 hDf
    go_wp2_with fail
    generalize World.alloc w1 _ = W0 at V0 B0 ⊢
    obtain ⟨bb, hbb⟩ : ∃ bb, w1.heap.size = bb := ⟨_, rfl⟩
    rw [hbb] at V0 hb1 ⊢
    clear hbb
    go_loopw [6, 7] (fun d i wr => ∃ (k : Nat) (dn : Int) (v : Value) (D : Dk), k ≤ fn ∧ i = .int .i64 k ∧ d = .int .i64 dn ∧ 0 ≤ dn ∧ Var wr w.heap.size bb v D ∧ Fuse (N : Int) D dn ∧ Bd D (k + 1) ∧ Below w.heap.size w wr) (fun _ i _ => fn - (intOf i).toNat)
    case atStart => exact ⟨0, 0, _, _, Nat.zero_le _, rfl, rfl, Int.le_refl _, V0.out, FU.out, BD.out, B0.out⟩
    case round =>
      obtain ⟨k, dn, v, D, hk, rfl, rfl, hdn, hV, hF, hB, bel⟩ := hrel
      have HV := Lib.hid hV
      have HF := Lib.hid hF
      have HB := Lib.hid hB
      have HBel := Lib.hid bel
      have hle : dn ≤ (N : Int) := by have := hF.left; have := hF.ge; omega
      have hsz := bel.size
      have hbl := hV.lt
      clear hV hF hB
      by_cases hlt : k < fn
      · obtain ⟨hok, g, off, rfl, c0, c1, c2, c3, c4⟩ := acts_at HA.out bel hlt
        have hsh := HS.out.at k
        have HR := Lib.hid hok
        generalize l.getD k rzero = r at *
        by_cases hk5 : 0 ≤ r.x.k ∧ r.x.k ≤ 5
        · obtain ⟨hk0, hk5⟩ := hk5
          have i1 : ¬ (r.x.k < 0) := by omega
          have i2 : ¬ (5 < r.x.k) := by omega
          obtain ⟨er, D', hact, hcase⟩ := HF.out.step (a := r.x) hk0 hk5
          have DO := fun W (hv : IsL FL W v D.f) (hr : RaOk W r) => do_any v D r W hv (HB.out.sm (by omega)) hr (by omega)
          rw [hact] at DO
          have BD' : Bd D' (k + 2) := by
            have := HB.out.step (a := r.x) hok.1.2.1.2 hsh.2
            rw [hact] at this
            exact this
          have BD' := Lib.hid BD'
          unfold dkVal raVal at DO
          have DO := Lib.hid DO
          clear hact
          obtain ⟨va, vn, vc, rfl⟩ := own_slice HV.out.l.1
          obtain ⟨p0, p1, p2, p3, p4⟩ := cells5 HV.out.h
          unfold Ra.kv at c4
          have hgl := block_lt_of_cell c0
          go_wp2_with fail
          go_cut [8, 9] (fun p q w2 => ∃ (t : Nat) (v' : Value), p = .pointer (some ⟨t, 0, none⟩) ∧ q = .int .i64 er ∧ Two w.heap.size bb t (.slice va vn vc) v' D D' w w2)
          case first =>
            have V1 := HV.out.keep (Below.refl _ _).drew
            have DO0 := Lib.hid (DO.out wr.drew (V1.l.is (HB.out.sm (by omega))) (HR.out.keep (Below.refl _ _).drew))
            have hzb := ((Below.refl _ wr).alloc (Nat.le_refl _) (.cells #[.slice none 0 0, .int .i64 0, .bool false, .int .i64 0, .bool false] 24)).drew
            have DO1 := Lib.hid (DO.out (wr.alloc (.cells #[.slice none 0 0, .int .i64 0, .bool false, .int .i64 0, .bool false] 24)).drew ((HV.out.keep hzb).l.is (HB.out.sm (by omega))) (HR.out.keep hzb))
            have HZ := Lib.hid (show (wr.alloc (.cells #[.slice none 0 0, .int .i64 0, .bool false, .int .i64 0, .bool false] 24)).drew.heap[wr.heap.size]? = _ from heap_alloc_new wr _)
            have FA := Lib.hid fun v' W' (hk : KeptOr W' wr.drew.heap.size (.slice va vn vc) D.f v' D'.f) (b : Below wr.drew.heap.size wr.drew W') => Two.after (w := w) V1 hsz hk b HBel.out.drew
            have FB := Lib.hid fun v' W' (hk : KeptOr W' (wr.alloc (.cells #[.slice none 0 0, .int .i64 0, .bool false, .int .i64 0, .bool false] 24)).drew.heap.size (.slice va vn vc) D.f v' D'.f) (b : Below (wr.alloc (.cells #[.slice none 0 0, .int .i64 0, .bool false, .int .i64 0, .bool false] 24)).drew.heap.size _ W') =>
              Two.before (w := w) (HV.out.keep hzb) ((HV.out.l.to (Nat.le_refl _)).keep hzb) HZ.out (Nat.le_trans hsz hzb.size) (by omega) hk b (HBel.out.trans (hzb.mono hsz)) hsz
            unfold set5 at FB
            clear V1 hzb DO
            go_region_with (first | ((with_reducible refine DO0.out.mono ?_); rintro e w4 ⟨v4, rfl, hk4, b4⟩; obtain ⟨xa, xn, xc, rfl⟩ := kept_slice hk4 rfl; have HTw := Lib.hid (FA.out (.slice xa xn xc) w4 hk4 b4); clear hk4 b4; unfold dkVal) | ((with_reducible refine DO1.out.mono ?_); rintro e w4 ⟨v4, rfl, hk4, b4⟩; obtain ⟨xa, xn, xc, rfl⟩ := kept_slice hk4 rfl; obtain ⟨q0, q1, q2, q3, q4⟩ := cells5 (hkeep HZ.out b4); obtain ⟨f0, f1, f2, f3, f4⟩ := frozen5 (hkeep HZ.out b4); have HTw := Lib.hid (FB.out (.slice xa xn xc) w4 hk4 b4); clear hk4 b4; unfold dkVal))
            all_goals go_wp2_with fail
            all_goals go_meet
            all_goals
              case rel =>
                first | (with_reducible exact ⟨w4.heap.size, .slice xa xn xc, rfl, rfl, HTw.out⟩) | (with_reducible exact ⟨wr.heap.size, .slice xa xn xc, rfl, rfl, HTw.out⟩)
          case rest =>
            obtain ⟨t, v', rfl, rfl, hT⟩ := hcut
            clear DO
            obtain ⟨xa, xn, xc, rfl⟩ := own_slice hT.n.l.1
            have HN := hT.next
            have HNB := bel_set5 hT.b hb1 (.slice xa xn xc) (.int .i64 D'.c) (.bool D'.a) (.int .i64 D'.l) (.bool D'.x)
            obtain ⟨d0, d1, d2, d3, d4⟩ := cells5 hT.n.h
            obtain ⟨q0, q1, q2, q3, q4⟩ := cells5 hT.o.h
            obtain ⟨f0, f1, f2, f3, f4⟩ := frozen5 hT.o.h
            clear hT p0 p1 p2 p3 p4 c0 c1 c2 c3 c4
            obtain ⟨Df, Dc, Da, Dl, Dx⟩ := D'
            dsimp only at *
            rcases hcase with ⟨rfl, hF', rfl⟩ | ⟨hne, hF', ⟨rfl, rfl, hdN⟩ | ⟨hn10, rfl⟩⟩
            · have HN := Lib.hid HN
              have HNB := Lib.hid HNB
              have hle' : dn + 1 ≤ (N : Int) := by have := hF'.left; have := hF'.ge; omega
              have HF' := Lib.hid hF'
              clear hF'
              go_wp2_with fail
              go_roundw
              case rel => first | exact ⟨k + 1, dn + 1, _, _, by omega, by go_num, by go_num, by omega, HN.out, HF'.out, BD'.out, HNB.out⟩ | ((repeat apply Exists.intro); exact ⟨⟨k + 1, dn + 1, _, _, by omega, by go_num, by go_num, by omega, HN.out, HF'.out, BD'.out, HNB.out⟩, rfl⟩)
              case measure => simp [intOf]; omega
            · have HN := Lib.hid HN
              have HNB := Lib.hid HNB
              have HF' := Lib.hid hF'
              clear hF'
              subst hdN
              go_wp2_with fail
              go_roundw
              case rel => first | exact ⟨k + 1, _, _, _, by omega, by go_num, rfl, by omega, HN.out, HF'.out, BD'.out, HNB.out⟩ | ((repeat apply Exists.intro); exact ⟨⟨k + 1, _, _, _, by omega, by go_num, rfl, by omega, HN.out, HF'.out, BD'.out, HNB.out⟩, rfl⟩)
              case measure => simp [intOf]; omega
            · have HN := Lib.hid HN
              have HNB := Lib.hid HNB
              have HF' := Lib.hid hF'
              have e1 : (er == 0) = false := by simpa using hne
              have e2 : (er == 10) = false := by simpa using hn10
              clear hF'
              go_wp2_with fail
              go_roundw
              case rel => first | exact ⟨k + 1, _, _, _, by omega, by go_num, rfl, by omega, HN.out, HF'.out, BD'.out, HNB.out⟩ | ((repeat apply Exists.intro); exact ⟨⟨k + 1, _, _, _, by omega, by go_num, rfl, by omega, HN.out, HF'.out, BD'.out, HNB.out⟩, rfl⟩)
              case measure => simp [intOf]; omega
        · have HB' := Lib.hid (HB.out.mono (show k + 1 ≤ k + 1 + 1 by omega))
          have hk5' : r.x.k < 0 ∨ 5 < r.x.k := by omega
          clear hk5
          rcases hk5' with i1 | i1
          · go_wp2_with fail
            go_roundw
            case rel => exact ⟨k + 1, dn, v, D, by omega, by go_num, rfl, hdn, HV.out, HF.out, HB'.out, bel⟩
            case measure => simp [intOf]; omega
          · have i2 : ¬ (r.x.k < 0) := by omega
            go_wp2_with fail
            go_roundw
            case rel => exact ⟨k + 1, dn, v, D, by omega, by go_num, rfl, hdn, HV.out, HF.out, HB'.out, bel⟩
            case measure => simp [intOf]; omega
      · go_wp2_with fail
        refine (AW.out _).mono ?_
        rintro e w5 ⟨rfl, b5⟩
        have V5 := HV.out.keep b5
        have BB5 := Lib.hid (bel.trans (b5.mono hsz))
        have HSm := HB.out.sm (by omega)
        have CR := Lib.hid (crash_any v D (.slice none 0 0) [] w5 (V5.l.is HSm) HSm (IsL.nil w5 none 0))
        obtain ⟨va, vn, vc, rfl⟩ := own_slice V5.l.1
        obtain ⟨p0, p1, p2, p3, p4⟩ := cells5 V5.h
        have hsz5 := BB5.out.size
        clear V5 b5 HSm
        unfold dkVal crash at CR
        dsimp only at CR
        go_wp2_with fail
        refine CR.out.mono ?_
        rintro e w6 ⟨v6, rfl, ho6, b6⟩
        obtain ⟨ya, yn, yc, rfl⟩ := own_slice ho6
        clear ho6
        have hfd := field_down
        go_wp2_with fail
        go_ret
        exact ⟨rfl, BB5.out.trans (b6.mono hsz5)⟩
  · rw [decide_eq_false hs] at S
    have S := Lib.hid S
    clear hs hfn
    go_enter Try.func7, Try.ntmps7
    go_wp2_with fail
    refine (S.out w HA.out.1).mono ?_
    rintro e w0 ⟨rfl, rfl⟩
    go_wp2_with fail
    refine (AW.out _).mono ?_
    rintro e w5 ⟨rfl, b5⟩
    go_wp2_with fail
    go_ret
    exact ⟨rfl, b5⟩

end Go.Proofs.Ytkfkojgjcedijaa.Dsk
