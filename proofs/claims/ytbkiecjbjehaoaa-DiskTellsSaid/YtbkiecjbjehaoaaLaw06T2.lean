/-
  The law of any disk and any act: few files, few bytes.
-/
import Derived.Test.YtbkiecjbjehaoaaLaw06T
namespace Go.Proofs.Ytbkiecjbjehaoaa.Dsk
open Go.RowKit Go.Proofs.Ytbkiecjbjehaoaa.Dp

theorem sl_own {W : World} {B : Nat} {v : Value} {l : List ByteArray} (h : OwnL SL W B v l) (hm : l.length ≤ maxLen) : ∃ a c, v = .slice a l.length c ∧ IsL SL W v l := by
  have hi := h.is hm (fun _ _ => trivial)
  have hi' := hi
  obtain ⟨a, c, e, _⟩ := hi'
  exact ⟨a, c, e, hi⟩

theorem kc {w1 w2 : World} {b o : Nat} {x : Value} (h : w1.cell? ⟨b, o, none⟩ = some x) (hb : Below w1.heap.size w1 w2) : w2.cell? ⟨b, o, none⟩ = some x := (hb.cell (p := ⟨b, o, none⟩) (block_lt_of_cell h)).trans h
theorem c15 {A1 A2 A3 A4 A5 B1 B2 B3 B4 B5 C1 C2 C3 C4 C5 Z : Prop} (h : A1 ∧ A2 ∧ A3 ∧ A4 ∧ A5 ∧ B1 ∧ B2 ∧ B3 ∧ B4 ∧ B5 ∧ C1 ∧ C2 ∧ C3 ∧ C4 ∧ C5 ∧ Z) : Z := h.2.2.2.2.2.2.2.2.2.2.2.2.2.2.2
theorem k15 {w w1 w2 : World} {a b c : Nat} {x0 x1 x2 x3 x4 y0 y1 y2 y3 y4 z0 z1 z2 z3 z4 : Value}
    (h : w1.cell? ⟨a, 0, none⟩ = some x0 ∧ w1.cell? ⟨a, 1, none⟩ = some x1 ∧ w1.cell? ⟨a, 2, none⟩ = some x2 ∧ w1.cell? ⟨a, 3, none⟩ = some x3 ∧ w1.cell? ⟨a, 4, none⟩ = some x4 ∧ w1.cell? ⟨b, 0, none⟩ = some y0 ∧ w1.cell? ⟨b, 1, none⟩ = some y1 ∧ w1.cell? ⟨b, 2, none⟩ = some y2 ∧ w1.cell? ⟨b, 3, none⟩ = some y3 ∧ w1.cell? ⟨b, 4, none⟩ = some y4 ∧
      w1.cell? ⟨c, 0, none⟩ = some z0 ∧ w1.cell? ⟨c, 1, none⟩ = some z1 ∧ w1.cell? ⟨c, 2, none⟩ = some z2 ∧ w1.cell? ⟨c, 3, none⟩ = some z3 ∧ w1.cell? ⟨c, 4, none⟩ = some z4 ∧ Below w.heap.size w w1) (hb : Below w1.heap.size w1 w2) :
    w2.cell? ⟨a, 0, none⟩ = some x0 ∧ w2.cell? ⟨a, 1, none⟩ = some x1 ∧ w2.cell? ⟨a, 2, none⟩ = some x2 ∧ w2.cell? ⟨a, 3, none⟩ = some x3 ∧ w2.cell? ⟨a, 4, none⟩ = some x4 ∧ w2.cell? ⟨b, 0, none⟩ = some y0 ∧ w2.cell? ⟨b, 1, none⟩ = some y1 ∧ w2.cell? ⟨b, 2, none⟩ = some y2 ∧ w2.cell? ⟨b, 3, none⟩ = some y3 ∧ w2.cell? ⟨b, 4, none⟩ = some y4 ∧
      w2.cell? ⟨c, 0, none⟩ = some z0 ∧ w2.cell? ⟨c, 1, none⟩ = some z1 ∧ w2.cell? ⟨c, 2, none⟩ = some z2 ∧ w2.cell? ⟨c, 3, none⟩ = some z3 ∧ w2.cell? ⟨c, 4, none⟩ = some z4 ∧ Below w.heap.size w w2 := by
  obtain ⟨h0, h1, h2, h3, h4, i0, i1, i2, i3, i4, j0, j1, j2, j3, j4, hz⟩ := h
  exact ⟨kc h0 hb, kc h1 hb, kc h2 hb, kc h3 hb, kc h4 hb, kc i0 hb, kc i1 hb, kc i2 hb, kc i3 hb, kc i4 hb, kc j0 hb, kc j1 hb, kc j2 hb, kc j3 hb, kc j4 hb, hz.trans (hb.mono hz.size)⟩

set_option maxRecDepth 100000 in
set_option maxHeartbeats 6400000 in
theorem tells_few (fv : Value) (D : Dk) (r : Ra) (w : World) (hv : IsL FL w fv D.f) (hD : DkB D) (hr : RaOk w r) (hf : FewF D.f) (hs : Short [r]) :
    Calls Try.prog 3 #[dkVal fv D, raVal r] w fun e w' => e = .returned (.bool true) ∧ Below w.heap.size w w' := by
  obtain ⟨fa, fn, fc, rfl⟩ : ∃ a n c, fv = .slice a n c := by obtain ⟨a, c, h, _⟩ := hv; exact ⟨a, _, c, h⟩
  have HV := Lib.hid hv
  have HRB := Lib.hid hr.1
  have HR := Lib.hid hr
  obtain ⟨b, hb⟩ : ∃ b : Bool, (b = true ↔ Right D) := by
    by_cases h : Right D
    · exact ⟨true, by simp [h]⟩
    · exact ⟨false, by simp [h]⟩
  have R1 := Lib.hid fun (W : World) (h : Bx (.slice fa fn fc) D r w W) => right_any (.slice fa fn fc) D b W (HV.out.keep h.bel) hb
  have R2 := Lib.hid fun (W : World) (h : Bx (.slice fa fn fc) D r w W) => rright_any (.slice fa fn fc) D b W (HV.out.keep h.bel) hb
  have AW := Lib.hid fun W : World => awake06 W
  have SH := fun (W : World) => short_any _ [r] _ (al_one W r HRB.out)
  have FW := fun (W : World) (h : Bx (.slice fa fn fc) D r w W) => rfew_any (.slice fa fn fc) D _ W (HV.out.keep h.bel) rfl
  have hsz := hs.2 r (by simp)
  have hfu := few_used hf
  have hfn := hf.1
  have HSM := Lib.hid (show b = true → Sm D from fun h => ⟨hD, hb.1 h, by omega, by omega⟩)
  have hrt := hsz.2
  have HX := Lib.hid (show b = true → Sm (act D r.x).1 from fun h => act_sm (HSM.out h) (by omega) (by omega) hr.1.2.1.2 (by omega))
  obtain ⟨D', er, hact⟩ : ∃ D' er, act D r.x = (D', er) := ⟨_, _, rfl⟩
  have DO := fun (hS : Sm D) W (hv : IsL FL W (.slice fa fn fc) D.f) (hr : RaOk W r) => do_any (.slice fa fn fc) D r W hv hS hr (by omega)
  have WO := fun (hS : Sm D) W (hv : IsL FL W (.slice fa fn fc) D.f) (hr : RaOk W r) => want_any (.slice fa fn fc) D r W hv hS hr (by omega)
  rw [hact] at DO WO HX
  have RD := Lib.hid fun (hS : Sm D) (W : World) (h : Bx (.slice fa fn fc) D r w W) => read_any (.slice fa fn fc) D r.x.n W (HV.out.keep h.bel) hS.r.2.1 (by have := hS.n; omega)
  have RR := Lib.hid fun (W : World) (h : Bx (.slice fa fn fc) D r w W) => rread_any (.slice fa fn fc) D r.x.n W (HV.out.keep h.bel)
  have NA := Lib.hid fun (W : World) (h : Bx (.slice fa fn fc) D r w W) => names_any (.slice fa fn fc) D W (HV.out.keep h.bel) (by omega)
  have NB := Lib.hid fun (W : World) (h : Bx (.slice fa fn fc) D r w W) => rnames_any (.slice fa fn fc) D W (HV.out.keep h.bel) (by omega)
  have US := Lib.hid fun (W : World) (h : Bx (.slice fa fn fc) D r w W) => used_any (.slice fa fn fc) D.f D.c D.l D.a D.x W (HV.out.keep h.bel) (by omega)
  have RU := Lib.hid fun (W : World) (h : Bx (.slice fa fn fc) D r w W) => rused_any (.slice fa fn fc) D W (HV.out.keep h.bel) (by omega)
  rw [decide_eq_true hf] at FW
  rw [decide_eq_true hs] at SH
  replace FW := Lib.hid FW
  replace SH := Lib.hid SH
  obtain ⟨g0, g1, gb, gs⟩ := boxes2 w #[.slice fa fn fc, .int .i64 D.c, .bool D.a, .int .i64 D.l, .bool D.x] #[.int .i64 r.x.k, .int .i64 r.x.i, .string r.x.n, .string r.x.t, .slice r.a r.n r.c] 24 27
  have H0 : Bx (.slice fa fn fc) D r w _ := ⟨g0, g1, gb⟩
  replace H0 := Lib.hid H0
  clear g0 g1 gb gs hv hr hD hb hf hs hsz hfu hact hfn hrt
  obtain ⟨rv, hrv⟩ : ∃ rv, readVal D.f r.x.n = rv := ⟨_, rfl⟩
  rw [hrv] at RD RR
  obtain ⟨rs, re, hrse⟩ : ∃ (s : ByteArray) (e : Int), rv = .tuple #[.string s, .int .i64 e] := by
    rw [← hrv]
    unfold readVal
    split
    · exact ⟨_, _, rfl⟩
    · exact ⟨_, _, rfl⟩
  rw [hrse] at RD RR
  clear hrv hrse
  unfold dkVal at R1 R2 FW RD RR NA NB RU DO WO ⊢
  unfold raVal at DO WO ⊢
  replace DO := Lib.hid DO
  replace WO := Lib.hid WO
  obtain ⟨p0, p1, p2, p3, p4⟩ := cells5 H0.out.a
  obtain ⟨a0, a1, a2, a3, a4⟩ := cells5 H0.out.b
  go_enter Try.func3, Try.ntmps3
  go_wp2_with fail
  generalize World.alloc (World.alloc w _) _ = w0 at H0 p0 p1 p2 p3 p4 a0 a1 a2 a3 a4 ⊢
  go_cut [31] (fun v w2 => v = .bool false ∧ Below w0.heap.size w0 w2)
  case first =>
    have H0d := Lib.hid (H0.out.keep (Below.refl _ _).drew)
    go_region_with (first | (go_at_call 6; (first | refine (FW.out _ H0d.out).mono ?_ | refine (FW.out _ H0.out).mono ?_); rintro e w1 ⟨rfl, b1⟩; have B1 := Lib.hid (show Below w0.heap.size w0 w1 from (by first | exact b1 | exact (Below.refl _ w0).drew.trans b1)); have H1 := Lib.hid (H0.out.keep B1.out); obtain ⟨a0, a1, a2, a3, a4⟩ := cells5 H1.out.b; clear b1) | (go_at_call 7; refine (SH.out _).mono ?_; rintro e w2 ⟨rfl, rfl⟩; have B2 := Lib.hid (B1.out.alloc B1.out.size (.cells #[.int .i64 r.x.k, .int .i64 r.x.i, .string r.x.n, .string r.x.t, .slice r.a r.n r.c] 27)); have H2 := Lib.hid (H0.out.keep B2.out); obtain ⟨p0, p1, p2, p3, p4⟩ := cells5 H2.out.a) | (go_at_call 8; refine (R1.out _ H2.out).mono ?_; rintro e w3 ⟨rfl, b3⟩; have H3 := Lib.hid (H2.out.keep b3); have B3 := Lib.hid (B2.out.trans (b3.mono B2.out.size)); obtain ⟨p0, p1, p2, p3, p4⟩ := cells5 H3.out.a; clear b3) | (go_at_call 9; refine (R2.out _ H3.out).mono ?_; rintro e w4 ⟨rfl, b4⟩; have B4 := Lib.hid (B3.out.trans (b4.mono B3.out.size)); clear b4))
    all_goals go_wp2_with fail
    all_goals go_meet
    all_goals
      case rel => first | exact ⟨by first | rfl | simp, B4.out⟩ | exact ⟨by first | rfl | simp, B4.out.drew⟩
  case rest =>
    obtain ⟨rfl, bc⟩ := hcut
    have H2 := Lib.hid (H0.out.keep bc)
    clear p0 p1 p2 p3 p4 a0 a1 a2 a3 a4 bc R1
    obtain ⟨p0, p1, p2, p3, p4⟩ := cells5 H2.out.a
    have R3 := Lib.hid (R2.out wc H2.out)
    clear R2
    cases b with
    | false =>
      go_wp2_with fail
      refine R3.out.mono ?_
      rintro e w5 ⟨rfl, b5⟩
      have H5 := Lib.hid (H2.out.keep b5)
      clear b5
      go_wp2_with fail
      refine (AW.out _).mono ?_
      rintro e w6 ⟨rfl, b6⟩
      have H6 := Lib.hid (H5.out.keep b6)
      clear b6
      go_wp2_with fail
      go_ret
      exact ⟨rfl, H6.out.bel⟩
    | true =>
      have hSM := HSM.out rfl
      have hX := HX.out rfl
      have HS1 := Lib.hid hSM
      have HS2 := Lib.hid hX
      clear hSM hX HX HSM
      go_wp2_with fail
      refine R3.out.mono ?_
      rintro e w5 ⟨rfl, b5⟩
      have H5 := Lib.hid (H2.out.keep b5)
      clear b5 p0 p1 p2 p3 p4 R3
      obtain ⟨p0, p1, p2, p3, p4⟩ := cells5 H5.out.a
      obtain ⟨a0, a1, a2, a3, a4⟩ := cells5 H5.out.b
      have DO1 := Lib.hid (DO.out HS1.out w5 (HV.out.keep H5.out.bel) (HR.out.keep H5.out.bel))
      go_wp2_with fail
      refine DO1.out.mono ?_
      rintro e w6 ⟨v6, rfl, hk6, b6⟩
      obtain ⟨xa, xn, xc, rfl⟩ := kept_slice hk6 rfl
      have HXI := Lib.hid (kept_is hk6 (HV.out.keep (H5.out.bel.trans (b6.mono H5.out.bel.size))) (show D'.f.length ≤ maxLen by have := HS2.out.n; unfold maxLen; omega) HS2.out.flb)
      have HA6 := Lib.hid ((Below.refl _ w6).alloc (Nat.le_refl _) (.cells #[.slice xa xn xc, .int .i64 D'.c, .bool D'.a, .int .i64 D'.l, .bool D'.x] 24))
      have HXA := Lib.hid (HXI.out.keep HA6.out)
      have HXH := Lib.hid (heap_alloc_new w6 (.cells #[.slice xa xn xc, .int .i64 D'.c, .bool D'.a, .int .i64 D'.l, .bool D'.x] 24))
      have H6 := H5.out.keep b6
      have H7 := Lib.hid (H6.keep HA6.out)
      clear p0 p1 p2 p3 p4 a0 a1 a2 a3 a4
      obtain ⟨p0, p1, p2, p3, p4⟩ := cells5 H6.a
      obtain ⟨a0, a1, a2, a3, a4⟩ := cells5 H6.b
      have hl0 := (Array.getElem?_eq_some_iff.1 H6.a).1
      have hl1 := (Array.getElem?_eq_some_iff.1 H6.b).1
      have WO1 := Lib.hid (WO.out HS1.out _ (HV.out.keep H7.out.bel) (HR.out.keep H7.out.bel))
      clear hk6 b6 H6 DO1 DO
      unfold dkVal
      go_wp2_with fail
      refine WO1.out.mono ?_
      rintro e w8 ⟨v8, rfl, hk8, b8⟩
      obtain ⟨ya, yn, yc, rfl⟩ := kept_slice hk8 rfl
      have HYI := Lib.hid (kept_is hk8 (HV.out.keep (H7.out.bel.trans (b8.mono H7.out.bel.size))) (show D'.f.length ≤ maxLen by have := HS2.out.n; unfold maxLen; omega) HS2.out.flb)
      have HA8 := Lib.hid ((Below.refl _ w8).alloc (Nat.le_refl _) (.cells #[.slice ya yn yc, .int .i64 D'.c, .bool D'.a, .int .i64 D'.l, .bool D'.x] 24))
      have HYA := Lib.hid (HYI.out.keep HA8.out)
      have HYH := Lib.hid (heap_alloc_new w8 (.cells #[.slice ya yn yc, .int .i64 D'.c, .bool D'.a, .int .i64 D'.l, .bool D'.x] 24))
      have HXA8 := Lib.hid ((HXA.out.keep b8).keep HA8.out)
      have HXH8 := Lib.hid (hkeep (hkeep HXH.out b8) HA8.out)
      have H8 := H7.out.keep b8
      have H9 := Lib.hid (H8.keep HA8.out)
      clear p0 p1 p2 p3 p4 a0 a1 a2 a3 a4 hl0 hl1
      obtain ⟨p0, p1, p2, p3, p4⟩ := cells5 H8.a
      obtain ⟨a0, a1, a2, a3, a4⟩ := cells5 H8.b
      have hl0 := (Array.getElem?_eq_some_iff.1 H8.a).1
      have hl1 := (Array.getElem?_eq_some_iff.1 H8.b).1
      have RD1 := Lib.hid (RD.out HS1.out _ H9.out)
      clear hk8 b8 H8 WO1 WO HXA HXH HXI HYI HA6
      unfold dkVal
      obtain ⟨tx, htx⟩ : ∃ tx, w6.heap.size = tx := ⟨_, rfl⟩
      rw [htx] at HXH8 ⊢
      clear htx
      go_wp2_with fail
      refine RD1.out.mono ?_
      rintro e w10 ⟨rfl, b10⟩
      have H10 := Lib.hid (H9.out.keep b10)
      have HXA10 := Lib.hid (HXA8.out.keep b10)
      have HYA10 := Lib.hid (HYA.out.keep b10)
      have HXH10 := Lib.hid (hkeep HXH8.out b10)
      have HYH10 := Lib.hid (hkeep HYH.out b10)
      obtain ⟨ty, hty⟩ : ∃ ty, w8.heap.size = ty := ⟨_, rfl⟩
      rw [hty] at HYH10 ⊢
      clear hty p0 p1 p2 p3 p4 a0 a1 a2 a3 a4 hl0 hl1 b10 HXA8 HYA HXH8 HYH HA8 RD1 RD
      obtain ⟨p0, p1, p2, p3, p4⟩ := cells5 H10.out.a
      obtain ⟨a0, a1, a2, a3, a4⟩ := cells5 H10.out.b
      have RR1 := Lib.hid (RR.out w10 H10.out)
      go_wp2_with fail
      refine RR1.out.mono ?_
      rintro e w11 ⟨rfl, b11⟩
      have H11 := Lib.hid (H10.out.keep b11)
      have HXA11 := Lib.hid (HXA10.out.keep b11)
      have HYA11 := Lib.hid (HYA10.out.keep b11)
      have HXH11 := Lib.hid (hkeep HXH10.out b11)
      have HYH11 := Lib.hid (hkeep HYH10.out b11)
      clear p0 p1 p2 p3 p4 a0 a1 a2 a3 a4 b11 HXA10 HYA10 HXH10 HYH10 RR1 RR H9 H10 H7
      obtain ⟨p0, p1, p2, p3, p4⟩ := cells5 H11.out.a
      have hnl : (D.f.map (·.n)).length ≤ 1000000 := by rw [List.length_map]; exact HS1.out.n
      generalize D.f.map (·.n) = NL at NA NB hnl
      go_wp2_with fail
      go_cut [13, 14] (fun p q w2 => ∃ (na ma : Option Addr) (nc mc : Nat), p = .slice na NL.length nc ∧ q = .slice ma NL.length mc ∧ IsL SL w2 p NL ∧ IsL SL w2 q NL ∧ Below w11.heap.size w11 w2)
      case first =>
        have H11d := Lib.hid (H11.out.keep (Below.refl _ _).drew)
        have HNB := Lib.hid fun (W : World) (v : Value) (B : Nat) (h : OwnL SL W B v NL) => sl_own h (show NL.length ≤ maxLen by unfold maxLen; omega)
        go_region_with (first | (go_at_call 15; (first | refine (NA.out _ H11d.out).mono ?_ | refine (NA.out _ H11.out).mono ?_); rintro e w12 ⟨v12, rfl, ho12, b12⟩; have B12 := Lib.hid (show Below w11.heap.size w11 w12 from (by first | exact b12 | exact (Below.refl _ w11).drew.trans b12)); obtain ⟨na, nc, rfl, hi12⟩ := HNB.out _ _ _ ho12; have H12 := Lib.hid (H11.out.keep B12.out); have HI12 := Lib.hid hi12; obtain ⟨p0, p1, p2, p3, p4⟩ := cells5 H12.out.a; clear b12 ho12 hi12) | (go_at_call 16; refine (NB.out _ H12.out).mono ?_; rintro e w13 ⟨v13, rfl, ho13, b13⟩; obtain ⟨ma, mc, rfl, hi13⟩ := HNB.out _ _ _ ho13; have B13 := Lib.hid (B12.out.trans (b13.mono B12.out.size)); have HI13 := Lib.hid hi13; have HJ13 := Lib.hid (HI12.out.keep b13); clear b13 ho13 hi13))
        all_goals go_wp2_with fail
        all_goals go_meet
        all_goals
          case rel => first | exact ⟨na, ma, nc, mc, rfl, rfl, HJ13.out, HI13.out, B13.out⟩ | exact ⟨na, ma, nc, mc, rfl, rfl, HJ13.out.keep (Below.refl _ _).drew, HI13.out.keep (Below.refl _ _).drew, B13.out.drew⟩
      case rest =>
        obtain ⟨na, ma, nc, mc, rfl, rfl, hi1, hi2, bc⟩ := hcut
        have HI1 := Lib.hid hi1
        have HI2 := Lib.hid hi2
        have H14 := Lib.hid (H11.out.keep bc)
        have HXA := Lib.hid (HXA11.out.keep bc)
        have HYA := Lib.hid (HYA11.out.keep bc)
        have HXH := Lib.hid (hkeep HXH11.out bc)
        have HYH := Lib.hid (hkeep HYH11.out bc)
        obtain ⟨N, hN⟩ : ∃ N, NL.length = N := ⟨_, rfl⟩
        rw [hN] at HI1 HI2 hnl ⊢
        clear p0 p1 p2 p3 p4 hi1 hi2 bc NA NB H11 HXA11 HYA11 HXH11 HYH11 hN
        go_wp2_with fail
        go_loopw [15] (fun j wi => ∃ m q : Nat, m ≤ N ∧ j = .int .i64 m ∧ wi = wc.drewN q) (fun j _ => N - (intOf j).toNat)
        case atStart => exact ⟨0, 0, Nat.zero_le _, rfl, rfl⟩
        case round =>
          obtain ⟨m, q, hm, rfl, rfl⟩ := hrel
          by_cases hlt : m < N
          · obtain ⟨b1, o1, rfl, c1⟩ := sl_at HI1.out hlt
            obtain ⟨b2, o2, rfl, c2⟩ := sl_at HI2.out hlt
            generalize NL.getD m ⟨#[]⟩ = nm at *
            go_wp2_with fail
            go_quiet (fail)
            go_wp2_with fail
            go_roundw
            case rel => exact ⟨m + 1, _, by omega, by go_num, rfl⟩
            case measure => simp [intOf]; omega
          · have H15 := Lib.hid (H14.out.keep (bel_drewN q))
            have HX15 := Lib.hid (HXA.out.keep (bel_drewN q))
            have HY15 := Lib.hid (HYA.out.keep (bel_drewN q))
            have HXH15 := Lib.hid (hkeep HXH.out (bel_drewN q))
            have HYH15 := Lib.hid (hkeep HYH.out (bel_drewN q))
            generalize wc.drewN q = w15 at H15 HX15 HY15 HXH15 HYH15 ⊢
            clear HXA HYA HXH HYH H14 HI1 HI2
            obtain ⟨p0, p1, p2, p3, p4⟩ := cells5 H15.out.a
            obtain ⟨q0, q1, q2, q3, q4⟩ := cells5 HXH15.out
            obtain ⟨r0, r1, r2, r3, r4⟩ := cells5 HYH15.out
            have SM := fun (W : World) (h : W.cell? ⟨w.heap.size, 0, none⟩ = some (.slice fa fn fc) ∧ W.cell? ⟨w.heap.size, 1, none⟩ = some (.int .i64 D.c) ∧ W.cell? ⟨w.heap.size, 2, none⟩ = some (.bool D.a) ∧ W.cell? ⟨w.heap.size, 3, none⟩ = some (.int .i64 D.l) ∧ W.cell? ⟨w.heap.size, 4, none⟩ = some (.bool D.x) ∧ W.cell? ⟨tx, 0, none⟩ = some (.slice xa xn xc) ∧ W.cell? ⟨tx, 1, none⟩ = some (.int .i64 D'.c) ∧ W.cell? ⟨tx, 2, none⟩ = some (.bool D'.a) ∧ W.cell? ⟨tx, 3, none⟩ = some (.int .i64 D'.l) ∧ W.cell? ⟨tx, 4, none⟩ = some (.bool D'.x) ∧ W.cell? ⟨ty, 0, none⟩ = some (.slice ya yn yc) ∧ W.cell? ⟨ty, 1, none⟩ = some (.int .i64 D'.c) ∧ W.cell? ⟨ty, 2, none⟩ = some (.bool D'.a) ∧ W.cell? ⟨ty, 3, none⟩ = some (.int .i64 D'.l) ∧ W.cell? ⟨ty, 4, none⟩ = some (.bool D'.x) ∧ Below w15.heap.size w15 W) => rsame_yes (.slice xa xn xc) (.slice ya yn yc) D' W (HX15.out.keep (c15 h)) (HY15.out.keep (c15 h))
            have US1 := fun (W : World) (h : W.cell? ⟨w.heap.size, 0, none⟩ = some (.slice fa fn fc) ∧ W.cell? ⟨w.heap.size, 1, none⟩ = some (.int .i64 D.c) ∧ W.cell? ⟨w.heap.size, 2, none⟩ = some (.bool D.a) ∧ W.cell? ⟨w.heap.size, 3, none⟩ = some (.int .i64 D.l) ∧ W.cell? ⟨w.heap.size, 4, none⟩ = some (.bool D.x) ∧ W.cell? ⟨tx, 0, none⟩ = some (.slice xa xn xc) ∧ W.cell? ⟨tx, 1, none⟩ = some (.int .i64 D'.c) ∧ W.cell? ⟨tx, 2, none⟩ = some (.bool D'.a) ∧ W.cell? ⟨tx, 3, none⟩ = some (.int .i64 D'.l) ∧ W.cell? ⟨tx, 4, none⟩ = some (.bool D'.x) ∧ W.cell? ⟨ty, 0, none⟩ = some (.slice ya yn yc) ∧ W.cell? ⟨ty, 1, none⟩ = some (.int .i64 D'.c) ∧ W.cell? ⟨ty, 2, none⟩ = some (.bool D'.a) ∧ W.cell? ⟨ty, 3, none⟩ = some (.int .i64 D'.l) ∧ W.cell? ⟨ty, 4, none⟩ = some (.bool D'.x) ∧ Below w15.heap.size w15 W) => US.out W (H15.out.keep (c15 h))
            have RU1 := fun (W : World) (h : W.cell? ⟨w.heap.size, 0, none⟩ = some (.slice fa fn fc) ∧ W.cell? ⟨w.heap.size, 1, none⟩ = some (.int .i64 D.c) ∧ W.cell? ⟨w.heap.size, 2, none⟩ = some (.bool D.a) ∧ W.cell? ⟨w.heap.size, 3, none⟩ = some (.int .i64 D.l) ∧ W.cell? ⟨w.heap.size, 4, none⟩ = some (.bool D.x) ∧ W.cell? ⟨tx, 0, none⟩ = some (.slice xa xn xc) ∧ W.cell? ⟨tx, 1, none⟩ = some (.int .i64 D'.c) ∧ W.cell? ⟨tx, 2, none⟩ = some (.bool D'.a) ∧ W.cell? ⟨tx, 3, none⟩ = some (.int .i64 D'.l) ∧ W.cell? ⟨tx, 4, none⟩ = some (.bool D'.x) ∧ W.cell? ⟨ty, 0, none⟩ = some (.slice ya yn yc) ∧ W.cell? ⟨ty, 1, none⟩ = some (.int .i64 D'.c) ∧ W.cell? ⟨ty, 2, none⟩ = some (.bool D'.a) ∧ W.cell? ⟨ty, 3, none⟩ = some (.int .i64 D'.l) ∧ W.cell? ⟨ty, 4, none⟩ = some (.bool D'.x) ∧ Below w15.heap.size w15 W) => RU.out W (H15.out.keep (c15 h))
            have ST : w15.cell? ⟨w.heap.size, 0, none⟩ = some (.slice fa fn fc) ∧ w15.cell? ⟨w.heap.size, 1, none⟩ = some (.int .i64 D.c) ∧ w15.cell? ⟨w.heap.size, 2, none⟩ = some (.bool D.a) ∧ w15.cell? ⟨w.heap.size, 3, none⟩ = some (.int .i64 D.l) ∧ w15.cell? ⟨w.heap.size, 4, none⟩ = some (.bool D.x) ∧ w15.cell? ⟨tx, 0, none⟩ = some (.slice xa xn xc) ∧ w15.cell? ⟨tx, 1, none⟩ = some (.int .i64 D'.c) ∧ w15.cell? ⟨tx, 2, none⟩ = some (.bool D'.a) ∧ w15.cell? ⟨tx, 3, none⟩ = some (.int .i64 D'.l) ∧ w15.cell? ⟨tx, 4, none⟩ = some (.bool D'.x) ∧ w15.cell? ⟨ty, 0, none⟩ = some (.slice ya yn yc) ∧ w15.cell? ⟨ty, 1, none⟩ = some (.int .i64 D'.c) ∧ w15.cell? ⟨ty, 2, none⟩ = some (.bool D'.a) ∧ w15.cell? ⟨ty, 3, none⟩ = some (.int .i64 D'.l) ∧ w15.cell? ⟨ty, 4, none⟩ = some (.bool D'.x) ∧ Below w15.heap.size w15 w15 := ⟨p0, p1, p2, p3, p4, q0, q1, q2, q3, q4, r0, r1, r2, r3, r4, Below.refl _ _⟩
            unfold dkVal at SM
            replace SM := Lib.hid SM
            replace US1 := Lib.hid US1
            replace RU1 := Lib.hid RU1
            have HBE := Lib.hid H15.out.bel
            clear p0 p1 p2 p3 p4 q0 q1 q2 q3 q4 r0 r1 r2 r3 r4 US RU HX15 HY15 HXH15 HYH15 H15
            go_wp2_with fail
            go_region_held3 (fun w' => w'.cell? ⟨w.heap.size, 0, none⟩ = some (.slice fa fn fc) ∧ w'.cell? ⟨w.heap.size, 1, none⟩ = some (.int .i64 D.c) ∧ w'.cell? ⟨w.heap.size, 2, none⟩ = some (.bool D.a) ∧ w'.cell? ⟨w.heap.size, 3, none⟩ = some (.int .i64 D.l) ∧ w'.cell? ⟨w.heap.size, 4, none⟩ = some (.bool D.x) ∧ w'.cell? ⟨tx, 0, none⟩ = some (.slice xa xn xc) ∧ w'.cell? ⟨tx, 1, none⟩ = some (.int .i64 D'.c) ∧ w'.cell? ⟨tx, 2, none⟩ = some (.bool D'.a) ∧ w'.cell? ⟨tx, 3, none⟩ = some (.int .i64 D'.l) ∧ w'.cell? ⟨tx, 4, none⟩ = some (.bool D'.x) ∧ w'.cell? ⟨ty, 0, none⟩ = some (.slice ya yn yc) ∧ w'.cell? ⟨ty, 1, none⟩ = some (.int .i64 D'.c) ∧ w'.cell? ⟨ty, 2, none⟩ = some (.bool D'.a) ∧ w'.cell? ⟨ty, 3, none⟩ = some (.int .i64 D'.l) ∧ w'.cell? ⟨ty, 4, none⟩ = some (.bool D'.x) ∧ Below w15.heap.size w15 w')
              (first | assumption | exact k15 (by assumption) (Below.refl _ _).drew | exact k15 (by assumption) (by assumption))
              (first | (go_at_call 10; refine (AW.out _).mono ?_; rintro e w16 ⟨rfl, b16⟩) | (go_at_call 17; refine (SM.out _ (by assumption)).mono ?_; rintro e w17 ⟨rfl, b17⟩) | (go_at_call 18; refine (US1.out _ (by assumption)).mono ?_; rintro e w18 ⟨rfl, b18⟩) | (go_at_call 19; refine (RU1.out _ (by assumption)).mono ?_; rintro e w19 ⟨rfl, b19⟩))
            go_wp2_with fail
            go_ret
            rename_i qq
            exact ⟨by first | rfl | simp, HBE.out.trans ((c15 qq).mono HBE.out.size)⟩

/-- The law of any disk and any act. -/
theorem tells_in (fv : Value) (D : Dk) (r : Ra) (w : World) (hv : IsL FL w fv D.f) (hD : DkB D) (hr : RaOk w r) :
    Calls Try.prog 3 #[dkVal fv D, raVal r] w fun e w' => e = .returned (.bool true) ∧ Below w.heap.size w w' := by
  by_cases h : FewF D.f ∧ Short [r]
  · exact tells_few fv D r w hv hD hr h.1 h.2
  · exact tells_not fv D r w hv hr h

end Go.Proofs.Ytbkiecjbjehaoaa.Dsk
