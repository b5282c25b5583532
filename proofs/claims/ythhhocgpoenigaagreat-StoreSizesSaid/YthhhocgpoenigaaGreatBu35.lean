/-
  Parts of what the laws of this seat stand on: RecSame, Law12R, StoSize, Law12Z.
-/
import Derived.BigQuiet
import Derived.Deep.QuietTactic
import Derived.Laws.StructEq
import Derived.Outline
import Derived.Test.YthhhocgpoenigaaGreatBu20
import Derived.Test.YthhhocgpoenigaaGreatBu21
import Derived.Test.YthhhocgpoenigaaGreatBu22
import Derived.Test.YthhhocgpoenigaaGreatBu32
import Derived.Test.YthhhocgpoenigaaGreatBu34
namespace Go.Proofs.YthhhocgpoenigaaGreat
open Go.RowKit

set_option maxRecDepth 100000 in
set_option maxHeartbeats 800000 in
theorem recsame_none (a b : Option Addr) (c d : Nat) (w : World) :
    Calls Tryz.prog 29 #[.slice a 0 c, .slice b 0 d] w fun e w' => e = .returned (.bool true) ∧ ∃ n, w' = w.drewN n := by
  go_enter Tryz.func29, Tryz.ntmps29
  go_wp2_with fail
  refine wp_loop_rounds 1 ?_
  rw [rounds_succ]
  go_wp2_with fail
  go_ret
  exact ⟨rfl, 0, rfl⟩

set_option maxRecDepth 100000 in
set_option maxHeartbeats 1600000 in
theorem recsame_some (rs : List Rp.Rec) (a b o1 o2 c d : Nat) (w : World) (hm : rs.length ≤ maxLen)
    (hc1 : ∀ i, i < rs.length → w.cell? ⟨a, o1 + i * 3, none⟩ = some (.int .i64 (rs.getD i Rp.zero).a) ∧ w.cell? ⟨a, o1 + i * 3 + 1, none⟩ = some (.int .i64 (rs.getD i Rp.zero).t) ∧ w.cell? ⟨a, o1 + i * 3 + 2, none⟩ = some (.string (rs.getD i Rp.zero).d))
    (hc2 : ∀ i, i < rs.length → w.cell? ⟨b, o2 + i * 3, none⟩ = some (.int .i64 (rs.getD i Rp.zero).a) ∧ w.cell? ⟨b, o2 + i * 3 + 1, none⟩ = some (.int .i64 (rs.getD i Rp.zero).t) ∧ w.cell? ⟨b, o2 + i * 3 + 2, none⟩ = some (.string (rs.getD i Rp.zero).d)) :
    Calls Tryz.prog 29 #[.slice (some ⟨a, o1, none⟩) rs.length c, .slice (some ⟨b, o2, none⟩) rs.length d] w fun e w' => e = .returned (.bool true) ∧ ∃ n, w' = w.drewN n := by
  unfold maxLen at hm
  have HC1 := Lib.hid hc1
  have HC2 := Lib.hid hc2
  clear hc1 hc2
  generalize rs.length = len at *
  go_enter Tryz.func29, Tryz.ntmps29
  go_wp2_with fail
  go_loopw [5] (fun i wr => ∃ k n : Nat, k ≤ len ∧ i = .int .i64 k ∧ wr = w.drewN n) (fun i _ => len - (intOf i).toNat)
  case atStart => exact ⟨0, 0, Nat.zero_le _, rfl, rfl⟩
  case round =>
    obtain ⟨k, n, hk, rfl, rfl⟩ := hrel
    by_cases hlt : k < len
    · obtain ⟨c0, c1, c2⟩ := HC1.out k hlt
      obtain ⟨d0, d1, d2⟩ := HC2.out k hlt
      generalize rs.getD k Rp.zero = r at *
      go_wp2_with fail
      go_quiet (fail)
      go_wp2_with fail
      go_roundw
      case rel => exact ⟨k + 1, _, by omega, by go_num, rfl⟩
      case measure => simp [intOf]; omega
    · go_wp2_with fail
      go_ret
      exact ⟨rfl, _, rfl⟩

/-- Of the same records Same tells so. -/
theorem recsame_yes (v1 v2 : Value) (rs : List Rp.Rec) (w : World) (h1 : IsRecs w v1 rs) (h2 : IsRecs w v2 rs) :
    Calls Tryz.prog 29 #[v1, v2] w fun e w' => e = .returned (.bool true) ∧ ∃ n, w' = w.drewN n := by
  obtain ⟨a, c, rfl, m1, _, h3⟩ := h1
  obtain ⟨b, d, rfl, _, _, h4⟩ := h2
  rcases h3 with rfl | ⟨a', o1, rfl, h3⟩
  · exact recsame_none a b c d w
  · rcases h4 with rfl | ⟨b', o2, rfl, h4⟩
    · exact recsame_none _ b c d w
    · exact recsame_some rs a' b' o1 o2 c d w m1 h3 h4

end Go.Proofs.YthhhocgpoenigaaGreat

namespace Go.Proofs.YthhhocgpoenigaaGreat.Sto
open Go.RowKit Go.Proofs.YthhhocgpoenigaaGreat.So Go.Proofs.YthhhocgpoenigaaGreat.Dsk Go.Proofs.YthhhocgpoenigaaGreat.Rts

theorem getD_mem12r {l : List Ac} {k : Nat} (h : k < l.length) : l.getD k azero ∈ l := by rw [getD_lt h]; exact List.getElem_mem _
section
variable {w0 W : World}
theorem KW.al2 (h : (∀ b o, b < w0.heap.size → W.cell? ⟨b, o, none⟩ = w0.cell? ⟨b, o, none⟩) ∧ Below w0.heap.size w0 W) {o : Obj} {x0 x1 : Value} : (∀ b i, b < w0.heap.size → (((W.alloc o).setCell ⟨W.heap.size, 0, none⟩ x0).setCell ⟨W.heap.size, 1, none⟩ x1).cell? ⟨b, i, none⟩ = w0.cell? ⟨b, i, none⟩) ∧ Below w0.heap.size w0 (((W.alloc o).setCell ⟨W.heap.size, 0, none⟩ x0).setCell ⟨W.heap.size, 1, none⟩ x1) :=
  KW.of (((h.2.alloc h.2.size o).setCell (p := ⟨W.heap.size, 0, none⟩) h.2.size _).setCell (p := ⟨W.heap.size, 1, none⟩) h.2.size _)
theorem KW.st2 (h : (∀ b o, b < w0.heap.size → W.cell? ⟨b, o, none⟩ = w0.cell? ⟨b, o, none⟩) ∧ Below w0.heap.size w0 W) {t : Nat} {x0 x1 : Value} (ht : w0.heap.size ≤ t) : (∀ b i, b < w0.heap.size → ((W.setCell ⟨t, 0, none⟩ x0).setCell ⟨t, 1, none⟩ x1).cell? ⟨b, i, none⟩ = w0.cell? ⟨b, i, none⟩) ∧ Below w0.heap.size w0 ((W.setCell ⟨t, 0, none⟩ x0).setCell ⟨t, 1, none⟩ x1) :=
  KW.of ((h.2.setCell (p := ⟨t, 0, none⟩) ht _).setCell (p := ⟨t, 1, none⟩) ht _)
end
/-- What a call answered is laid in the variable itself; all else stays. -/
theorem Bx.lay2 {W W' : World} {P : List Nat} {b : Nat} {fv gv fv' gv' : Value} {S T : St} (h : Bx P b fv gv S W) (k : StS W fv gv T fv' gv' W') (hp : b ∈ P) (hP : ∀ p ∈ P, p < W.heap.size) :
    ∃ Z, ((((((((((W'.setCell ⟨b, 0, none⟩ fv').setCell ⟨b, 1, none⟩ (.int .i64 T.d.c)).setCell ⟨b, 2, none⟩ (.bool T.d.a)).setCell ⟨b, 3, none⟩ (.int .i64 T.d.l)).setCell ⟨b, 4, none⟩ (.bool T.d.x)).setCell ⟨b, 5, none⟩ (.int .i64 T.v)).setCell ⟨b, 6, none⟩ gv').setCell ⟨b, 7, none⟩ (.int .i64 T.x)).setCell ⟨b, 8, none⟩ (.int .i64 T.s)).setCell ⟨b, 9, none⟩ (.int .i64 T.z)).setCell ⟨b, 10, none⟩ (.int .u32 T.c) = Z ∧ Bx P b fv' gv' T Z ∧ (∀ j, j ≠ b → ∀ o, W'.heap[j]? = some o → Z.heap[j]? = some o) ∧ ∀ c w, c ≤ b → Below c w W' → Below c w Z := by
  obtain ⟨Z, e1, e2, e3, e4, e5, e6⟩ := set11 (hkeep h.d k.w) fv' (.int .i64 T.d.c) (.bool T.d.a) (.int .i64 T.d.l) (.bool T.d.x) (.int .i64 T.v) gv' (.int .i64 T.x) (.int .i64 T.s) (.int .i64 T.z) (.int .u32 T.c)
  have sp : ∀ p ∈ P, Sep fv' p ∧ Sep gv' p := fun p hp => k.s p (hP p hp) (h.s p hp).1 (h.s p hp).2
  exact ⟨Z, e1, ⟨e2, e4 _ _ k.f (sp b hp).1, e5 _ _ k.g (sp b hp).2, sp⟩, e3, e6⟩
def askVal (q : Int) (v : Value) (off h0 h1 : Int) : Value := .agg #[.int .u8 q, v, .int .i64 off, .int .u16 h0, .int .u16 h1]

set_option maxRecDepth 100000 in
set_option maxHeartbeats 6400000 in
theorem reads12 (q : Int) (v : Value) (l : List Ac) (off h0 h1 : Int) (w : World) (hq : 0 ≤ q ∧ q < 256) (h : IsL AcL w v l) (hh0 : 0 ≤ h0 ∧ h0 < 65536) (hh1 : 0 ≤ h1 ∧ h1 < 65536) :
    Calls Tryz.prog 5 #[askVal q v off h0 h1] w fun e w' => e = .returned (.bool true) ∧ Below w.heap.size w w' := by
  obtain ⟨fa, fn, fc, rfl⟩ : ∃ a n c, v = .slice a n c := by obtain ⟨a, c, h, _⟩ := h; exact ⟨a, _, c, h⟩
  have A0 := Lib.hid ((Below.refl w.heap.size w).alloc (Nat.le_refl _) (.cells #[.int .u8 q, .slice fa fn fc, .int .i64 off, .int .u16 h0, .int .u16 h1] 55))
  have X0 := heap_alloc_new w (.cells #[.int .u8 q, .slice fa fn fc, .int .i64 off, .int .u16 h0, .int .u16 h1] 55)
  have hlt0 : w.heap.size < (w.alloc (.cells #[.int .u8 q, .slice fa fn fc, .int .i64 off, .int .u16 h0, .int .u16 h1] 55)).heap.size := by simp
  have SH := Lib.hid fun (W : World) (h : IsL AcL W (.slice fa fn fc) l) => short12_any _ l W h
  have HL := Lib.hid h
  have HFN := Lib.hid h.len.1
  have HOK0 := Lib.hid h.ok
  have AW := Lib.hid fun W : World => awake12 W
  clear h
  unfold askVal
  go_enter Tryz.func5, Tryz.ntmps5
  go_upto_region 1 with (fail)
  generalize w.alloc _ = w0 at A0 X0 hlt0 ⊢
  obtain ⟨d0, d1, d2, d3, d4⟩ := cells5 X0
  go_cut [3, 4, 5, 6] (fun x y z p we => x = .int .u8 q ∧ y = .slice fa fn fc ∧ z = .int .i64 off ∧ ∃ t : Nat, p = .pointer (some ⟨t, 0, none⟩) ∧ we.heap[t]? = some (.cells #[.int .u16 h0, .int .u16 h1] 53 (0, 0)) ∧ Below w0.heap.size w0 we)
  case first =>
    go_region_held3 (fun W => (∀ b o, b < w0.heap.size → W.cell? ⟨b, o, none⟩ = w0.cell? ⟨b, o, none⟩) ∧ Below w0.heap.size w0 W) (first | with_reducible assumption | with_reducible exact KW.al2 (by assumption) | with_reducible exact KW.st2 (by assumption) (Nat.le_refl _) | with_reducible exact KW.dr _ | with_reducible exact KW.al11 (by assumption) | with_reducible exact KW.al (by assumption) | with_reducible exact KW.ad (KW.start _) | with_reducible exact KW.ad (by assumption) | with_reducible exact KW.st11 (by assumption) (Nat.le_refl _) | with_reducible exact KW.st11 (by assumption) (by assumption) | with_reducible exact KW.keep (by assumption) (Below.refl _ _).drew | with_reducible exact KW.keep (by assumption) (by assumption)) (fail)
    all_goals
      rename_i hh
      have hz := hh.2
      clear hh
      go_wp2_with fail
      go_meet
      case rel =>
        exact ⟨rfl, rfl, rfl, _, rfl, heap_alloc_new w0 _, hz⟩
  case rest =>
    clear d0 d1 d2 d3 d4
    obtain ⟨rfl, rfl, rfl, t6, rfl, X6, LT⟩ := hcut
    have L0 := Lib.hid (A0.out.trans (LT.mono A0.out.size))
    have hsz := LT.size
    have X6H := Lib.hid X6
    have S0 := SH.out wc (HL.out.keep L0.out)
    clear X6 X0 A0 LT SH
    by_cases hs : Short12 l
    case neg =>
      rw [decide_eq_false hs] at S0
      replace S0 := Lib.hid S0
      clear hs
      go_wp2_with fail
      refine S0.out.mono ?_
      rintro e w1 ⟨rfl, rfl⟩
      go_wp2_with fail
      refine (AW.out _).mono ?_
      rintro e w2 ⟨rfl, b2⟩
      have L2 := Lib.hid (L0.out.trans (b2.mono L0.out.size))
      clear b2
      go_wp2_with fail
      go_ret
      exact ⟨rfl, L2.out⟩
    rw [decide_eq_true hs] at S0
    have hfn : fn ≤ 40 := by rw [HFN.out]; exact hs.1
    have HOK := Lib.hid (show ∀ k, k < fn → AcB (l.getD k azero) from fun k hk => HOK0.out _ (getD_mem12r (by rw [← HFN.out]; exact hk)))
    replace S0 := Lib.hid S0
    have CQ := Lib.hid fun W : World => rcreate12_any none 0 0 Dp.empty W 0 (IsL.nil W none 0) bd_emp (by decide)
    obtain ⟨c1, c2⟩ := aw_create
    obtain ⟨⟨T0, E0⟩, hc⟩ : ∃ R, createT Dp.empty = R := ⟨_, rfl⟩
    rw [hc] at c1 c2 CQ
    obtain rfl : E0 = 0 := c1
    have G0 := Lib.hid (show Gd T0 1 from c2.d)
    have K0 := (kp_new (q := 20 + q) (by omega)).2
    rw [hc] at K0
    replace K0 := Lib.hid (show ∃ al, Kp (20 + q) T0 al ∧ al.length ≤ 0 from ⟨[], K0, Nat.le_refl _⟩)
    unfold dkVal at CQ
    replace CQ := Lib.hid CQ.out
    clear hc hs HOK0
    go_wp2_with fail
    refine S0.out.mono ?_
    rintro e w1 ⟨rfl, rfl⟩
    go_wp2_with fail
    refine (CQ.out _).mono ?_
    rintro e w1 ⟨a1, n1, c1, a2, n2, c2, rfl, ks⟩
    have al := (Below.refl w1.heap.size w1).alloc (Nat.le_refl _) (.cells #[.slice a1 n1 c1, .int .i64 T0.d.c, .bool T0.d.a, .int .i64 T0.d.l, .bool T0.d.x, .int .i64 T0.v, .slice a2 n2 c2, .int .i64 T0.x, .int .i64 T0.s, .int .i64 T0.z, .int .u32 T0.c] 31)
    have B0 := Lib.hid (Bx.first (P := [w1.heap.size]) ks (fun p hp => by simp at hp; omega))
    have L1 := Lib.hid ((L0.out.trans (ks.w.mono L0.out.size)).trans (al.mono (Nat.le_trans L0.out.size ks.w.size)))
    have X7 := Lib.hid (hkeep (hkeep X6H.out ks.w) al)
    have hbw : w.heap.size ≤ w1.heap.size := Nat.le_trans L0.out.size ks.w.size
    clear ks al CQ L0 X6H S0
    unfold stVal
    dsimp only
    go_wp2_with fail
    generalize hq1 : w1.heap.size = b at B0 hbw ⊢
    generalize w1.alloc _ = w2 at B0 L1 X7 ⊢
    clear hq1
    have hwq : IntKind.i64.wrap q = q := IntWalk.i64_in _ ⟨by omega, by omega⟩
    have hw20 : IntKind.i64.wrap (20 + q) = 20 + q := IntWalk.i64_in _ ⟨by omega, by omega⟩
    go_loopw [9] (fun i wr => ∃ (k : Nat) (S : St), k ≤ fn ∧ i = .int .i64 k ∧ Hid (Gd S (k + 1)) ∧ Hid (BxR [b] b S wr) ∧ Hid (wr.heap[t6]? = some (.cells #[.int .u16 h0, .int .u16 h1] 53 (0, 0))) ∧ Hid (Below w.heap.size w wr) ∧ Hid (∃ al, Kp (20 + q) S al ∧ al.length ≤ k)) (fun i _ => fn - (intOf i).toNat)
    case atStart => exact ⟨0, T0, Nat.zero_le _, rfl, G0, ⟨_, _, _, _, _, _, B0.out⟩, X7, L1, K0⟩
    case round =>
      clear B0 L1 G0 X7
      obtain ⟨k, S, hk, rfl, HG, HB, HX, HW, HK⟩ := hrel
      obtain ⟨a5, n5, c5, a6, n6, c6, P1⟩ := HB.out
      clear HB
      by_cases hlt : k < fn
      · have hac := HOK.out k hlt
        have HGT := HG.out.act (20 + q) (l.getD k azero) hac.2.1.2
        have WA := Lib.hid fun (W : World) (h1 : IsL FL W (.slice a5 n5 c5) S.d.f) (h2 : IsL Rts.SL W (.slice a6 n6 c6) S.g) => want12_any a5 a6 n5 c5 n6 c6 S (20 + q) (l.getD k azero) W _ h1 h2 HG.out (by omega) hac
        have HKT : ∃ al, Kp (20 + q) (doA (20 + q) S (l.getD k azero)).1 al ∧ al.length ≤ k + 1 := by
          obtain ⟨al, k1, k2⟩ := HK.out
          refine ⟨_, (k1.act (by omega) (by omega) (l.getD k azero)).1, ?_⟩
          unfold appd
          split
          · rw [List.length_append, List.length_singleton]; omega
          · omega
        obtain ⟨⟨T, E⟩, hT⟩ : ∃ R, doA (20 + q) S (l.getD k azero) = R := ⟨_, rfl⟩
        rw [hT] at WA HGT HKT
        replace HKT := Lib.hid HKT
        replace HGT := Lib.hid (show Gd T (k + 2) from HGT)
        unfold stVal acVal at WA
        have P2 := P1.keep (W' := wr.drew) (Below.refl _ _).drew
        have PD := Lib.hid P2
        obtain ⟨g, off2, rfl, c0, c1, c2⟩ := ac_at ((HL.out.keep HW.out).keep (w' := wr.drew) (Below.refl _ _).drew) hlt
        generalize l.getD k azero = ac at WA c0 c1 c2
        clear hT hac
        obtain ⟨⟨k0, k1, k2, k3, k4⟩, k5, k6, k7, k8, k9, k10⟩ := cellsS P2.d
        have kf := frozenS P2.d
        have hP : ∀ p ∈ [b], p < wr.drew.heap.size := fun p hp => by have := P2.lt; simp at hp; omega
        have hbl : w.heap.size ≤ b := hbw
        have HXd := HX.out
        have tne : t6 ≠ b := fun e => by
          rw [e] at HXd
          have h2 := P1.d
          rw [HXd] at h2
          injection h2 with h2
          injection h2 with h2
          simp at h2
        clear P1 P2 HXd
        go_upto_region 8 with (fail)
        go_region_with (first | (go_at_call 13; refine (WA.out _ PD.out.f PD.out.g).mono ?_; rintro e w5 ⟨a7, n7, c7, a8, n8, c8, rfl, k5'⟩; obtain ⟨⟨z0, z1, z2, z3, z4⟩, z5, z6, z7, z8, z9, z10⟩ := cellsS (hkeep PD.out.d k5'.w); have zf := frozenS (hkeep PD.out.d k5'.w); have LY := Lib.hid (PD.out.lay2 k5' (by simp) hP); have LW := Lib.hid ((HW.out.drew).trans (k5'.w.mono (Nat.le_trans HW.out.size (Nat.le_refl _)))); have XW := Lib.hid (hkeep (W := wr.drew) HX.out k5'.w); clear k5'; unfold stVal))
        all_goals
          go_upto_region 7 with (fail)
          obtain ⟨Z, hZ, Z1, Z2, Z3⟩ := LY.out
          rw [hZ]
          have R1 := Lib.hid (show BxR [b] b T Z from ⟨_, _, _, _, _, _, Z1⟩)
          have R2 := Lib.hid (Z2 t6 tne _ XW.out)
          have R3 := Lib.hid (Z3 w.heap.size w hbl LW.out)
          clear hZ LY Z1 Z2 Z3 k0 k1 k2 k3 k4 k5 k6 k7 k8 k9 k10 z0 z1 z2 z3 z4 z5 z6 z7 z8 z9 z10 kf zf c0 c1 c2
          go_wp2_with fail
          go_roundw
          case rel => first | exact ⟨k + 1, T, by omega, by go_num, HGT, R1, R2, R3, HKT⟩ | exact ⟨k + 1, T, by omega, by go_num, HGT, Lib.hid (R1.out.keep (Below.refl _ _).drew), R2, Lib.hid R3.out.drew, HKT⟩
          case measure => simp [intOf]; omega
      · have hst := HG.out.stb (by omega)
        have hbb : 0 ≤ h0 ∧ h0 ≤ 1000000 := by omega
        obtain ⟨al, hKp, hal⟩ := HK.out
        have hal6 : (rcOf al).length ≤ 100000 := by rw [rcOf_len]; omega
        have hKi := hKp.i
        have R1 := read12_any a5 a6 n5 c5 n6 c6 S (20 + q) (rcOf al) off wr P1.f P1.g hst hKi (by omega)
        have R2 := Lib.hid fun (W : World) (f : IsL FL W (.slice a5 n5 c5) S.d.f) (g : IsL Rts.SL W (.slice a6 n6 c6) S.g) => rread12_any a5 a6 n5 c5 n6 c6 S off W f g hst
        have F1 := Lib.hid fun (W : World) (f : IsL FL W (.slice a5 n5 c5) S.d.f) (g : IsL Rts.SL W (.slice a6 n6 c6) S.g) => from12_any a5 a6 n5 c5 n6 c6 S (20 + q) (rcOf al) off h0 h1 W f g hst hKi hal6 hbb (by omega)
        have F2 := Lib.hid fun (W : World) (f : IsL FL W (.slice a5 n5 c5) S.d.f) (g : IsL Rts.SL W (.slice a6 n6 c6) S.g) => rfrom12_any a5 a6 n5 c5 n6 c6 S off h0 h1 W f g HG.out.ne hst hbb (by omega)
        obtain ⟨⟨rr, re⟩, hrd⟩ : ∃ R, readT S off = R := ⟨_, rfl⟩
        rw [hrd] at R1 R2
        generalize fromT S off h0 h1 = frl at F1 F2
        unfold RdVal recVal stVal at R1 R2
        unfold stVal at F1 F2
        dsimp only at R1 R2
        replace R1 := Lib.hid R1
        have hkk : ¬ (k : Int) < (fn : Int) := by omega
        have hwh0 : IntKind.i64.wrap h0 = h0 := IntWalk.i64_in _ ⟨by omega, by omega⟩
        have hwh1 : IntKind.i64.wrap h1 = h1 := IntWalk.i64_in _ ⟨by omega, by omega⟩
        obtain ⟨⟨k0, k1, k2, k3, k4⟩, k5, k6, k7, k8, k9, k10⟩ := cellsS P1.d
        have PH := Lib.hid P1
        clear P1 hst hbb hrd hwq hw20 hKp hal hal6 hKi
        go_wp2_with fail
        refine R1.out.mono ?_
        rintro e w3 ⟨rfl, b3⟩
        have al3 := (Below.refl w3.heap.size w3).alloc (Nat.le_refl _) (.cells #[.int .i64 rr.a, .int .i64 rr.t, .string rr.d] 57)
        have P3 := (PH.out.keep b3).keep al3
        have XA := hkeep (hkeep HX.out b3) al3
        have L3 := Lib.hid ((HW.out.trans (b3.mono HW.out.size)).trans (al3.mono (Nat.le_trans HW.out.size b3.size)))
        have Y1 := Lib.hid (heap_alloc_new w3 (.cells #[.int .i64 rr.a, .int .i64 rr.t, .string rr.d] 57))
        clear k0 k1 k2 k3 k4 k5 k6 k7 k8 k9 k10 b3 al3 PH R1
        obtain ⟨⟨k0, k1, k2, k3, k4⟩, k5, k6, k7, k8, k9, k10⟩ := cellsS P3.d
        have PH := Lib.hid P3
        have XH := Lib.hid XA
        clear P3 XA
        go_wp2_with fail
        generalize hq3 : w3.heap.size = t10 at Y1 ⊢
        refine (R2.out _ PH.out.f PH.out.g).mono ?_
        rintro e w4 ⟨rfl, b4⟩
        have al4 := (Below.refl w4.heap.size w4).alloc (Nat.le_refl _) (.cells #[.int .i64 rr.a, .int .i64 rr.t, .string rr.d] 57)
        have P4 := (PH.out.keep b4).keep al4
        have XA := hkeep (hkeep XH.out b4) al4
        have YA := Lib.hid (hkeep (hkeep Y1.out b4) al4)
        have L4 := Lib.hid ((L3.out.trans (b4.mono L3.out.size)).trans (al4.mono (Nat.le_trans L3.out.size b4.size)))
        have Y2 := Lib.hid (heap_alloc_new w4 (.cells #[.int .i64 rr.a, .int .i64 rr.t, .string rr.d] 57))
        clear k0 k1 k2 k3 k4 k5 k6 k7 k8 k9 k10 b4 al4 PH XH R2 Y1 L3 hq3
        obtain ⟨⟨k0, k1, k2, k3, k4⟩, k5, k6, k7, k8, k9, k10⟩ := cellsS P4.d
        obtain ⟨u0, u1⟩ : (w4.alloc (.cells #[.int .i64 rr.a, .int .i64 rr.t, .string rr.d] 57)).cell? ⟨t6, 0, none⟩ = some (.int .u16 h0) ∧ (w4.alloc (.cells #[.int .i64 rr.a, .int .i64 rr.t, .string rr.d] 57)).cell? ⟨t6, 1, none⟩ = some (.int .u16 h1) := ⟨by rw [Lib.cell_of_heap XA]; rfl, by rw [Lib.cell_of_heap XA]; rfl⟩
        have PH := Lib.hid P4
        have XH := Lib.hid XA
        clear P4 XA
        go_wp2_with fail
        generalize hq4 : w4.heap.size = t12 at Y2 ⊢
        refine (F1.out _ PH.out.f PH.out.g).mono ?_
        rintro e w5 ⟨v1, rfl, hr1, b5⟩
        have P5 := PH.out.keep b5
        have XA := hkeep XH.out b5
        have YB := Lib.hid (hkeep YA.out b5)
        have Y3 := Lib.hid (hkeep Y2.out b5)
        have L5 := Lib.hid (L4.out.trans (b5.mono L4.out.size))
        have H1 := Lib.hid hr1
        clear k0 k1 k2 k3 k4 k5 k6 k7 k8 k9 k10 u0 u1 b5 PH XH F1 YA Y2 L4 hr1 hq4
        obtain ⟨⟨k0, k1, k2, k3, k4⟩, k5, k6, k7, k8, k9, k10⟩ := cellsS P5.d
        obtain ⟨u0, u1⟩ : w5.cell? ⟨t6, 0, none⟩ = some (.int .u16 h0) ∧ w5.cell? ⟨t6, 1, none⟩ = some (.int .u16 h1) := ⟨by rw [Lib.cell_of_heap XA]; rfl, by rw [Lib.cell_of_heap XA]; rfl⟩
        have PH := Lib.hid P5
        clear P5 XA
        go_wp2_with fail
        refine (F2.out _ PH.out.f PH.out.g).mono ?_
        rintro e w6 ⟨v2, rfl, hr2, b6⟩
        have YC := Lib.hid (hkeep YB.out b6)
        have Y4 := Lib.hid (hkeep Y3.out b6)
        have L6 := Lib.hid (L5.out.trans (b6.mono L5.out.size))
        have H1b := Lib.hid (H1.out.below b6 (Nat.le_refl _))
        have H2 := Lib.hid hr2
        clear k0 k1 k2 k3 k4 k5 k6 k7 k8 k9 k10 u0 u1 b6 PH F2 YB Y3 L5 hr2 H1
        go_wp2_with fail
        refine (AW.out _).mono ?_
        rintro e w7 ⟨rfl, b7⟩
        obtain ⟨k0, k1, k2⟩ := cells3 (hkeep YC.out b7)
        obtain ⟨x0, x1, x2⟩ := cells3 (hkeep Y4.out b7)
        have L7 := Lib.hid (L6.out.trans (b7.mono L6.out.size))
        have RS := Lib.hid (recsame_yes v1 v2 frl w7 (H1b.out.below b7 (Nat.le_refl _)) (H2.out.below b7 (Nat.le_refl _)))
        clear b7 YC Y4 L6 H1b H2
        go_wp2_with fail
        refine RS.out.mono ?_
        rintro e w8 ⟨rfl, nd, rfl⟩
        have L8 := Lib.hid (L7.out.trans ((bel_drewN nd).mono L7.out.size))
        go_wp2_with fail
        go_ret
        exact ⟨rfl, L8.out⟩

end Go.Proofs.YthhhocgpoenigaaGreat.Sto

namespace Go.Proofs.YthhhocgpoenigaaGreat.Sto
open Go.RowKit Go.Proofs.YthhhocgpoenigaaGreat.So Go.Proofs.YthhhocgpoenigaaGreat.Dsk Go.Proofs.YthhhocgpoenigaaGreat.Rts

/-- Segments from an offset on hold just these records. -/
def Sizes (q : Int) : List Rt.Sg → Int → List Rp.Rec → Prop
  | [], _, rs => rs = []
  | g :: t, b, rs => g.b = b ∧ ∃ l r, rs = l ++ r ∧ g.n = (l.length : Int) ∧ g.z = ((Rp.rowB l).length : Int) ∧ g.z ≤ q + 90 ∧ (t ≠ [] → q ≤ g.z ∧ 1 ≤ g.n) ∧ Sizes q t (b + g.n) r
theorem Sizes.of {D : Dp.Dk} {q : Int} {g : Rt.Sg} {l2 : List Rp.Rec} (h3 : g.n = (l2.length : Int)) (h5 : g.z = ((Rp.rowB l2).length : Int)) (h7 : g.z ≤ q + 90) : ∀ {t : List Rt.Sg} {b : Int} {rs : List Rp.Rec}, Fulls D q t b rs → g.b = b + rs.length → Sizes q (t ++ [g]) b (rs ++ l2)
  | [], b, rs, h, h1 => by
    obtain rfl : rs = [] := h
    refine ⟨by simpa using h1, l2, [], by simp, h3, h5, h7, fun h => absurd rfl h, rfl⟩
  | a :: t, b, rs, ⟨a1, l, r, a2, a3, a4, a5, a6, a7, a8, a9⟩, h1 => by
    subst a2
    rw [List.length_append] at h1
    have hp : 0 < l.length := List.length_pos_iff.2 a3
    exact ⟨a1, l, r ++ l2, by rw [List.append_assoc], a4, a6, a8, fun _ => ⟨a7, by omega⟩, Sizes.of h3 h5 h7 a9 (by omega)⟩
theorem So.Inv.sizes {q : Int} {S : St} {rs : List Rp.Rec} (h : So.Inv q S rs) : Sizes q S.g 0 rs := by
  obtain ⟨t, g, l, r, e1, e2, e3, e4, e5, e6, e7, e8⟩ := h.seg
  rw [e1, e2]
  exact Sizes.of e5 e7 e8 e3 (by omega)
theorem Sizes.end_ {q : Int} : ∀ {t : List Rt.Sg} {b : Int} {rs : List Rp.Rec}, Sizes q t b rs → b + ((t.map fun g => g.n).sum) = b + rs.length
  | [], b, rs, h => by
    obtain rfl : rs = [] := h
    rfl
  | g :: t, b, rs, ⟨_, l, r, e, h3, _, _, _, h⟩ => by
    have := Sizes.end_ h
    subst e
    rw [List.map_cons, List.sum_cons, List.length_append]
    omega
/-- A record's bytes, one behind the other. -/
theorem rowB_snoc12 (l : List Rp.Rec) {r : Rp.Rec} (h : Rp.Ok r) : (Rp.rowB (l ++ [r])).length = (Rp.rowB l).length + (Rp.putB r).length := by
  unfold Rp.rowB
  rw [List.map_append, Fr.row_append, List.length_append]
  congr 1
  show (Fr.row [Rp.body r]).length = _
  rw [Fr.row_cons, Fr.row_nil, List.append_nil, Rp.putB_yes (Rp.fault_zero h)]
theorem rowB_take12 {l : List Rp.Rec} (h : ∀ r ∈ l, Rp.Ok r) {k : Nat} (hk : k < l.length) : (Rp.rowB (l.take (k + 1))).length = (Rp.rowB (l.take k)).length + (Rp.putB (l[k])).length := by
  rw [List.take_succ_eq_append_getElem hk]
  exact rowB_snoc12 _ (h _ (List.getElem_mem _))

end Go.Proofs.YthhhocgpoenigaaGreat.Sto

namespace Go.Proofs.YthhhocgpoenigaaGreat.Sto
open Go.RowKit Go.Proofs.YthhhocgpoenigaaGreat.So Go.Proofs.YthhhocgpoenigaaGreat.Dsk Go.Proofs.YthhhocgpoenigaaGreat.Rts

theorem getD_mem12z {l : List Ac} {k : Nat} (h : k < l.length) : l.getD k azero ∈ l := by rw [getD_lt h]; exact List.getElem_mem _
/-- The first i segments hold the first a records. -/
structure Pos (q : Int) (g : List Rt.Sg) (rs : List Rp.Rec) (i a : Nat) : Prop where
  le : i ≤ g.length
  p : ∃ A B, rs = A ++ B ∧ A.length = a ∧ Sizes q (g.drop i) (a : Int) B
theorem Pos.zero {q : Int} {g : List Rt.Sg} {rs : List Rp.Rec} (h : Sizes q g 0 rs) : Pos q g rs 0 0 := ⟨Nat.zero_le _, [], rs, rfl, rfl, h⟩
theorem Pos.at_ {q : Int} {g : List Rt.Sg} {rs : List Rp.Rec} {i a : Nat} (h : Pos q g rs i a) (hi : i < g.length) :
    ∃ l : List Rp.Rec, (g.getD i Rt.zero).b = (a : Int) ∧ (g.getD i Rt.zero).n = (l.length : Int) ∧ (g.getD i Rt.zero).z = ((Rp.rowB l).length : Int) ∧ (g.getD i Rt.zero).z ≤ q + 90 ∧ (i + 1 < g.length → q ≤ (g.getD i Rt.zero).z ∧ 1 ≤ (g.getD i Rt.zero).n) ∧ a + l.length ≤ rs.length ∧ (∀ j (hj : j < l.length), rs[a + j]? = some (l[j])) ∧ Pos q g rs (i + 1) (a + l.length) := by
  obtain ⟨_, A, B, rfl, rfl, h3⟩ := h
  rw [Rt.drop_at hi] at h3
  obtain ⟨h4, l, r, rfl, h5, h6, h7, h8, h9⟩ := h3
  refine ⟨l, h4, h5, h6, h7, fun hl => h8 (fun e => ?_), by simp only [List.length_append]; omega, fun j hj => ?_, hi, A ++ l, r, by rw [List.append_assoc], by rw [List.length_append], ?_⟩
  · have := congrArg List.length e
    rw [List.length_drop, List.length_nil] at this
    omega
  · rw [List.getElem?_append_right (by omega), Nat.add_sub_cancel_left, List.getElem?_append_left hj, List.getElem?_eq_getElem hj]
  · rw [h5] at h9
    rw [Int.natCast_add]
    exact h9
theorem Pos.end_ {q : Int} {g : List Rt.Sg} {rs : List Rp.Rec} {a : Nat} (h : Pos q g rs g.length a) : a = rs.length := by
  obtain ⟨_, A, B, rfl, rfl, h3⟩ := h
  rw [List.drop_length] at h3
  obtain rfl : B = [] := h3
  rw [List.append_nil]
theorem rowB_mono {l : List Rp.Rec} (k : Nat) : (Rp.rowB (l.take k)).length ≤ (Rp.rowB l).length := by
  have e : Rp.rowB l = Rp.rowB (l.take k) ++ Rp.rowB (l.drop k) := by
    unfold Rp.rowB
    rw [← Fr.row_append, ← List.map_append, List.take_append_drop]
  rw [e, List.length_append]
  omega

set_option maxRecDepth 100000 in
set_option maxHeartbeats 6400000 in
theorem sizes12 (q : Int) (v : Value) (l : List Ac) (w : World) (hq : 0 ≤ q ∧ q < 256) (h : IsL AcL w v l) : Calls Tryz.prog 6 #[.int .u8 q, v] w fun e w' => e = .returned (.bool true) ∧ Below w.heap.size w w' := by
  obtain ⟨fa, fn, fc, rfl⟩ : ∃ a n c, v = .slice a n c := by obtain ⟨a, c, h, _⟩ := h; exact ⟨a, _, c, h⟩
  have SH := short12_any _ l w h
  have HL := Lib.hid h
  have HFN := Lib.hid h.len.1
  have hok := h.ok
  have AW := Lib.hid fun W : World => awake12 W
  clear h
  by_cases hs : Short12 l
  case neg =>
    rw [decide_eq_false hs] at SH
    replace SH := Lib.hid SH
    clear hs hok
    go_enter Tryz.func6, Tryz.ntmps6
    go_wp2_with fail
    refine SH.out.mono ?_
    rintro e w1 ⟨rfl, rfl⟩
    go_wp2_with fail
    refine (AW.out _).mono ?_
    rintro e w2 ⟨rfl, b2⟩
    have B2 := Lib.hid b2
    clear b2
    go_wp2_with fail
    go_ret
    exact ⟨rfl, B2.out⟩
  rw [decide_eq_true hs] at SH
  have hfn : fn ≤ 40 := by rw [HFN.out]; exact hs.1
  have HOK := Lib.hid (show ∀ k, k < fn → AcB (l.getD k azero) from fun k hk => hok _ (getD_mem12z (by rw [← HFN.out]; exact hk)))
  replace SH := Lib.hid SH
  have CR := Lib.hid fun W : World => create12_any none 0 0 Dp.empty W 0 (IsL.nil W none 0) bd_emp (by decide)
  obtain ⟨c1, c2⟩ := aw_create
  obtain ⟨_, c3⟩ := kp_new (q := 20 + q) (by omega)
  obtain ⟨⟨S0, E0⟩, hc⟩ : ∃ R, createT Dp.empty = R := ⟨_, rfl⟩
  rw [hc] at c1 c2 c3 CR
  obtain rfl : E0 = 0 := c1
  have G0 := Lib.hid (show Gd S0 1 from c2.d)
  have K0 := Lib.hid (show Kp (20 + q) S0 [] from c3)
  unfold dkVal at CR
  replace CR := Lib.hid CR.out
  clear hc hs hok
  go_enter Tryz.func6, Tryz.ntmps6
  go_wp2_with fail
  refine SH.out.mono ?_
  rintro e w1 ⟨rfl, rfl⟩
  clear SH
  go_wp2_with fail
  refine (CR.out _).mono ?_
  rintro e w1 ⟨a1, n1, c1, a2, n2, c2, rfl, ks⟩
  have al := (Below.refl w1.heap.size w1).alloc (Nat.le_refl _) (.cells #[.slice a1 n1 c1, .int .i64 S0.d.c, .bool S0.d.a, .int .i64 S0.d.l, .bool S0.d.x, .int .i64 S0.v, .slice a2 n2 c2, .int .i64 S0.x, .int .i64 S0.s, .int .i64 S0.z, .int .u32 S0.c] 31)
  have B0 := Lib.hid (Bx.first (P := [w1.heap.size]) ks (fun p hp => by simp at hp; omega))
  have L0 := Lib.hid (ks.w.trans (al.mono ks.w.size))
  have hbw : w.heap.size ≤ w1.heap.size := ks.w.size
  clear ks al CR
  unfold stVal
  dsimp only
  go_wp2_with fail
  generalize w1.alloc _ = w0 at B0 L0 ⊢
  generalize w1.heap.size = b at B0 L0 hbw ⊢
  have hwq : IntKind.i64.wrap q = q := IntWalk.i64_in _ ⟨by omega, by omega⟩
  have hw20 : IntKind.i64.wrap (20 + q) = 20 + q := IntWalk.i64_in _ ⟨by omega, by omega⟩
  go_loopw [7] (fun i wr => ∃ (k : Nat) (S : St) (al : List ByteArray), k ≤ fn ∧ i = .int .i64 k ∧ al.length ≤ k ∧ Hid (Gd S (k + 1)) ∧ Hid (Kp (20 + q) S al) ∧ Hid (BxR [b] b S wr) ∧ Hid (Below w.heap.size w wr)) (fun i _ => fn - (intOf i).toNat)
  case atStart => exact ⟨0, S0, [], Nat.zero_le _, rfl, Nat.le_refl _, G0, K0, ⟨_, _, _, _, _, _, B0.out⟩, L0⟩
  case round =>
    clear B0 L0 G0 K0
    obtain ⟨k, S, al, hk, rfl, hal, HG, HK, HB, HW⟩ := hrel
    obtain ⟨a5, n5, c5, a6, n6, c6, P1⟩ := HB.out
    clear HB
    have hn6 : ((n6 : Int) == 0) = false := by
      have h1 := P1.g.len.1
      have h2 := List.length_pos_iff.2 HG.out.ne
      simp; omega
    by_cases hlt : k < fn
    · have hac := HOK.out k hlt
      have HGT := HG.out.act (20 + q) (l.getD k azero) hac.2.1.2
      have HKT := HK.out.act (by omega) (by omega) (l.getD k azero)
      have DO := Lib.hid fun (W : World) (h1 : IsL FL W (.slice a5 n5 c5) S.d.f) (h2 : IsL Rts.SL W (.slice a6 n6 c6) S.g) => do12_any a5 a6 n5 c5 n6 c6 S (20 + q) (l.getD k azero) W _ h1 h2 HG.out (by omega) hac
      obtain ⟨⟨T, E⟩, hT⟩ : ∃ R, doA (20 + q) S (l.getD k azero) = R := ⟨_, rfl⟩
      rw [hT] at DO HGT HKT
      dsimp only at HKT
      replace HGT := Lib.hid (show Gd T (k + 2) from HGT)
      have hal2 := appd_len (l.getD k azero) E al
      have HKH := Lib.hid HKT.1
      clear HKT
      generalize appd (l.getD k azero) E al = al2 at *
      unfold stVal acVal at DO
      obtain ⟨⟨k0, k1, k2, k3, k4⟩, k5, k6, k7, k8, k9, k10⟩ := cellsS P1.d
      have hgn : 0 < n6 := by
        rcases Nat.eq_zero_or_pos n6 with h | h
        · subst h; simp at hn6
        · exact h
      go_upto_region 9 with (fail)
      clear k0 k1 k2 k3 k4 k5 k6 k7 k8 k9 k10
      have P2 := P1.keep (W' := wr.drew) (Below.refl _ _).drew
      have PD := Lib.hid P2
      obtain ⟨g, off, rfl, c0, c1, c2⟩ := ac_at ((HL.out.keep HW.out).keep (w' := wr.drew) (Below.refl _ _).drew) hlt
      generalize l.getD k azero = ac at DO c0 c1 c2
      clear hT hac
      obtain ⟨⟨k0, k1, k2, k3, k4⟩, k5, k6, k7, k8, k9, k10⟩ := cellsS P2.d
      have kf := frozenS P2.d
      have hP : ∀ p ∈ [b], p < wr.drew.heap.size := fun p hp => by have := P2.lt; simp at hp; omega
      have hbl : w.heap.size ≤ b := hbw
      clear P1 P2
      go_region_with (first | (go_at_call 12; refine (DO.out _ PD.out.f PD.out.g).mono ?_; rintro e w5 ⟨a7, n7, c7, a8, n8, c8, rfl, k5'⟩; obtain ⟨⟨z0, z1, z2, z3, z4⟩, z5, z6, z7, z8, z9, z10⟩ := cellsS (hkeep PD.out.d k5'.w); have zf := frozenS (hkeep PD.out.d k5'.w); have LY := Lib.hid (PD.out.lay k5' (by simp) hP); have LW := Lib.hid ((HW.out.drew).trans (k5'.w.mono (Nat.le_trans HW.out.size (Nat.le_refl _)))); clear k5'; unfold stVal))
      all_goals
        go_upto_region 6 with (fail)
        obtain ⟨Z, hZ, Z1, Z3⟩ := LY.out
        rw [hZ]
        have R1 := Lib.hid (show BxR [b] b T Z from ⟨_, _, _, _, _, _, Z1⟩)
        have R3 := Lib.hid (Z3 w.heap.size w hbl LW.out)
        clear hZ LY Z1 Z3 k0 k1 k2 k3 k4 k5 k6 k7 k8 k9 k10 z0 z1 z2 z3 z4 z5 z6 z7 z8 z9 z10 kf zf c0 c1 c2
        go_wp2_with fail
        go_roundw
        case rel => exact ⟨k + 1, T, al2, by omega, by go_num, by omega, HGT, HKH, R1, R3⟩
        case measure => simp [intOf]; omega
    · have hkk : ¬ (k : Int) < (fn : Int) := by omega
      have hst := HG.out.stb (by omega)
      have RD := Lib.hid fun (o : Int) (W : World) (h1 : IsL FL W (.slice a5 n5 c5) S.d.f) (h2 : IsL Rts.SL W (.slice a6 n6 c6) S.g) => read12_any a5 a6 n5 c5 n6 c6 S (20 + q) (rcOf al) o W h1 h2 hst HK.out.i (by rw [rcOf_len]; have := HK.out.n; omega)
      have hal4 : al.length ≤ 40 := by omega
      have hrl : (rcOf al).length ≤ 40 := by rw [rcOf_len]; exact hal4
      have KR := Lib.hid fun (j : Nat) (hj : j < (rcOf al).length) => HK.out.i.read (by omega) hj
      have KX := Lib.hid HK.out.i.x
      have KO := Lib.hid HK.out.i.ok
      have PZ := Lib.hid (Pos.zero (Sto.So.Inv.sizes HK.out.i))
      generalize rcOf al = rs at *
      have HN6 := Lib.hid (show n6 = S.g.length from P1.g.len.1)
      have P1H := Lib.hid P1
      have b0 := Lib.hid (Below.refl wr.heap.size wr)
      clear hst P1 HK HG hlt hn6 hal hal4
      unfold stVal at RD
      go_wp2_with fail
      go_loopw [8, 9] (fun v i W => ∃ j a : Nat, i = .int .i64 j ∧ v = .int .i64 a ∧ a ≤ 40 ∧ Hid (Pos (20 + q) S.g rs j a) ∧ Hid (Below wr.heap.size wr W)) (fun _ i _ => n6 - (intOf i).toNat)
      case atStart => exact ⟨0, 0, rfl, rfl, by omega, PZ, b0⟩
      case round =>
        obtain ⟨j, a, rfl, rfl, ha, HP, HB2⟩ := hrel
        have P2 := P1H.out.keep HB2.out
        obtain ⟨⟨k0, k1, k2, k3, k4⟩, k5, k6, k7, k8, k9, k10⟩ := cellsS P2.d
        by_cases hlt2 : j < n6
        · obtain ⟨rl, g1, g2, g3, g4, g5, g6, g7, g8⟩ := HP.out.at_ (by rw [← HN6.out]; exact hlt2)
          rw [← HN6.out] at g5
          obtain ⟨sb, so, rfl, s0, s1, s2⟩ := sg_at P2.g hlt2
          have G7 := Lib.hid g7
          have G8 := Lib.hid g8
          have KO2 := Lib.hid (show ∀ r ∈ rl, Rp.Ok r from fun r hr => by
            obtain ⟨i, hi, rfl⟩ := List.mem_iff_getElem.1 hr
            exact KO.out _ (List.mem_of_getElem? (g7 i hi)))
          have hz0 : (Rp.rowB rl).length ≤ 1000 := by omega
          have hl0 : rl.length ≤ 1000 := by omega
          have hjn : j + 1 ≤ 9223372036854775807 := by
            have m1 := P2.g.len.2
            have m2 := P2.g.len.1
            unfold maxLen at m1
            omega
          have hw110 : IntKind.i64.wrap (20 + q + 90) = 20 + q + 90 := IntWalk.i64_in _ ⟨by omega, by omega⟩
          have KRR := Lib.hid (show ∀ i (hi : i < rl.length), readT S ((a : Int) + (i : Int)) = (rl[i], 0) from fun i hi => by
            have h1 := G7.out i hi
            have h2 : a + i < rs.length := by omega
            have h3 := KR.out (a + i) h2
            rw [List.getElem?_eq_getElem h2] at h1
            rw [Int.natCast_add] at h3
            rw [h3, Option.some.inj h1])
          clear g7 g8 P2
          rw [g2] at g5
          rw [g3] at g4 g5
          generalize S.g.getD j Rt.zero = sg at *
          go_upto_region 15 with (fail)
          have al1 := (Below.refl wr.heap.size wr).alloc (Nat.le_refl _) (.cells #[.int .i64 a, .int .i64 rl.length, .int .i64 (Rp.rowB rl).length] 65)
          have HB3 := Lib.hid (HB2.out.trans (al1.mono HB2.out.size))
          have Y1 := Lib.hid (heap_alloc_new wr (.cells #[.int .i64 a, .int .i64 rl.length, .int .i64 (Rp.rowB rl).length] 65))
          have hbx : wr.heap.size < (wr.alloc (.cells #[.int .i64 a, .int .i64 rl.length, .int .i64 (Rp.rowB rl).length] 65)).heap.size := by simp
          clear k0 k1 k2 k3 k4 k5 k6 k7 k8 k9 k10 s0 s1 s2 al1
          generalize wr.alloc _ = w3 at HB3 Y1 hbx ⊢
          generalize wr.heap.size = bx at Y1 hbx ⊢
          generalize hz : (Rp.rowB rl).length = z at *
          have P3 := P1H.out.keep HB3.out
          obtain ⟨⟨k0, k1, k2, k3, k4⟩, k5, k6, k7, k8, k9, k10⟩ := cellsS P3.d
          obtain ⟨y0, y1, y2⟩ := cells3 Y1.out
          clear P3
          clear g1 g2 g3
          have e0 : ((a : Int) != (a : Int)) = false := by simp
          have e2 : decide (20 + q + 90 < (z : Int)) = false := decide_eq_false (by omega)
          go_cut [91] (fun p we => p = .bool false ∧ we = w3)
          case first =>
            by_cases hn : j + 1 < n6
            · obtain ⟨h5, h6⟩ := g5 hn
              have e3 : decide ((z : Int) < 20 + q) = false := decide_eq_false (by omega)
              have e4 : decide ((rl.length : Int) < 1) = false := decide_eq_false (by omega)
              have e5 : decide ((j : Int) + 1 < n6) = true := decide_eq_true (by omega)
              go_wp2_with fail
              go_meet
              case rel => exact ⟨rfl, rfl⟩
            · have e5 : decide ((j : Int) + 1 < n6) = false := decide_eq_false (by omega)
              go_wp2_with fail
              go_meet
              case rel => exact ⟨rfl, rfl⟩
          case rest =>
            obtain ⟨rfl, rfl⟩ := hcut
            clear e0 e2 g5 k0 k1 k2 k3 k4 k5 k6 k7 k8 k9 k10
            have HG7 := Lib.hid (show a + rl.length ≤ 40 from by omega)
            have hat : (0 : Int) ≤ (a : Int) + (rl.length : Int) ∧ (a : Int) + (rl.length : Int) ≤ 40 := by omega
            go_wp2_with fail
            go_loopw [11, 12] (fun n k W => ∃ i : Nat, i ≤ rl.length ∧ n = .int .i64 ((Rp.rowB (rl.take i)).length : Int) ∧ k = .int .i64 ((a : Int) + (i : Int)) ∧ Hid (Below wc.heap.size wc W)) (fun _ k _ => (a + rl.length) - (intOf k).toNat)
            case atStart => exact ⟨0, Nat.zero_le _, rfl, by simp, Lib.hid (Below.refl _ _)⟩
            case round =>
              obtain ⟨i, hi, rfl, rfl, HB4⟩ := hrel
              have HB5 := Lib.hid (HB3.out.trans (HB4.out.mono HB3.out.size))
              have P4 := P1H.out.keep HB5.out
              obtain ⟨⟨k0, k1, k2, k3, k4⟩, k5, k6, k7, k8, k9, k10⟩ := cellsS P4.d
              obtain ⟨y0, y1, y2⟩ := cells3 (hkeep Y1.out HB4.out)
              by_cases hlt3 : i < rl.length
              · have hlt3' : (a : Int) + (i : Int) < (a : Int) + (rl.length : Int) := by omega
                have hok1 := KO2.out _ (List.getElem_mem hlt3)
                have hmo := rowB_mono (l := rl) (i + 1)
                have htk := rowB_take12 KO2.out hlt3
                have R1 := RD.out ((a : Int) + (i : Int)) _ P4.f P4.g
                rw [KRR.out i hlt3] at R1
                generalize rl[i] = r at R1 htk hok1
                have SZ := fun W : World => rrecsize_any r W (by have := hok1.2.2.2.2; omega)
                unfold RdVal at R1
                dsimp only at R1
                unfold recVal at R1 SZ
                replace R1 := Lib.hid R1
                replace SZ := Lib.hid SZ
                have HTK := Lib.hid htk
                have hn1 : (Rp.rowB (rl.take i)).length + (Rp.putB r).length ≤ 1000 := by omega
                clear P4 hok1 hmo htk
                generalize (Rp.rowB (rl.take i)).length = n at *
                generalize (Rp.putB r).length = pn at *
                go_wp2_with fail
                refine R1.out.mono ?_
                rintro e w4 ⟨rfl, b4⟩
                have al4 := (Below.refl w4.heap.size w4).alloc (Nat.le_refl _) (.cells #[.int .i64 r.a, .int .i64 r.t, .string r.d] 57)
                have L4 := Lib.hid ((HB4.out.trans (b4.mono HB4.out.size)).trans (al4.mono (Nat.le_trans HB4.out.size b4.size)))
                clear k0 k1 k2 k3 k4 k5 k6 k7 k8 k9 k10 y0 y1 y2 b4 al4 R1
                go_wp2_with fail
                refine (SZ.out _).mono ?_
                rintro e w5 ⟨rfl, b5⟩
                have L5 := Lib.hid (L4.out.trans (b5.mono L4.out.size))
                clear b5
                go_wp2_with fail
                go_roundw
                case rel => exact ⟨i + 1, by omega, by rw [HTK.out]; go_num, by go_num, L5⟩
                case measure => simp [intOf]; omega
              · obtain rfl : i = rl.length := by omega
                have hlt3' : ¬ (a : Int) + (rl.length : Int) < (a : Int) + (rl.length : Int) := by omega
                rw [List.take_length, hz]
                have ez : ((z : Int) != (z : Int)) = false := by simp
                have hjj : (j : Int) + 1 ≤ 9223372036854775807 := by omega
                clear P4 k0 k1 k2 k3 k4 k5 k6 k7 k8 k9 k10
                go_wp2_with fail
                go_roundw
                case rel => exact ⟨j + 1, a + rl.length, by go_num, by go_num, HG7.out, Lib.hid G8.out, HB5⟩
                case measure => simp [intOf]; omega
        · have hjj : ¬ (j : Int) < (n6 : Int) := by omega
          obtain rfl : j = n6 := by
            have h1 := HP.out.le
            have h2 := HN6.out
            omega
          have hax : a = rs.length := Pos.end_ (by rw [← HN6.out]; exact HP.out)
          have ex : ((a : Int) == S.x) = true := by rw [KX.out, hax]; simp
          clear P2 hax
          go_wp2_with fail
          refine (AW.out _).mono ?_
          rintro e w5 ⟨rfl, b5⟩
          have L6 := Lib.hid (HB2.out.trans (b5.mono HB2.out.size))
          have P5 := P1H.out.keep L6.out
          obtain ⟨⟨x0, x1, x2, x3, x4⟩, x5, x6, x7, x8, x9, x10⟩ := cellsS P5.d
          have L5 := Lib.hid (HW.out.trans (L6.out.mono HW.out.size))
          clear b5 P5 k0 k1 k2 k3 k4 k5 k6 k7 k8 k9 k10
          go_wp2_with fail
          go_ret
          exact ⟨rfl, L5.out⟩

end Go.Proofs.YthhhocgpoenigaaGreat.Sto
