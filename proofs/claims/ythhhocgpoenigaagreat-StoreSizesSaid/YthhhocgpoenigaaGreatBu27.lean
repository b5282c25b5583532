/-
  Parts of what the laws of this seat stand on: StoSyn, StoClone.
-/
import Derived.Test.YthhhocgpoenigaaGreatBu1
import Derived.Test.YthhhocgpoenigaaGreatBu16
import Derived.Test.YthhhocgpoenigaaGreatBu24
import Derived.Test.YthhhocgpoenigaaGreatBu25
import Derived.Test.YthhhocgpoenigaaGreatBu6
namespace Go.Proofs.YthhhocgpoenigaaGreat.Sto
open Go.RowKit Go.Proofs.YthhhocgpoenigaaGreat.So Go.Proofs.YthhhocgpoenigaaGreat.Dsk Go.Proofs.YthhhocgpoenigaaGreat.Rts

set_option maxRecDepth 100000 in
set_option maxHeartbeats 3200000 in
theorem sync12_any (fa ga : Option Addr) (fn fc gn gc : Nat) (S : St) (w : World) (k : Nat) (hv : IsL FL w (.slice fa fn fc) S.d.f) (hg : IsL SL w (.slice ga gn gc) S.g) (hn : S.g ≠ []) (hB : Stb S) (hS : Bd S.d k) (hk : k ≤ 100000) :
    Calls Tryz.prog 32 #[stVal (.slice fa fn fc) (.slice ga gn gc) S] w (StOut w (.slice fa fn fc) (.slice ga gn gc) (syncT S)) := by
  have T0 := Lib.hid fun (W0 : World) => @Ts.new w (.slice fa fn fc) (.slice ga gn gc) S W0 hv hg
  have RL := Lib.hid fun (W : World) (h : IsL SL W (.slice ga gn gc) S.g) => file12_any (.slice fa fn fc) (.slice ga gn gc) S W h hn (fun g hg => (hB.g g hg).1) hB.n
  have RS := Lib.hid fun (W : World) (n : ByteArray) (h : IsL FL W (.slice fa fn fc) S.d.f) => sync_s hS (by omega) n h
  clear hv hg hn hB hS
  unfold stVal at RL ⊢
  unfold dkVal at RS
  go_enter Tryz.func32, Tryz.ntmps32
  go_upto_region 1 with (fail)
  obtain ⟨w0, hW⟩ : ∃ W0, (w.alloc (.cells #[.slice fa fn fc, .int .i64 S.d.c, .bool S.d.a, .int .i64 S.d.l, .bool S.d.x, .int .i64 S.v, .slice ga gn gc, .int .i64 S.x, .int .i64 S.s, .int .i64 S.z, .int .u32 S.c] 31)).alloc (.cells #[.slice none 0 0, .int .i64 0, .bool false, .int .i64 0, .bool false, .int .i64 0, .slice none 0 0, .int .i64 0, .int .i64 0, .int .i64 0, .int .u32 0] 31) = W0 := ⟨_, rfl⟩
  rw [hW]
  have T1 := T0.out w0 hW
  clear T0 hW
  obtain ⟨⟨k0, k1, k2, k3, k4⟩, k5, k6, k7, k8, k9, k10⟩ := cellsS T1.d
  have b0 := Below.refl w0.heap.size w0
  have TT := Lib.hid T1
  clear T1
  obtain ⟨R, hR⟩ : ∃ R, Dp.sync S.d (segN (lastG S).b) = R := ⟨_, rfl⟩
  have RN := Lib.hid (show ∀ W : World, IsL FL W (.slice fa fn fc) S.d.f → _ from fun W h => RS.out W (segN (lastG S).b) h)
  rw [hR] at RN
  have HSY := Lib.hid (show syncT S = ({ S with d := R.1, s := if R.2 = 0 then S.x else S.s }, R.2) from by unfold syncT; rw [hR])
  clear hR
  generalize segN (lastG S).b = nn at *
  go_cut [4, 5] (fun p v wc => ∃ t : Nat, p = .pointer (some ⟨t, 0, none⟩) ∧ v = .int .i64 R.2 ∧ SyR w w.heap.size (.slice fa fn fc) (.slice ga gn gc) (.slice fa fn fc) (.slice ga gn gc) S R.1 t wc)
  case first =>
    have ST : w0.cell? ⟨w.heap.size, 0, none⟩ = some (.slice fa fn fc) ∧ w0.cell? ⟨w.heap.size, 1, none⟩ = some (.int .i64 S.d.c) ∧ w0.cell? ⟨w.heap.size, 2, none⟩ = some (.bool S.d.a) ∧ w0.cell? ⟨w.heap.size, 3, none⟩ = some (.int .i64 S.d.l) ∧ w0.cell? ⟨w.heap.size, 4, none⟩ = some (.bool S.d.x) ∧ w0.cell? ⟨w.heap.size, 5, none⟩ = some (.int .i64 S.v) ∧ w0.cell? ⟨w.heap.size, 6, none⟩ = some (.slice ga gn gc) ∧ w0.cell? ⟨w.heap.size, 7, none⟩ = some (.int .i64 S.x) ∧ w0.cell? ⟨w.heap.size, 8, none⟩ = some (.int .i64 S.s) ∧ w0.cell? ⟨w.heap.size, 9, none⟩ = some (.int .i64 S.z) ∧ w0.cell? ⟨w.heap.size, 10, none⟩ = some (.int .u32 S.c) ∧ Below w0.heap.size w0 w0 := ⟨k0, k1, k2, k3, k4, k5, k6, k7, k8, k9, k10, b0⟩
    clear k0 k1 k2 k3 k4 k5 k6 k7 k8 k9 k10 b0
    have hb0 : w.heap.size < w0.heap.size := Nat.lt_of_succ_lt TT.out.lt
    go_region_held3 (fun W => W.cell? ⟨w.heap.size, 0, none⟩ = some (.slice fa fn fc) ∧ W.cell? ⟨w.heap.size, 1, none⟩ = some (.int .i64 S.d.c) ∧ W.cell? ⟨w.heap.size, 2, none⟩ = some (.bool S.d.a) ∧ W.cell? ⟨w.heap.size, 3, none⟩ = some (.int .i64 S.d.l) ∧ W.cell? ⟨w.heap.size, 4, none⟩ = some (.bool S.d.x) ∧ W.cell? ⟨w.heap.size, 5, none⟩ = some (.int .i64 S.v) ∧ W.cell? ⟨w.heap.size, 6, none⟩ = some (.slice ga gn gc) ∧ W.cell? ⟨w.heap.size, 7, none⟩ = some (.int .i64 S.x) ∧ W.cell? ⟨w.heap.size, 8, none⟩ = some (.int .i64 S.s) ∧ W.cell? ⟨w.heap.size, 9, none⟩ = some (.int .i64 S.z) ∧ W.cell? ⟨w.heap.size, 10, none⟩ = some (.int .u32 S.c) ∧ Below w0.heap.size w0 W) (first | with_reducible assumption | with_reducible exact keep5 (by assumption) | with_reducible exact keepA (by assumption) | with_reducible exact keepAD (by assumption) | with_reducible exact keep6 hb0 (by assumption) (by assumption) | with_reducible exact keepS (by assumption) (Below.refl _ _).drew | with_reducible exact keepS (by assumption) (by assumption)) (first | (go_at_call 67; refine (RL.out _ (by first | exact TT.out.g.keep (belS (by assumption)) | exact TT.out.g.keep (Below.refl _ _).drew)).mono ?_; rintro e w4 ⟨rfl, b4⟩; have h4 : w0.heap.size ≤ w4.heap.size := Nat.le_trans (by first | exact Nat.le_refl _ | exact alloc_drew_size _ _) b4.size; (first | (with_reducible have z4 := hkeep (alloc_drew_new _ _ _) b4; have y4 : w0.heap.size < w4.heap.size := Nat.lt_of_lt_of_le (alloc_drew_lt _ _) b4.size; have x4 : w0.heap.size ≤ w0.heap.size := Nat.le_refl _) | skip)) | (go_at_call 69; refine (RN.out _ (by first | exact TT.out.f.keep (belS (by assumption)) | exact TT.out.f.keep (Below.refl _ _).drew)).mono ?_; rintro e w5 ⟨a5, n5, c5, rfl, k5'⟩; have q5 := k5'.w; have s5 := keepS (by assumption) q5; have q4 := belQ (by assumption) q5; (first | (with_reducible have z5 := hkeep (heap_alloc_new _ _) q5) | (with_reducible have z5 := hkeep z4 q5) | skip); (first | (have zc := cells5 z5; have zf := frozen5 z5; obtain ⟨y0, y1, y2, y3, y4⟩ := zc; obtain ⟨yf0, yf1, yf2, yf3, yf4⟩ := zf) | skip); unfold dkVal))
    all_goals
      go_wp2_with fail
      go_meet
      case rel =>
        first
          | (refine ⟨_, rfl, rfl, ?_⟩; with_reducible exact SyR.A TT.out q4 k5')
          | (refine ⟨_, rfl, rfl, ?_⟩; with_reducible exact SyR.B TT.out q4 k5' z5 (by assumption) (by first | assumption | simp))
  case rest =>
    clear k0 k1 k2 k3 k4 k5 k6 k7 k8 k9 k10 b0
    obtain ⟨t, rfl, rfl, a, n, c, T2, DB, hk2⟩ := hcut
    obtain ⟨RD, RE⟩ := R
    dsimp only at *
    have LY := Lib.hid (T2.disk DB.f ⟨DB.s.1, DB.s.2.1⟩ hk2)
    obtain ⟨⟨k0, k1, k2, k3, k4⟩, k5, k6, k7, k8, k9, k10⟩ := cellsS T2.d
    have kf := frozenS T2.d
    obtain ⟨d0, d1, d2, d3, d4⟩ := cells5 DB.d
    clear T2 DB hk2 TT
    go_upto_if 17 with (fail)
    obtain ⟨Z, hZ, T3, _, _⟩ := LY.out
    rw [hZ]
    clear hZ LY k0 k1 k2 k3 k4 k5 k6 k7 k8 k9 k10 d0 d1 d2 d3 d4 kf
    have TS := Lib.hid T3
    have TF := Lib.hid T3.fin
    have TU := Lib.hid ((T3.sure S.x).fin)
    have kr := frozenS T3.r
    obtain ⟨⟨r0, r1, r2, r3, r4⟩, r5, r6, r7, r8, r9, r10⟩ := cellsS T3.r
    obtain ⟨⟨k0, k1, k2, k3, k4⟩, k5, k6, k7, k8, k9, k10⟩ := cellsS T3.d
    have kf := frozenS T3.d
    by_cases hz : RE = 0
    · subst hz
      have U := T3.sure S.x
      have US := Lib.hid U
      clear T3 TF U
      go_upto_region 5 with (fail)
      have U := US.out
      dsimp only at U
      generalize Z.setCell ⟨w.heap.size, 8, none⟩ (.int .i64 S.x) = Z2 at U TU ⊢
      clear kf kr r0 r1 r2 r3 r4 r5 r6 r7 r8 r9 r10 k0 k1 k2 k3 k4 k5 k6 k7 k8 k9 k10
      have kr := frozenS U.r
      obtain ⟨⟨r0, r1, r2, r3, r4⟩, r5, r6, r7, r8, r9, r10⟩ := cellsS U.r
      obtain ⟨⟨k0, k1, k2, k3, k4⟩, k5, k6, k7, k8, k9, k10⟩ := cellsS U.d
      clear U
      go_wp2_with fail
      obtain ⟨Z3, hZ3, Z4, Z5⟩ := TU.out
      rw [hZ3]
      obtain ⟨⟨s0, s1, s2, s3, s4⟩, s5, s6, s7, s8, s9, s10⟩ := cellsS Z4
      refine bodyPost_ret (v := .tuple #[stVal (.slice a n c) (.slice ga gn gc) { S with d := RD, s := S.x }, .int .i64 0]) (by unfold stVal; simp [results, Tryz.results32, go_sem, s0, s1, s2, s3, s4, s5, s6, s7, s8, s9, s10]) rfl ?_
      rw [HSY.out]
      exact ⟨_, _, _, _, _, _, rfl, Z5⟩
    · have hz' := ne_b hz
      have HSE := Lib.hid (if_neg hz : (if RE = 0 then S.x else S.s) = S.s)
      clear T3 TU hz
      go_wp2_with fail
      obtain ⟨Z3, hZ3, Z4, Z5⟩ := TF.out
      rw [hZ3]
      obtain ⟨⟨s0, s1, s2, s3, s4⟩, s5, s6, s7, s8, s9, s10⟩ := cellsS Z4
      refine bodyPost_ret (v := .tuple #[stVal (.slice a n c) (.slice ga gn gc) { S with d := RD }, .int .i64 RE]) (by unfold stVal; simp [results, Tryz.results32, go_sem, s0, s1, s2, s3, s4, s5, s6, s7, s8, s9, s10]) rfl ?_
      rw [HSY.out, HSE.out]
      exact ⟨_, _, _, _, _, _, rfl, Z5⟩

end Go.Proofs.YthhhocgpoenigaaGreat.Sto

namespace Go.Proofs.YthhhocgpoenigaaGreat.Sto
open Go.RowKit Go.Proofs.YthhhocgpoenigaaGreat.Rts

set_option maxHeartbeats 1600000 in
set_option maxRecDepth 100000 in
theorem sgclone_nil (cap : Nat) (w : World) :
    Calls Tryz.prog 68 #[.slice none 0 cap] w (OutL SL w w.heap.size []) := by
  have q22 : ∀ (w : World) (a : Option Addr) (n c n' c' : Nat), (binOp .eql 28 (.slice a n c) (.slice none n' c')).run Tryz.prog w = .ok (.bool a.isNone) w := fun w a n c n' c' => Lib.run_eql_slice_nil w _ _ a n c n' c' Tryz.underlying28
  have HF := Lib.hid (OutL.mk (OwnL.nil (Y := SL) w w.heap.size) (Below.refl _ w))
  go_enter Tryz.func68, Tryz.ntmps68
  go_wp2_with fail
  go_ret
  exact HF.out

set_option maxHeartbeats 1600000 in
set_option maxRecDepth 100000 in
theorem sgclone_some (x : Addr) (cap : Nat) (l : List Rt.Sg) (w : World) (hl : l.length ≤ 1000000000000) (hc : ∀ j u, (SL.vals l)[j]? = some u → w.cell? (x.add j) = some u) :
    Calls Tryz.prog 68 #[.slice (some x) l.length cap] w (OutL SL w w.heap.size l) := by
  obtain ⟨i0, hi0, hz0, hz1, hz2⟩ := info_parts info_sg
  have q22 : ∀ (w : World) (a : Option Addr) (n c n' c' : Nat), (binOp .eql 28 (.slice a n c) (.slice none n' c')).run Tryz.prog w = .ok (.bool a.isNone) w := fun w a n c n' c' => Lib.run_eql_slice_nil w _ _ a n c n' c' Tryz.underlying28
  have HC : Hid (∀ j u, (SL.vals l)[j]? = some u → (w.alloc (.cells #[] 65)).cell? (x.add j) = some u) := fun j u hj => Lib.cell?_alloc_some _ (hc j u hj)
  have H1 := Lib.hid (SL.vals_cells l)
  have HL := Lib.hid (SL.vals_len l)
  have HF : Hid (∀ v' w3, w3.ownsRow w.heap.size 65 3 v' (0 + l.length) ([] ++ SL.vals l) → (w.alloc (.cells #[] 65)).grownBy w3 (some w.heap.size) → OutL SL w w.heap.size l (.returned v') w3) := by
    intro v' w3 h hg
    rw [Nat.zero_add, List.nil_append] at h
    exact OutL.mk h (((Below.refl _ w).alloc (Nat.le_refl _) _).grown hg (by simp) (fun k hk => by injection hk with hk; omega))
  have hown := Lib.hid (World.ownsRow_made (e := 65) (size := 3) w #[] 0 (Nat.le_refl _) (Nat.zero_le _) (by simp))
  clear hc
  generalize SL.vals l = xs at *
  generalize l.length = len at *
  go_enter Tryz.func68, Tryz.ntmps68
  go_wp2_with (at_builtin; refine wpList_append_own _ rfl _ _ 28 rfl w.heap.size 65 i0 (.agg #[.int .i64 0, .int .i64 0, .int .i64 0]) 3 24 Tryz.underlying28 hi0 hz0 hz1 hz2 rfl (by decide) _ _ _ rfl hown.out x len cap xs rfl HL.out HC.out H1.out (by unfold maxLen; omega) (by omega) (by simp) ?_; intro v' w3 hown' hgrow3 hnil3)
  go_ret
  exact HF.out v' w3 hown' hgrow3

theorem sgclone_any (v : Value) (l : List Rt.Sg) (w : World) (h : IsL SL w v l) (hl : l.length ≤ 1000000000000) :
    Calls Tryz.prog 68 #[v] w (OutL SL w w.heap.size l) := by
  obtain ⟨a, cap, rfl, _, _, h3⟩ := h
  rcases h3 with rfl | ⟨b, off, rfl, h4⟩
  · cases a with
    | none => exact sgclone_nil cap w
    | some x => exact sgclone_some x cap [] w (by simp) (by simp [Lay.vals])
  · exact sgclone_some ⟨b, off, none⟩ cap l w hl (fun j u hj => by rw [addr_plain]; exact h4 j u hj)

end Go.Proofs.YthhhocgpoenigaaGreat.Sto
