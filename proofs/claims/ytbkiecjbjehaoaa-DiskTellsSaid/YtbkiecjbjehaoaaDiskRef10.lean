/-
  What the document's Crash answers.
-/
import Derived.Test.YtbkiecjbjehaoaaDiskRef5
import Derived.Test.YtbkiecjbjehaoaaDiskCrash
import Derived.Deep.DeepCutAuto
import Derived.Deep.RegionWith
import Derived.BigQuiet
import Derived.IntWalk
namespace Go.Proofs.Ytbkiecjbjehaoaa.Dsk
open Go.RowKit Go.Proofs.Ytbkiecjbjehaoaa.Dp

theorem crashF_snoc (l : List Fl) (ks : List Int) {k : Nat} (h : k < l.length) : (crashF l ks).take (k + 1) = (crashF l ks).take k ++ [left (l.getD k zero) (keepAt ks k)] := by
  have hc : k < (crashF l ks).length := by rw [crashF_len]; exact h
  rw [List.take_succ_eq_append_getElem hc, crashF_get l ks k h hc, getD_fl h]

set_option maxRecDepth 100000 in
set_option maxHeartbeats 6400000 in
theorem rcrash_any (fv : Value) (D : Dk) (kv : Value) (ks : List Int) (w : World) (hv : IsL FL w fv D.f) (hS : Sm D) (hk : IsL KL w kv ks) :
    Calls Try.prog 39 #[dkVal fv D, kv] w fun e w' => ∃ v, e = .returned (dkVal v (crash D ks)) ∧ OwnL FL w' w.heap.size v (crashF D.f ks) ∧ Below w.heap.size w w' := by
  obtain ⟨i0, hi0, hz0, hz1, hz2⟩ := info_parts info_fl
  obtain ⟨fa, fn, fc, rfl⟩ : ∃ a n c, fv = .slice a n c := by obtain ⟨a, c, h, _⟩ := hv; exact ⟨a, _, c, h⟩
  obtain ⟨ka, kn, kc, rfl⟩ : ∃ a n c, kv = .slice a n c := by obtain ⟨a, c, h, _⟩ := hk; exact ⟨a, _, c, h⟩
  have HV := Lib.hid hv
  have HK := Lib.hid hk
  have HR := Lib.hid hS.r.1
  have HFB := Lib.hid hS.flb
  have HKN := Lib.hid hk.len.1
  have hkn : kn ≤ 9223372036854775807 := by have := hk.len; unfold maxLen at this; omega
  have hfl := hv.len.1
  have hl : D.f.length ≤ 1000000 := hS.n
  obtain ⟨g0, g1, gb, gs⟩ := boxes2 w #[.slice fa fn fc, .int .i64 D.c, .bool D.a, .int .i64 D.l, .bool D.x] #[.slice none 0 0, .int .i64 0, .bool false, .int .i64 0, .bool false] 24 24
  have G0 := Lib.hid g0
  have G1 := Lib.hid g1
  have GB := Lib.hid gb
  have GS := Lib.hid gs
  have HT := Lib.hid fun k (hk : k < D.f.length) => crashF_snoc D.f ks hk
  have HA := Lib.hid (show ∀ k, D.f.length ≤ k → (crashF D.f ks).take k = crashF D.f ks from fun k hk => by rw [List.take_of_length_le (by rw [crashF_len]; exact hk)])
  have HLEN := Lib.hid (show ∀ k, ((crashF D.f ks).take k).length ≤ k from fun k => by rw [List.length_take]; omega)
  obtain ⟨fl, dc, da, dl, dx⟩ := D
  unfold crash
  dsimp only at *
  rw [← hfl] at hl HT HA
  have HFL := Lib.hid hfl
  clear hv hS hk g0 g1 gb gs hfl
  unfold dkVal
  dsimp only
  go_enter Try.func39, Try.ntmps39
  go_wp2_with fail
  generalize World.alloc (World.alloc w _) _ = w0 at G0 G1 GB GS ⊢
  go_loopw [5, 6] (fun s i wr => ∃ k : Nat, k ≤ fn ∧ i = .int .i64 k ∧ OwnL FL wr (w.heap.size + 2) s ((crashF fl ks).take k) ∧ Below (w.heap.size + 2) w0 wr) (fun _ i _ => fn - (intOf i).toNat)
  case atStart => exact ⟨0, Nat.zero_le _, rfl, by rw [List.take_zero]; exact OwnL.nil _ _, Below.refl _ _⟩
  case round =>
    obtain ⟨k, hk, rfl, hO, hB⟩ := hrel
    have P0 : wr.heap[w.heap.size]? = _ := (hB.block w.heap.size (by omega)).trans G0.out
    obtain ⟨p0, p1, p2, p3, p4⟩ := cells5 P0
    have hwl := (Array.getElem?_eq_some_iff.1 P0).1
    have HO := Lib.hid hO
    have HB0 : Below w.heap.size w wr := GB.out.trans (hB.mono (by omega))
    by_cases hlt : k < fn
    · obtain ⟨b, off, rfl, c0, c1, c2⟩ := isL_at (HV.out.keep HB0) hlt
      have HTk := HT.out k hlt
      have hlk := HLEN.out k
      have hmem : fl.getD k zero ∈ fl := by rw [getD_fl (by rw [← HFL.out]; exact hlt)]; exact List.getElem_mem _
      have hok := HR.out _ hmem
      have hfb := HFB.out _ hmem
      generalize fl.getD k zero = f at *
      obtain ⟨mo, hmo⟩ : ∃ mo, keepAt ks k = mo := ⟨_, rfl⟩
      rw [hmo] at HTk
      obtain ⟨m, hm1, hm2, hm3⟩ := left_val hok mo
      rw [hm3] at HTk
      obtain ⟨E, hE⟩ : ∃ E, f.d.extract 0 m = E := ⟨_, rfl⟩
      have hEs : E.size = m := by rw [← hE, ByteArray.size_extract]; omega
      rw [hE] at HTk
      generalize (crashF fl ks).take k = L at *
      replace HTk := Lib.hid HTk
      have hq0 := hok.2.1
      have hq1 := hok.2.2
      have hq2 := hfb.2.1
      have hgl := block_lt_of_cell c0
      have hws : w.heap.size + 2 ≤ wr.heap.size := by have := hB.size; have := GS.out; omega
      obtain ⟨n1, d1, s1⟩ := f
      dsimp only at *
      have HF : Hid (∀ v' w3, w3.ownsRow (w.heap.size + 2) 43 3 v' (L.length + 1) (FL.vals L ++ flCells ⟨n1, E, (m : Int)⟩) → OwnL FL w3 (w.heap.size + 2) v' (L ++ [⟨n1, E, (m : Int)⟩])) := fun v' w3 h => OwnL.snoc (n := L.length) h rfl rfl
      have H1 := Lib.hid (show ∀ u ∈ flCells ⟨n1, E, (m : Int)⟩, u.oneCell' = true from FL.one _)
      have HLT := Lib.hid fun k' (h : _) => HO.out.lt k' h
      clear hmem hok hfb hO hm3 P0
      by_cases hkk : k < kn
      · obtain ⟨b', off', rfl, hcell⟩ : ∃ b' off', ka = some ⟨b', off', none⟩ ∧ w.cell? ⟨b', off' + k, none⟩ = some (.int .i64 (ks.getD k 0)) := by
          have hk' := HK.out
          obtain ⟨a', cap', e, _, _, h3⟩ := HK.out
          injection e with e1 e2 e3
          rcases h3 with h3 | ⟨b, off, h4, _⟩
          · rw [h3] at e2; simp at e2; omega
          · subst e1
            subst h4
            exact ⟨b, off, rfl, kl_at hk' hkk⟩
        have x1 : wr.cell? ⟨b', off' + k, none⟩ = some (.int .i64 mo) := by rw [HB0.cell (p := ⟨b', off' + k, none⟩) (block_lt_of_cell hcell), hcell, ← hmo]; rfl
        have xl := block_lt_of_cell x1
        obtain ⟨kp, hkp⟩ : ∃ kp, keptI ⟨n1, d1, s1⟩ mo = kp := ⟨_, rfl⟩
        rw [hkp] at hm1
        have hkv : max 0 (min mo ((d1.size : Int) - s1)) = kp := hkp
        have hkp0 : 0 ≤ kp := by rw [← hkv]; omega
        have HKV := Lib.hid hkv
        have HM1 := Lib.hid hm1
        have G2 := Lib.hid (heap_alloc_new wr (.cells #[.string n1, .string d1, .int .i64 s1] 43))
        have B2 := Lib.hid ((Below.refl _ wr).alloc (Nat.le_refl _) (.cells #[.string n1, .string d1, .int .i64 s1] 43))
        have S2 := Lib.hid (show (wr.alloc (.cells #[.string n1, .string d1, .int .i64 s1] 43)).heap.size = wr.heap.size + 1 by simp)
        clear hcell hkp hkv hm1 hmo
        go_wp2_with fail
        generalize wr.alloc _ = w1 at G2 B2 S2 ⊢
        have hw1 : wr.heap.size < w1.heap.size := by rw [S2.out]; omega
        have x1' := (B2.out.cell (p := ⟨b', off' + k, none⟩) xl).trans x1
        obtain ⟨d0, d1', d2⟩ := cells3 G2.out
        have xl1 := block_lt_of_cell x1'
        have hww : IntKind.i64.wrap ((d1.size : Int) - s1) = (d1.size : Int) - s1 := IntWalk.i64_in _ ⟨by omega, by omega⟩
        go_cut [8] (fun v w2 => v = .int .i64 kp ∧ Below w1.heap.size w1 w2)
        case first =>
          go_region
          all_goals go_wp2_with fail
          all_goals go_meet
          all_goals
            case rel => exact ⟨congrArg (Value.int .i64) HKV.out, by first | exact (Below.refl _ _).drew | exact bel_drewN _⟩
        case rest =>
          obtain ⟨rfl, hbc⟩ := hcut
          have hh := hkeep G2.out hbc
          have b2 := B2.out.trans (hbc.mono B2.out.size)
          clear x1 x1' xl xl1 hww d0 d1' d2 hbc
          obtain ⟨d0, d1', d2⟩ := cells3 hh
          obtain ⟨e0, e1, e2⟩ := frozen3 hh
          have hol : wr.heap.size < wc.heap.size := (Array.getElem?_eq_some_iff.1 hh).1
          have hm1 := HM1.out
          have hmb : s1 + kp ≤ 9223372036854775807 := by omega
          have HBC := Lib.hid b2
          clear b2 hh
          have HB2 := Lib.hid (show Below wr.heap.size wr ((wc.setCell ⟨wr.heap.size, 1, none⟩ (.string E)).setCell ⟨wr.heap.size, 2, none⟩ (.int .i64 (m : Int))) from (HBC.out.setCell (p := ⟨wr.heap.size, 1, none⟩) (Nat.le_refl _) (.string E)).setCell (p := ⟨wr.heap.size, 2, none⟩) (Nat.le_refl _) (.int .i64 (m : Int)))
          have HOX := Lib.hid (show (((wc.setCell ⟨wr.heap.size, 1, none⟩ (.string E)).setCell ⟨wr.heap.size, 2, none⟩ (.int .i64 (m : Int))).alloc (.cells (flCells ⟨n1, E, (m : Int)⟩).toArray 43)).ownsRow (w.heap.size + 2) 43 3 u5 L.length (FL.vals L) from (HO.out.keep HB2.out).alloc _)
          have HNEW := Lib.hid (news_new ((wc.setCell ⟨wr.heap.size, 1, none⟩ (.string E)).setCell ⟨wr.heap.size, 2, none⟩ (.int .i64 (m : Int))) (wc.heap.size) (flCells ⟨n1, E, (m : Int)⟩) 43 (by simp))
          have HBW := Lib.hid ((hB.trans (HB2.out.mono (by have := hB.size; have := GS.out; omega))).alloc (by simp; have := hB.size; have := GS.out; omega) (.cells (flCells ⟨n1, E, (m : Int)⟩).toArray 43))
          skip
          generalize hxs : FL.vals L = xs at *
          generalize hll : L.length = ll at *
          clear hxs hll
          go_wp2_with (at_builtin; refine wpList_append_own _ rfl _ _ 22 rfl (w.heap.size + 2) 43 i0 (.agg #[.string ByteArray.empty, .string ByteArray.empty, .int .i64 0]) 3 40 Try.underlying22 hi0 hz0 hz1 hz2 rfl (by decide) _ _ _ rfl HOX.out ⟨wc.heap.size, 0, none⟩ 1 1 (flCells ⟨n1, E, (m : Int)⟩) rfl rfl HNEW.out H1.out (by unfold maxLen; omega) (by omega) (by simp; omega) ?_; intro v' w3 hown' hgrow3 hnil3)
          go_roundw
          case rel =>
            exact ⟨k + 1, by omega, by go_num, by rw [HTk.out]; exact HF.out v' w3 hown', HBW.out.grown hgrow3 (by simp; omega) (fun q hq => (HLT.out q hq).1)⟩
          case measure => simp [intOf]; omega
      · obtain rfl : mo = 0 := by
          rw [← hmo]
          unfold keepAt
          rw [List.getD_eq_getElem?_getD, List.getElem?_eq_none (by rw [← HKN.out]; omega)]
          rfl
        obtain rfl : s1 = (m : Int) := by unfold keptI at hm1; dsimp only at hm1; omega
        clear hmo hm1
        have HB2 := Lib.hid (show Below wr.heap.size wr (wr.alloc (.cells #[.string n1, .string E, .int .i64 (m : Int)] 43)) from (Below.refl _ wr).alloc (Nat.le_refl _) _)
        have HOX := Lib.hid (show ((wr.alloc (.cells #[.string n1, .string E, .int .i64 (m : Int)] 43)).alloc (.cells (flCells ⟨n1, E, (m : Int)⟩).toArray 43)).ownsRow (w.heap.size + 2) 43 3 u5 L.length (FL.vals L) from (HO.out.keep HB2.out).alloc _)
        have HNEW := Lib.hid (news_new (wr.alloc (.cells #[.string n1, .string E, .int .i64 (m : Int)] 43)) (wr.heap.size + 1) (flCells ⟨n1, E, (m : Int)⟩) 43 (by simp))
        have HBW := Lib.hid ((hB.trans (HB2.out.mono (by have := hB.size; have := GS.out; omega))).alloc (by simp; have := hB.size; have := GS.out; omega) (.cells (flCells ⟨n1, E, (m : Int)⟩).toArray 43))
        skip
        generalize hxs : FL.vals L = xs at *
        generalize hll : L.length = ll at *
        clear hxs hll
        go_wp2_with (at_builtin; refine wpList_append_own _ rfl _ _ 22 rfl (w.heap.size + 2) 43 i0 (.agg #[.string ByteArray.empty, .string ByteArray.empty, .int .i64 0]) 3 40 Try.underlying22 hi0 hz0 hz1 hz2 rfl (by decide) _ _ _ rfl HOX.out ⟨wr.heap.size + 1, 0, none⟩ 1 1 (flCells ⟨n1, E, (m : Int)⟩) rfl rfl HNEW.out H1.out (by unfold maxLen; omega) (by omega) (by simp; omega) ?_; intro v' w3 hown' hgrow3 hnil3)
        go_roundw
        case rel =>
          exact ⟨k + 1, by omega, by go_num, by rw [HTk.out]; exact HF.out v' w3 hown', HBW.out.grown hgrow3 (by simp; omega) (fun q hq => (HLT.out q hq).1)⟩
        case measure => simp [intOf]; omega
    · have hO' := hO
      rw [HA.out k (by omega)] at hO'
      have HOF := Lib.hid hO'
      have P1 : wr.heap[w.heap.size + 1]? = _ := (hB.block (w.heap.size + 1) (by omega)).trans G1.out
      obtain ⟨q0, q1, q2, q3, q4⟩ := cells5 P1
      obtain ⟨qf0, qf1, qf2, qf3, qf4⟩ := frozen5 P1
      have BB := Lib.hid HB0
      obtain ⟨ga, gn, gc, rfl⟩ := own_slice hO
      clear hO hO' P0 P1 HO HB0
      go_wp2_with fail
      refine bodyPost_ret (v := .agg #[.slice ga gn gc, .int .i64 dc, .bool false, .int .i64 0, .bool false]) (by simp [results, Try.results39, go_sem, q0, q1, q2, q3, q4]) rfl ?_
      exact ⟨_, rfl, own_base (own_set5 HOF.out (k := w.heap.size + 1) (by omega) _ _ _ _ _) (by omega), bel_set5 BB.out (by omega) _ _ _ _ _⟩

end Go.Proofs.Ytbkiecjbjehaoaa.Dsk
