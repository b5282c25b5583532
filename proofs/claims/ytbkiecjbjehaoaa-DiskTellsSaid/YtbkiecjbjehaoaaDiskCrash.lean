/-
  What disk's Crash answers.
-/
import Derived.Test.YtbkiecjbjehaoaaDiskFew
import Derived.Deep.RegionHeld3
namespace Go.Proofs.Ytbkiecjbjehaoaa.Dsk
open Go.RowKit Go.Proofs.Ytbkiecjbjehaoaa.Dp

/-- The number at a place of a list, nought behind its end. -/
def keepAt (ks : List Int) (i : Nat) : Int := ks.getD i 0
theorem crashF_get : ∀ (l : List Fl) (ks : List Int) (i : Nat) (h : i < l.length) (h' : i < (crashF l ks).length), (crashF l ks)[i] = left l[i] (keepAt ks i)
  | [], _, i, h, _ => absurd h (by simp)
  | f :: l, [], 0, _, _ => rfl
  | f :: l, k :: r, 0, _, _ => rfl
  | f :: l, [], i + 1, h, h' => by
    have e := crashF_get l [] i (by simpa using h) (by rw [crashF_len]; simpa using h)
    simp only [crashF, List.getElem_cons_succ]
    rw [e]
    simp [keepAt]
  | f :: l, k :: r, i + 1, h, h' => by
    have e := crashF_get l r i (by simpa using h) (by rw [crashF_len]; simpa using h)
    simp only [crashF, List.getElem_cons_succ]
    rw [e]
    simp [keepAt]
/-- The files of which the first i are crashed. -/
def part (l : List Fl) (ks : List Int) (i : Nat) : List Fl := (crashF l ks).take i ++ l.drop i
theorem part_zero (l : List Fl) (ks : List Int) : part l ks 0 = l := by simp [part]
theorem part_all (l : List Fl) (ks : List Int) {i : Nat} (h : l.length ≤ i) : part l ks i = crashF l ks := by
  unfold part
  rw [List.take_of_length_le (by rw [crashF_len]; exact h), List.drop_eq_nil_of_le h, List.append_nil]
theorem part_len (l : List Fl) (ks : List Int) (i : Nat) : (part l ks i).length = l.length := by
  unfold part
  rw [List.length_append, List.length_take, List.length_drop, crashF_len]
  omega
theorem part_at (l : List Fl) (ks : List Int) {i : Nat} (h : i < l.length) (z : Fl) : (part l ks i).getD i z = l.getD i z := by
  unfold part
  have hl : ((crashF l ks).take i).length = i := by rw [List.length_take, crashF_len]; omega
  rw [List.getD_eq_getElem?_getD, List.getD_eq_getElem?_getD, List.getElem?_append_right (by omega), hl, Nat.sub_self, List.getElem?_drop, Nat.add_zero]
theorem part_step (l : List Fl) (ks : List Int) {i : Nat} (h : i < l.length) (z : Fl) : (part l ks i).take i ++ [left (l.getD i z) (keepAt ks i)] ++ (part l ks i).drop (i + 1) = part l ks (i + 1) := by
  have hc : i < (crashF l ks).length := by rw [crashF_len]; exact h
  have hl : ((crashF l ks).take i).length = i := by rw [List.length_take]; omega
  unfold part
  rw [List.take_append_of_le_length (by omega), List.take_take, Nat.min_self, List.drop_append, List.drop_eq_nil_of_le (by omega), hl, List.nil_append, List.drop_drop, show i + (i + 1 - i) = i + 1 from by omega,
    List.take_succ_eq_append_getElem hc, crashF_get l ks i h hc, getD_fl h]
theorem left_val {f : Fl} (h : FOk f) (k : Int) : ∃ m : Nat, f.s + keptI f k = (m : Int) ∧ m ≤ f.d.size ∧ left f k = ⟨f.n, f.d.extract 0 m, m⟩ := by
  have h1 := h.2.1
  have h2 := h.2.2
  refine ⟨(f.s + keptI f k).toNat, by unfold keptI; omega, by unfold keptI; omega, ?_⟩
  have e : (f.s + max 0 (min k ((f.d.size : Int) - f.s))).toNat ≤ f.d.size := by omega
  unfold left keptI
  simp only [ByteArray.size_extract]
  congr 1
  omega

/-- Numbers as a slice in memory. -/
def KL : Lay Int where
  enc := fun k => [.int .i64 k]
  k := 1
  len := fun _ => rfl
  one := by intro f u hu; simp at hu; rw [hu]; rfl
  pos := by decide
  T := 3
  ok := fun k => -9223372036854775808 ≤ k ∧ k ≤ 9223372036854775807
  z := 0
theorem kl_at {w : World} {b off n cap : Nat} {l : List Int} (h : IsL KL w (.slice (some ⟨b, off, none⟩) n cap) l) {i : Nat} (hi : i < n) : w.cell? ⟨b, off + i, none⟩ = some (.int .i64 (l.getD i 0)) := by
  have := h.at_ hi 0 _ rfl
  simpa [KL] using this

set_option maxRecDepth 100000 in
set_option maxHeartbeats 6400000 in
theorem crash_any (fv : Value) (D : Dk) (kv : Value) (ks : List Int) (w : World) (hv : IsL FL w fv D.f) (hS : Sm D) (hk : IsL KL w kv ks) :
    Calls Try.prog 20 #[dkVal fv D, kv] w fun e w' => ∃ v, e = .returned (dkVal v (crash D ks)) ∧ OwnL FL w' w.heap.size v (crashF D.f ks) ∧ Below w.heap.size w w' := by
  obtain ⟨fa, fn, fc, rfl⟩ : ∃ a n c, fv = .slice a n c := by obtain ⟨a, c, h, _⟩ := hv; exact ⟨a, _, c, h⟩
  obtain ⟨ka, kn, kc, rfl⟩ : ∃ a n c, kv = .slice a n c := by obtain ⟨a, c, h, _⟩ := hk; exact ⟨a, _, c, h⟩
  have C := Lib.hid fun (W : World) (h : IsL FL W (.slice fa fn fc) D.f) => clone_any _ D.f W h (by have := hS.n; omega)
  have HV := Lib.hid hv
  have HK := Lib.hid hk
  have HR := Lib.hid hS.r.1
  have HFB := Lib.hid hS.flb
  have HKN := Lib.hid hk.len.1
  have hkn : kn ≤ 9223372036854775807 := by have := hk.len; unfold maxLen at this; omega
  have hl : D.f.length ≤ 1000000 := hS.n
  obtain ⟨g0, g1, gb, gs⟩ := boxes2 w #[.slice fa fn fc, .int .i64 D.c, .bool D.a, .int .i64 D.l, .bool D.x] #[.slice none 0 0, .int .i64 0, .bool false, .int .i64 0, .bool false] 24 24
  have G0 := Lib.hid g0
  have G1 := Lib.hid g1
  have GB := Lib.hid gb
  have GS := Lib.hid gs
  have HP0 := Lib.hid (part_zero D.f ks)
  have HPA := Lib.hid fun i (h : D.f.length ≤ i) => part_all D.f ks h
  have HPL := Lib.hid fun i => part_len D.f ks i
  have HPG := Lib.hid fun i (h : i < D.f.length) => part_at D.f ks h zero
  have HPS := Lib.hid fun i (h : i < D.f.length) => part_step D.f ks h zero
  obtain ⟨fl, dc, da, dl, dx⟩ := D
  unfold crash
  dsimp only at *
  clear hv hS hk g0 g1 gb gs
  unfold dkVal
  dsimp only
  obtain ⟨len, hlen⟩ : ∃ len, fl.length = len := ⟨_, rfl⟩
  rw [hlen] at hl HPA HPG HPS
  have HL := Lib.hid hlen
  clear hlen
  go_enter Try.func20, Try.ntmps20
  go_wp2_with fail
  generalize World.alloc (World.alloc w _) _ = w0 at G0 G1 GB GS ⊢
  refine (C.out w0 (HV.out.keep GB.out)).mono ?_
  rintro e w1 ⟨v1, rfl, ho1, b1⟩
  obtain ⟨ga, gn, gc, rfl⟩ := own_slice ho1
  obtain rfl : gn = len := by
    have := (ho1.is (by rw [HL.out]; unfold maxLen; omega) HFB.out).len.1
    rw [this, HL.out]
  rw [GS.out] at ho1 b1
  have HI := Lib.hid (show OwnL FL w1 (w.heap.size + 2) (.slice ga gn gc) (part fl ks 0) by rw [HP0.out]; exact ho1)
  have BI := Lib.hid b1
  clear ho1 b1
  go_wp2_with fail
  go_loopw [14] (fun i wr => ∃ k : Nat, k ≤ gn ∧ i = .int .i64 k ∧ OwnL FL wr (w.heap.size + 2) (.slice ga gn gc) (part fl ks k) ∧ Below (w.heap.size + 2) w0 wr) (fun i _ => gn - (intOf i).toNat)
  case atStart => exact ⟨0, Nat.zero_le _, rfl, HI.out, BI.out⟩
  case round =>
    obtain ⟨k, hk, rfl, hO, hB⟩ := hrel
    by_cases hlt : k < gn
    · have HO := Lib.hid hO
      have hpl := HPL.out k
      obtain ⟨gb, cap, cur, he, hgb, hgc, hcl, hcm, hcs, hct⟩ := own_open hO (by rw [hpl, HL.out]; omega)
      injection he with e1 e2 e3
      clear e2 e3
      subst e1
      have hlt' : k < (part fl ks k).length := by rw [hpl, HL.out]; exact hlt
      have hci := fun j u (hj : (FL.vals (part fl ks k))[j]? = some u) => World.ownsRow.cells hO (g := gb) rfl j u hj
      have k0 := hci (k * 3 + 0) _ (FL.vals_get _ k 0 hlt' (by decide))
      have k1 := hci (k * 3 + 1) _ (FL.vals_get _ k 1 hlt' (by decide))
      have k2 := hci (k * 3 + 2) _ (FL.vals_get _ k 2 hlt' (by decide))
      rw [addr_plain] at k0 k1 k2
      change wr.cell? _ = some (.string ((part fl ks k).getD k zero).n) at k0
      change wr.cell? _ = some (.string ((part fl ks k).getD k zero).d) at k1
      change wr.cell? _ = some (.int .i64 ((part fl ks k).getD k zero).s) at k2
      rw [HPG.out k hlt] at k0 k1 k2
      simp only [Nat.zero_add, Nat.add_zero] at k0 k1 k2
      have hmem : fl.getD k zero ∈ fl := by rw [getD_fl (by rw [HL.out]; exact hlt)]; exact List.getElem_mem _
      have hok := HR.out _ hmem
      have hfb := HFB.out _ hmem
      have HST := HPS.out k hlt
      generalize fl.getD k zero = f at *
      obtain ⟨mo, hmo⟩ : ∃ mo, keepAt ks k = mo := ⟨_, rfl⟩
      rw [hmo] at HST
      obtain ⟨m, hm1, hm2, hm3⟩ := left_val hok mo
      rw [hm3] at HST
      obtain ⟨E, hE⟩ : ∃ E, f.d.extract 0 m = E := ⟨_, rfl⟩
      have hEs : E.size = m := by rw [← hE, ByteArray.size_extract]; omega
      have HST := Lib.hid (show (part fl ks k).take k ++ [(⟨f.n, E, (m : Int)⟩ : Fl)] ++ (part fl ks k).drop (k + 1) = part fl ks (k + 1) by rw [← hE]; exact HST)
      have K := fun W : World => kept_any f mo W hok hfb.2.1
      have hq0 := hok.2.1
      have hq1 := hok.2.2
      have hq2 := hfb.2.1
      obtain ⟨kp, hkp⟩ : ∃ kp, keptI f mo = kp := ⟨_, rfl⟩
      rw [hkp] at K hm1
      have K := Lib.hid K
      have hkp0 : 0 ≤ kp := by rw [← hkp]; unfold keptI; omega
      have hw : IntKind.i64.wrap (f.s + kp) = (m : Int) := by rw [hm1, IntKind.wrap_i64]; omega
      have hbd : ¬ ((f.d.size : Int) < (m : Int)) := by omega
      have hbz : ¬ ((m : Int) < 0) := by omega
      have hby : (m : Int) ≤ (f.d.size : Int) := by omega
      have hgl := block_lt_of_cell k0
      have G1 := Lib.hid (heap_alloc_new wr (.cells #[.string f.n, .string f.d, .int .i64 f.s] 43))
      have B1 := Lib.hid ((Below.refl _ wr).alloc (Nat.le_refl _) (.cells #[.string f.n, .string f.d, .int .i64 f.s] 43))
      have S1 := Lib.hid (show (wr.alloc (.cells #[.string f.n, .string f.d, .int .i64 f.s] 43)).heap.size = wr.heap.size + 1 by simp)
      have HB0 : Below w.heap.size w wr := GB.out.trans (hB.mono (by omega))
      clear hci hct hcs hgc hmem hok hfb hO hm3 hlt' hkp hgb hm1
      by_cases hkk : k < kn
      · obtain ⟨b', off', rfl, hcell⟩ : ∃ b' off', ka = some ⟨b', off', none⟩ ∧ w.cell? ⟨b', off' + k, none⟩ = some (.int .i64 (ks.getD k 0)) := by
          have hk' := HK.out
          obtain ⟨a', cap', e, _, _, h3⟩ := HK.out
          injection e with e1 e2 e3
          rcases h3 with h3 | ⟨b, off, h4, _⟩
          · rw [h3] at e2; simp at e2; omega
          · subst e1
            subst h4
            exact ⟨b, off, rfl, kl_at hk' hkk⟩
        have x1 : wr.cell? ⟨b', off' + k, none⟩ = some (.int .i64 mo) := by rw [HB0.cell (p := ⟨b', off' + k, none⟩) (block_lt_of_cell hcell), hcell, ← hmo]; rfl
        have xl := block_lt_of_cell x1
        clear HB0 hcell
        go_wp2_with fail
        generalize wr.alloc _ = w1 at G1 B1 S1 ⊢
        obtain ⟨d0, d1, d2⟩ := cells3 G1.out
        obtain ⟨e0, e1', e2'⟩ := frozen3 G1.out
        have hs1 := S1.out
        go_cut [7] (fun p w2 => p = .pointer (some ⟨wr.heap.size, 0, none⟩) ∧ w2.heap[wr.heap.size]? = some (.cells #[.string f.n, .string E, .int .i64 f.s] 43 (0, 0)) ∧ Below wr.heap.size wr w2)
        case first =>
          go_region_with (first | (go_at_call 43; refine (K.out _).mono ?_; rintro e w4 ⟨rfl, b4⟩; obtain ⟨x0, x1, x2⟩ := cells3 (hkeep G1.out (bel_trans2 (Below.refl _ _).drew b4)); obtain ⟨y0, y1, y2⟩ := frozen3 (hkeep G1.out (bel_trans2 (Below.refl _ _).drew b4))))
          all_goals go_wp2_with fail
          all_goals go_meet
          all_goals
            case rel => exact ⟨rfl, heap_setCell_same _ _ 1 _ _ _ (hkeep G1.out (bel_trans2 (Below.refl _ _).drew b4)), (B1.out.trans ((bel_trans2 (Below.refl _ _).drew b4).mono (by omega))).setCell (p := ⟨wr.heap.size, 1, none⟩) (Nat.le_refl _) _⟩
        case rest =>
          obtain ⟨rfl, hh, b2⟩ := hcut
          have b3 := b2.setCell (p := ⟨wr.heap.size, 2, none⟩) (Nat.le_refl _) (.int .i64 (m : Int))
          have HO3 := HO.out.keep b3
          obtain ⟨gb', cap', cur', he', hgb', hgc', hcl', hcm', hcs', hct'⟩ := own_open HO3 (by rw [part_len, HL.out]; omega)
          rw [part_len, HL.out] at he' hcl'
          injection he' with e1 e2 e3
          injection e1 with e1
          injection e1 with e1
          subst e1 e3
          have HS := own_set ⟨f.n, E, (m : Int)⟩ hgb' hgc' (by rw [part_len, HL.out]; exact hcl') hcm' hcs' hct' (by rw [part_len, HL.out]; exact hlt)
          rw [HST.out, part_len, HL.out] at HS
          have HS := Lib.hid HS
          have BF := Lib.hid ((hB.trans (b3.mono (by have := hB.size; have := GS.out; omega))).trans (bel_set3 hgb' (k * 3) (.string f.n) (.string E) (.int .i64 (m : Int))))
          obtain ⟨u0, hu0⟩ := Option.isSome_iff_exists.1 (row_some hgc' (k * 3) (by omega)).1
          obtain ⟨u1', hu1⟩ := Option.isSome_iff_exists.1 (row_some hgc' (k * 3 + 1) (by omega)).1
          obtain ⟨u2', hu2⟩ := Option.isSome_iff_exists.1 (row_some hgc' (k * 3 + 2) (by omega)).1
          have hf0 := (row_some hgc' (k * 3) (by omega)).2
          have hf1 := (row_some hgc' (k * 3 + 1) (by omega)).2
          have hf2 := (row_some hgc' (k * 3 + 2) (by omega)).2
          obtain ⟨d0, d1, d2⟩ := cells3 hh
          obtain ⟨e0, e1, e2⟩ := frozen3 hh
          have hgl2 := (Array.getElem?_eq_some_iff.1 hh).1
          clear hgc' hcs' hct' hgb' HO3 hh b2 b3
          go_wp2_with fail
          go_roundw
          case rel => first | exact ⟨k + 1, by omega, by go_num, HS.out, BF.out⟩ | ((repeat apply Exists.intro); exact ⟨⟨k + 1, by omega, by go_num, HS.out, BF.out⟩, rfl⟩)
          case measure => simp [intOf]; omega
      · obtain rfl : mo = 0 := by
          rw [← hmo]
          unfold keepAt
          rw [List.getD_eq_getElem?_getD, List.getElem?_eq_none (by rw [← HKN.out]; omega)]
          rfl
        clear HB0
        go_wp2_with fail
        generalize wr.alloc _ = w1 at G1 B1 S1 ⊢
        obtain ⟨d0, d1, d2⟩ := cells3 G1.out
        obtain ⟨e0, e1', e2'⟩ := frozen3 G1.out
        have hs1 := S1.out
        go_cut [7] (fun p w2 => p = .pointer (some ⟨wr.heap.size, 0, none⟩) ∧ w2.heap[wr.heap.size]? = some (.cells #[.string f.n, .string E, .int .i64 f.s] 43 (0, 0)) ∧ Below wr.heap.size wr w2)
        case first =>
          go_region_with (first | (go_at_call 43; refine (K.out _).mono ?_; rintro e w4 ⟨rfl, b4⟩; obtain ⟨x0, x1, x2⟩ := cells3 (hkeep G1.out (bel_trans2 (Below.refl _ _).drew b4)); obtain ⟨y0, y1, y2⟩ := frozen3 (hkeep G1.out (bel_trans2 (Below.refl _ _).drew b4))))
          all_goals go_wp2_with fail
          all_goals go_meet
          all_goals
            case rel => exact ⟨rfl, heap_setCell_same _ _ 1 _ _ _ (hkeep G1.out (bel_trans2 (Below.refl _ _).drew b4)), (B1.out.trans ((bel_trans2 (Below.refl _ _).drew b4).mono (by omega))).setCell (p := ⟨wr.heap.size, 1, none⟩) (Nat.le_refl _) _⟩
        case rest =>
          obtain ⟨rfl, hh, b2⟩ := hcut
          have b3 := b2.setCell (p := ⟨wr.heap.size, 2, none⟩) (Nat.le_refl _) (.int .i64 (m : Int))
          have HO3 := HO.out.keep b3
          obtain ⟨gb', cap', cur', he', hgb', hgc', hcl', hcm', hcs', hct'⟩ := own_open HO3 (by rw [part_len, HL.out]; omega)
          rw [part_len, HL.out] at he' hcl'
          injection he' with e1 e2 e3
          injection e1 with e1
          injection e1 with e1
          subst e1 e3
          have HS := own_set ⟨f.n, E, (m : Int)⟩ hgb' hgc' (by rw [part_len, HL.out]; exact hcl') hcm' hcs' hct' (by rw [part_len, HL.out]; exact hlt)
          rw [HST.out, part_len, HL.out] at HS
          have HS := Lib.hid HS
          have BF := Lib.hid ((hB.trans (b3.mono (by have := hB.size; have := GS.out; omega))).trans (bel_set3 hgb' (k * 3) (.string f.n) (.string E) (.int .i64 (m : Int))))
          obtain ⟨u0, hu0⟩ := Option.isSome_iff_exists.1 (row_some hgc' (k * 3) (by omega)).1
          obtain ⟨u1', hu1⟩ := Option.isSome_iff_exists.1 (row_some hgc' (k * 3 + 1) (by omega)).1
          obtain ⟨u2', hu2⟩ := Option.isSome_iff_exists.1 (row_some hgc' (k * 3 + 2) (by omega)).1
          have hf0 := (row_some hgc' (k * 3) (by omega)).2
          have hf1 := (row_some hgc' (k * 3 + 1) (by omega)).2
          have hf2 := (row_some hgc' (k * 3 + 2) (by omega)).2
          obtain ⟨d0, d1, d2⟩ := cells3 hh
          obtain ⟨e0, e1, e2⟩ := frozen3 hh
          have hgl2 := (Array.getElem?_eq_some_iff.1 hh).1
          clear hgc' hcs' hct' hgb' HO3 hh b2 b3
          go_wp2_with fail
          go_roundw
          case rel => first | exact ⟨k + 1, by omega, by go_num, HS.out, BF.out⟩ | ((repeat apply Exists.intro); exact ⟨⟨k + 1, by omega, by go_num, HS.out, BF.out⟩, rfl⟩)
          case measure => simp [intOf]; omega
    · have hO' := hO
      rw [HPA.out k (by omega)] at hO'
      have HO := Lib.hid hO'
      have P0 : wr.heap[w.heap.size]? = _ := (hB.block w.heap.size (by omega)).trans G0.out
      have P1 : wr.heap[w.heap.size + 1]? = _ := (hB.block (w.heap.size + 1) (by omega)).trans G1.out
      obtain ⟨p0, p1, p2, p3, p4⟩ := cells5 P0
      obtain ⟨q0, q1, q2, q3, q4⟩ := cells5 P1
      obtain ⟨qf0, qf1, qf2, qf3, qf4⟩ := frozen5 P1
      have BB := Lib.hid (GB.out.trans (hB.mono (by omega)))
      clear hO hO' P0 P1
      go_wp2_with fail
      refine bodyPost_ret (v := .agg #[.slice ga gn gc, .int .i64 dc, .bool false, .int .i64 0, .bool false]) (by simp [results, Try.results20, go_sem, q0, q1, q2, q3, q4]) rfl ?_
      exact ⟨_, rfl, own_base (own_set5 HO.out (k := w.heap.size + 1) (by omega) _ _ _ _ _) (by omega), bel_set5 BB.out (by omega) _ _ _ _ _⟩

end Go.Proofs.Ytbkiecjbjehaoaa.Dsk
