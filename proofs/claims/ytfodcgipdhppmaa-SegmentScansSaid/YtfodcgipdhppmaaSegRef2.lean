/-
  What the document's Index and Read of layer 9 answer.
-/
import Derived.Test.YtfodcgipdhppmaaSegRef
import Derived.Test.YtfodcgipdhppmaaSegMarks
namespace Go.Proofs.Ytfodcgipdhppmaa
open Go.RowKit Go.Proofs.Ytfodcgipdhppmaa.Mks

theorem ix_ok {l : List UInt8} {b every : Int} {k : Nat} {ps : List (Rp.Rec × Nat)} (h : Gp.Good l b 0 ps k) (hb : 0 ≤ b) (hb1 : b ≤ 1099511627776) (hk : k ≤ 4398046511104) {n : Nat} (hn : n ≤ ps.length) : ∀ m ∈ Gp.ix ps b every n, MkB m := by
  intro m hm
  obtain ⟨i, hi, rfl⟩ := Gp.ix_mem hm
  have hf := h.few
  rw [Gp.getD_ps (show i < ps.length by omega)]
  have := (h.lo i (by omega)).2
  exact ⟨⟨by show _ ≤ b + (i : Int); omega, by show b + (i : Int) ≤ _; omega⟩, by show _ ≤ ((ps[i].2 : Nat) : Int); omega, by show ((ps[i].2 : Nat) : Int) ≤ _; omega⟩

set_option maxRecDepth 100000 in
set_option maxHeartbeats 1600000 in
theorem rindex9_any (s : ByteArray) (base every : Int) (w : World) (hs0 : s.size ≤ 1000000000) (h1 : -9223372036854775808 ≤ base) (h2 : base ≤ 9223372036854775807) (h3 : 1 ≤ every) (h4 : every ≤ 9223372036854775807) :
    Calls Try.prog 13 #[.string s, .int .i64 base, .int .i64 every] w (OutL ML w w.heap.size (Gp.ix (Gp.full s.data.toList base).1 base every (Gp.full s.data.toList base).1.length)) := by
  have hs : s.size ≤ 4398046511104 := by omega
  have P := rplaces_any s base w hs h1 h2
  obtain ⟨ps, k, er, hF, hg, hin, _, _⟩ := Gp.full_good s.data.toList base
  rw [hF] at P ⊢
  have HL := Lib.hid (show s.data.toList.length = s.size from rfl)
  have hks : k ≤ s.size ∨ k = 0 := hg.le
  have hkk : k ≤ 4398046511104 := by omega
  have hfew := hg.few
  have HG := Lib.hid hg
  have HIN := Lib.hid hin
  dsimp only at P ⊢
  replace P := Lib.hid P
  clear hF hg hin
  go_enter Try.func13, Try.ntmps13
  go_wp2_with fail
  refine P.out.mono ?_
  rintro e w1 ⟨v, vp, rfl, hv, hp, b1⟩
  obtain ⟨pa, pn, pc, rfl⟩ : ∃ a n c, vp = .slice a n c := by obtain ⟨a, c, h, _⟩ := hp; exact ⟨a, _, c, h⟩
  have hpl := hp.len.1
  rw [List.length_map] at hpl
  have HP := Lib.hid hp
  have HB1 := Lib.hid b1
  clear hv hp b1
  dsimp only
  go_wp2_with fail
  go_loopw [11, 12] (fun x i wr => ∃ j : Nat, j ≤ pn ∧ i = .int .i64 j ∧ OwnL ML wr w.heap.size x (Gp.ix ps base every j) ∧ Below w.heap.size w wr ∧ Below w1.heap.size w1 wr) (fun _ i _ => pn - (intOf i).toNat)
  case atStart => exact ⟨0, Nat.zero_le _, rfl, OwnL.nil _ _, HB1.out, Below.refl _ _⟩
  case round =>
    obtain ⟨j, hj, rfl, hO, hb, hb1⟩ := hrel
    have HO := Lib.hid hO
    have hsz := hb.size
    by_cases hlt : j < pn
    · have hne : ps ≠ [] := fun h => by rw [h] at hpl; simp at hpl; omega
      have hi1 := Rp.inB_yes (HIN.out hne)
      obtain ⟨hi1, hi2⟩ := hi1
      obtain ⟨g, off, rfl, c0⟩ := nl_at (HP.out.keep hb1) hlt
      rw [map_getD Prod.snd ps j (Rp.zero, 0)] at c0
      have hxl := Gp.ix_len ps base every j
      have hps : (ps.getD j (Rp.zero, 0)).2 ≤ 4398046511104 := by
        have := (HG.out.lo j (by omega)).2
        show (ps.getD j Gp.pz).2 ≤ _
        rw [Gp.getD_ps (show j < ps.length by omega)]
        omega
      have AD := radd08_any u11 (Gp.ix ps base every j) base every ⟨base + (j : Int), ((ps.getD j (Rp.zero, 0)).2 : Nat)⟩ wr (hO.is (by unfold maxLen; omega) (ix_ok HG.out hi1 hi2 hkk (by omega))) (own_nil hO) (by omega) hi1 (by show base ≤ base + (j : Int); omega) h3 (by show base + (j : Int) ≤ _; omega) h4
      have HX := Lib.hid (show Mp.add (Gp.ix ps base every j) base every ⟨base + (j : Int), ((ps.getD j (Rp.zero, 0)).2 : Nat)⟩ = Gp.ix ps base every (j + 1) from rfl)
      rw [HX.out] at AD
      unfold mkVal at AD
      dsimp only at AD
      generalize (ps.getD j (Rp.zero, 0)).2 = pj at *
      replace AD := Lib.hid AD
      have HBW := Lib.hid hb
      have HBW1 := Lib.hid hb1
      clear hO hb hb1 hne
      go_wp2_with fail
      refine AD.out.mono ?_
      rintro e w2 ⟨v2, rfl, ho2, b2⟩
      have HO2 := Lib.hid (own_lo ho2 hsz)
      have HB2 := Lib.hid (HBW.out.trans (b2.mono hsz))
      have HB21 := Lib.hid (HBW1.out.trans (b2.mono HBW1.out.size))
      clear ho2 b2
      go_wp2_with fail
      go_roundw
      case rel => exact ⟨j + 1, by omega, by go_num, HO2.out, HB2.out, HB21.out⟩
      case measure => simp [intOf]; omega
    · obtain rfl : j = pn := by omega
      rw [hpl] at hO
      have HF := Lib.hid (OutL.mk hO hb)
      clear hO
      go_wp2_with fail
      go_ret
      exact HF.out

/-- What both Reads answer. -/
def rdVal9 (ps : List (Rp.Rec × Nat)) (b off : Int) : Value := .tuple #[recVal (Gp.rd ps b off).1, .int .i64 (Gp.rd ps b off).2]

theorem frozenK {W : World} {k : Nat} {T : TypeId} {cs : Array Value} (h : W.heap[k]? = some (.cells cs T (0, 0))) : W.frozen? ⟨k, 0, none⟩ = false ∧ W.frozen? ⟨k, 1, none⟩ = false ∧ W.frozen? ⟨k, 2, none⟩ = false := by
  refine ⟨?_, ?_, ?_⟩ <;> (unfold World.frozen?; rw [h]; rfl)
theorem cells3 {W : World} {k : Nat} {T : TypeId} {x y z : Value} (h : W.heap[k]? = some (.cells #[x, y, z] T (0, 0))) : W.cell? ⟨k, 0, none⟩ = some x ∧ W.cell? ⟨k, 1, none⟩ = some y ∧ W.cell? ⟨k, 2, none⟩ = some z :=
  ⟨by rw [cell_of_row _ _ 0 _ _ _ h]; rfl, by rw [cell_of_row _ _ 1 _ _ _ h]; rfl, by rw [cell_of_row _ _ 2 _ _ _ h]; rfl⟩
theorem bel_st3 {base k : Nat} {w W : World} (h : Below base w W) (hk : base ≤ k) (x y z : Value) : Below base w (((W.setCell ⟨k, 0, none⟩ x).setCell ⟨k, 1, none⟩ y).setCell ⟨k, 2, none⟩ z) :=
  ((h.setCell (p := ⟨k, 0, none⟩) hk x).setCell (p := ⟨k, 1, none⟩) hk y).setCell (p := ⟨k, 2, none⟩) hk z

set_option maxRecDepth 100000 in
set_option maxHeartbeats 1600000 in
theorem rread9_any (s : ByteArray) (base off : Int) (w : World) (hs : s.size ≤ 4398046511104) (h1 : -9223372036854775808 ≤ base) (h2 : base ≤ 9223372036854775807) :
    Calls Try.prog 15 #[.string s, .int .i64 base, .int .i64 off] w fun e w' => e = .returned (rdVal9 (Gp.full s.data.toList base).1 base off) ∧ Below w.heap.size w w' := by
  have P := fun (W : World) => rscan9_any s base W hs h1 h2
  obtain ⟨ps, k, er, hF, hg, hin, _, _⟩ := Gp.full_good s.data.toList base
  rw [hF] at P ⊢
  have HL := Lib.hid (show s.data.toList.length = s.size from rfl)
  have hks : k ≤ s.size ∨ k = 0 := hg.le
  have hkk : k ≤ 4398046511104 := by omega
  have hfew := hg.few
  have HNO := Lib.hid (show (∀ j : Nat, j < ps.length → base + (j : Int) ≠ off) → rdVal9 ps base off = .tuple #[.agg #[.int .i64 0, .int .i64 0, .string ⟨#[]⟩], .int .i64 6] from fun h => by
    unfold rdVal9
    rw [Gp.rd_out (by
      rcases Int.lt_or_le off base with h0 | h0
      · exact .inl h0
      · rcases Int.lt_or_le off (base + ps.length) with h5 | h5
        · exact absurd (by omega) (h (off - base).toNat (by omega))
        · exact .inr h5)]
    rfl)
  have HYES := Lib.hid (show ∀ j : Nat, j < ps.length → base + (j : Int) = off → rdVal9 ps base off = .tuple #[.agg #[.int .i64 (ps.getD j Gp.pz).1.a, .int .i64 (ps.getD j Gp.pz).1.t, .string (ps.getD j Gp.pz).1.d], .int .i64 0] ∧ (ps.getD j Gp.pz).1.a = off from fun j hj he => by
    subst he
    unfold rdVal9
    rw [Gp.rd_in ps base hj, Gp.getD_ps hj]
    exact ⟨rfl, hg.at_ j hj⟩)
  have HAT := Lib.hid (show ∀ j : Nat, j < ps.length → (ps.getD j Gp.pz).1.a = base + j from fun j hj => by rw [Gp.getD_ps hj]; exact hg.at_ j hj)
  have HA := Lib.hid ((Below.refl w.heap.size w).alloc (Nat.le_refl _) (.cells #[.int .i64 0, .int .i64 0, .string ⟨#[]⟩] 35))
  have G0 := Lib.hid (heap_alloc_new w (.cells #[.int .i64 0, .int .i64 0, .string ⟨#[]⟩] 35))
  have hbb : ps ≠ [] → base ≤ 1099511627776 := fun h => (Rp.inB_yes (hin h)).2
  have HBB := Lib.hid hbb
  dsimp only at P ⊢
  replace P := Lib.hid P
  generalize rdVal9 ps base off = V at *
  clear hF hg hin hbb
  go_enter Try.func15, Try.ntmps15
  go_wp2_with fail
  generalize World.alloc w _ = w0 at HA G0 ⊢
  refine (P.out _).mono ?_
  rintro e w1 ⟨v, rfl, hv, b1⟩
  obtain ⟨va, vn, vc, rfl⟩ : ∃ a n c, v = .slice a n c := by obtain ⟨a, c, h, _⟩ := hv; exact ⟨a, _, c, h⟩
  have hvl := (recs_len hv).1
  rw [List.length_map] at hvl
  have HV := Lib.hid hv
  have HB1 := Lib.hid (HA.out.trans (b1.mono HA.out.size))
  have G1 := Lib.hid ((b1.block w.heap.size (Array.getElem?_eq_some_iff.1 G0.out).1).trans G0.out)
  have hwl := (Array.getElem?_eq_some_iff.1 G1.out).1
  obtain ⟨f0, f1, f2⟩ := frozenK G1.out
  obtain ⟨z0, z1, z2⟩ := cells3 G1.out
  clear hv b1 G0 HA
  dsimp only
  go_wp2_with fail
  go_loopw [11] (fun i wr => ∃ j : Nat, j ≤ vn ∧ i = .int .i64 j ∧ (∀ i : Nat, i < j → base + (i : Int) ≠ off) ∧ wr = w1) (fun i _ => vn - (intOf i).toNat)
  case atStart => exact ⟨0, Nat.zero_le _, rfl, fun i hi => absurd hi (Nat.not_lt_zero i), rfl⟩
  case round =>
    obtain ⟨j, hj, rfl, hall, rfl⟩ := hrel
    have HALL := Lib.hid hall
    clear hall
    by_cases hlt : j < vn
    · obtain ⟨_, g, o, rfl, c0, c1, c2⟩ := rec_at HV.out hlt
      have e0 : (ps.map Prod.fst).getD j Rp.zero = (ps.getD j Gp.pz).1 := map_getD Prod.fst ps j Gp.pz
      rw [e0] at c0 c1 c2
      clear e0
      by_cases ho : base + (j : Int) = off
      · obtain ⟨hy, hy2⟩ := HYES.out j (by omega) ho
        rw [hy2] at hy c0
        have HY := Lib.hid hy
        clear hy hy2 ho
        generalize (ps.getD j Gp.pz).1 = r at *
        go_wp2_with fail
        refine bodyPost_ret (v := .tuple #[.agg #[.int .i64 off, .int .i64 r.t, .string r.d], .int .i64 0]) (by simp [results, Try.results15, go_sem, z0, z1, z2]) rfl ?_
        exact ⟨by rw [HY.out], bel_st3 HB1.out (Nat.le_refl _) _ _ _⟩
      · have hat := HAT.out j (by omega)
        rw [hat] at c0
        have hne : (base + (j : Int) == off) = false := by simpa using ho
        have HNX := Lib.hid (show ∀ i : Nat, i < j + 1 → base + (i : Int) ≠ off from fun i hi => by
          by_cases e : i = j
          · subst e; exact ho
          · exact HALL.out i (by omega))
        clear hat
        go_wp2_with fail
        go_roundw
        case rel => exact ⟨j + 1, by omega, by go_num, HNX.out, by first | rfl | trivial⟩
        case measure => simp [intOf]; omega
    · have HV2 := Lib.hid (HNO.out fun i hi => HALL.out i (by omega))
      go_wp2_with fail
      refine bodyPost_ret (v := .tuple #[.agg #[.int .i64 0, .int .i64 0, .string ⟨#[]⟩], .int .i64 6]) (by simp [results, Try.results15, go_sem, z0, z1, z2]) rfl ?_
      exact ⟨by rw [HV2.out], bel_st3 HB1.out (Nat.le_refl _) _ _ _⟩

/-- What both Indexes answer. -/
def IdxOut (w : World) (L : List Mp.Mk) (e : Ending) (w' : World) : Prop := ∃ v, e = .returned v ∧ IsL ML w' v L ∧ Below w.heap.size w w'
theorem rindex9_got (s : ByteArray) (base every : Int) (w : World) (hs0 : s.size ≤ 1000000000) (h1 : -9223372036854775808 ≤ base) (h2 : base ≤ 9223372036854775807) (h3 : 1 ≤ every) (h4 : every ≤ 9223372036854775807) :
    Calls Try.prog 13 #[.string s, .int .i64 base, .int .i64 every] w (IdxOut w (Gp.ix (Gp.full s.data.toList base).1 base every (Gp.full s.data.toList base).1.length)) := by
  refine (rindex9_any s base every w hs0 h1 h2 h3 h4).mono ?_
  rintro e w' ⟨v, rfl, ho, hb⟩
  refine ⟨v, rfl, ho.is ?_ ?_, hb⟩
  · obtain ⟨ps, k, er, hF, hg, _, _, _⟩ := Gp.full_good s.data.toList base
    rw [hF]
    have := Gp.ix_len ps base every ps.length
    have := hg.few
    have := hg.le
    have : s.data.toList.length = s.size := rfl
    unfold maxLen
    show (Gp.ix ps base every ps.length).length ≤ _
    omega
  · obtain ⟨ps, k, er, hF, hg, hin, _, _⟩ := Gp.full_good s.data.toList base
    rw [hF]
    show ∀ m ∈ Gp.ix ps base every ps.length, MkB m
    by_cases h0 : ps = []
    · subst h0
      intro m hm
      obtain ⟨i, hi, _⟩ := Gp.ix_mem hm
      simp at hi
    · have hi := Rp.inB_yes (hin h0)
      have := hg.le
      have : s.data.toList.length = s.size := rfl
      exact ix_ok hg hi.1 hi.2 (by omega) (Nat.le_refl _)

end Go.Proofs.Ytfodcgipdhppmaa
