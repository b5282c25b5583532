/-
  What the document's change and with answer.
-/
import Derived.Test.YtbkiecjbjehaoaaDiskRef2
import Derived.Deep.RegionLaw
import Derived.BigQuiet
namespace Go.Proofs.Ytbkiecjbjehaoaa.Dsk
open Go.RowKit Go.Proofs.Ytbkiecjbjehaoaa.Dp

/-- What the document's change answers: a disk of files that were there at the call. -/
def RcOut (w : World) (R : Dk × Int) (e : Ending) (w' : World) : Prop := ∃ a n c, e = .returned (.tuple #[dkVal (.slice a n c) R.1, .int .i64 R.2]) ∧ IsL FL w (.slice a n c) R.1.f ∧ DkB R.1 ∧ Below w.heap.size w w'

set_option maxRecDepth 100000 in
set_option maxHeartbeats 3200000 in
theorem rchange_any (fv lv : Value) (D : Dk) (l : List Fl) (own : Int) (w : World) (hv : IsL FL w fv D.f) (hw : IsL FL w lv l) (hD : DkB D) (h0 : 0 ≤ D.l) :
    Calls Try.prog 55 #[.agg #[fv, .int .i64 D.c, .bool D.a, .int .i64 D.l, .bool D.x], lv, .int .i64 own] w (RcOut w (change D l own)) := by
  obtain ⟨fa, fn, fc, rfl⟩ : ∃ a n c, fv = .slice a n c := by obtain ⟨a, c, h, _⟩ := hv; exact ⟨a, _, c, h⟩
  obtain ⟨ga, gn, gc, rfl⟩ : ∃ a n c, lv = .slice a n c := by obtain ⟨a, c, h, _⟩ := hw; exact ⟨a, _, c, h⟩
  have HV := Lib.hid hv
  have HW := Lib.hid hw
  obtain ⟨⟨hc1, hc2⟩, hl1, hl2⟩ := hD
  clear hv hw
  obtain ⟨f, c, a, d, x⟩ := D
  dsimp only at *
  have b2 := Lib.hid fun (A B : Array Value) => ((Below.refl w.heap.size w).alloc (Nat.le_refl _) (.cells A 24)).alloc (by simp) (.cells B 24)
  rcases change_cases ⟨f, c, a, d, x⟩ l own with ⟨e, h1⟩ | ⟨e, h1, h2⟩ | ⟨e, h1, h2, h3, h4⟩ | ⟨e, h1, h2, h3, h4⟩ | ⟨e, h1, h2, h3⟩
  all_goals
    dsimp only at *
    rw [e]
    clear e
  · subst h1
    go_enter Try.func55, Try.ntmps55
    go_wp2_with fail
    refine bodyPost_ret (v := .tuple #[.agg #[.slice fa fn fc, .int .i64 c, .bool a, .int .i64 d, .bool true], .int .i64 10]) (by simp [results, Try.results55, go_sem]) rfl ?_
    exact ⟨_, _, _, rfl, HV.out, ⟨⟨hc1, hc2⟩, hl1, hl2⟩, b2.out _ _⟩
  · subst h2
    have hx : (own != 0) = true := by simpa using h1
    go_enter Try.func55, Try.ntmps55
    go_wp2_with fail
    refine bodyPost_ret (v := .tuple #[.agg #[.slice fa fn fc, .int .i64 c, .bool a, .int .i64 d, .bool false], .int .i64 own]) (by simp [results, Try.results55, go_sem]) rfl ?_
    exact ⟨_, _, _, rfl, HV.out, ⟨⟨hc1, hc2⟩, hl1, hl2⟩, b2.out _ _⟩
  · subst h1 h2 h3 h4
    go_enter Try.func55, Try.ntmps55
    go_wp2_with fail
    refine bodyPost_ret (v := .tuple #[.agg #[.slice fa fn fc, .int .i64 c, .bool true, .int .i64 0, .bool true], .int .i64 10]) (by simp [results, Try.results55, go_sem]) rfl ?_
    exact ⟨_, _, _, rfl, HV.out, ⟨⟨hc1, hc2⟩, hl1, hl2⟩, b2.out _ _⟩
  · subst h1 h2 h3
    have hd0 : ¬ (d = 0) := h4
    have hd1 : (d == 0) = false := by simpa using h4
    go_enter Try.func55, Try.ntmps55
    go_wp2_with fail
    refine bodyPost_ret (v := .tuple #[.agg #[.slice ga gn gc, .int .i64 c, .bool true, .int .i64 (d - 1), .bool false], .int .i64 0]) (by simp [results, Try.results55, go_sem]) rfl ?_
    exact ⟨_, _, _, rfl, HW.out, ⟨⟨hc1, hc2⟩, by show _ ≤ d - 1; omega, by show d - 1 ≤ _; omega⟩, b2.out _ _⟩
  · subst h1 h2 h3
    go_enter Try.func55, Try.ntmps55
    go_wp2_with fail
    refine bodyPost_ret (v := .tuple #[.agg #[.slice ga gn gc, .int .i64 c, .bool false, .int .i64 d, .bool false], .int .i64 0]) (by simp [results, Try.results55, go_sem]) rfl ?_
    exact ⟨_, _, _, rfl, HW.out, ⟨⟨hc1, hc2⟩, hl1, hl2⟩, b2.out _ _⟩

theorem less_list : ∀ (a b : List UInt8), Op.bytesLess a b = decide (a < b)
  | [], [] => rfl
  | [], _ :: _ => by simp [Op.bytesLess]
  | _ :: _, [] => by simp [Op.bytesLess]
  | x :: a, y :: b => by
    have ih := less_list a b
    simp only [Op.bytesLess, ih, List.cons_lt_cons_iff]
    by_cases h1 : x < y
    · simp [h1]
    · by_cases h2 : x = y
      · simp [h2]
      · simp [h1, h2]
theorem less_eq (a b : ByteArray) : Op.bytesLess a.toList b.toList = decide (Lt a b) := by
  rw [Lib.toList_data, Lib.toList_data, less_list]
  rfl
theorem with_wo (l : List Fl) (f : Fl) : withF (without l f.n) f = withF l f := by
  unfold withF without
  rw [List.filter_filter, List.filter_filter]
  congr 1
  · congr 1
    refine List.filter_congr fun g _ => ?_
    by_cases h : Lt g.n f.n
    · simp [h, h.ne]
    · simp [h]
  · refine List.filter_congr fun g _ => ?_
    by_cases h : Lt f.n g.n
    · have h2 : ¬ g.n = f.n := fun e => h.ne e.symm
      simp [h, h2]
    · simp [h]

/-- A row of no elements in a new block. -/
theorem own_empty {W : World} {blk base : Nat} (h : W.heap[blk]? = some (.cells #[] 43 (0, 0))) (hb : base ≤ blk) : W.ownsRow base 43 3 (.slice (some ⟨blk, 0, none⟩) 0 0) 0 [] :=
  ⟨rfl, .inr ⟨blk, 0, #[], rfl, hb, h, Nat.le_refl _, Nat.zero_le _, rfl, rfl⟩⟩
theorem news_at {W : World} {blk : Nat} {cs : List Value} {T : TypeId} (h : W.heap[blk]? = some (.cells cs.toArray T (0, 0))) : ∀ (j : Nat) (u : Value), cs[j]? = some u → W.cell? ((⟨blk, 0, none⟩ : Addr).add j) = some u := by
  intro j u hj
  rw [addr_plain, row_cell h]
  simpa using hj
theorem bel_ad {w0 : World} (o : Obj) : Below w0.heap.size w0 (w0.alloc o).drew := ((Below.refl _ w0).alloc (Nat.le_refl _) o).drew
theorem bel_abd {w0 : World} (o o' : Obj) : Below w0.heap.size w0 ((w0.alloc o).alloc o').drew := (((Below.refl _ w0).alloc (Nat.le_refl _) o).alloc (by simp) o').drew
theorem hp_a {w0 : World} (o : Obj) : (w0.alloc o).drew.heap[w0.heap.size]? = some o := heap_alloc_new w0 o
theorem hp_ab1 {w0 : World} (o o' : Obj) : ((w0.alloc o).alloc o').drew.heap[w0.heap.size]? = some o := halloc (o := o') (heap_alloc_new w0 o)
theorem hp_ab2 {w0 : World} (o o' : Obj) : ((w0.alloc o).alloc o').drew.heap[w0.heap.size + 1]? = some o' := by
  have := heap_alloc_new (w0.alloc o) o'
  rwa [show (w0.alloc o).heap.size = w0.heap.size + 1 from by simp] at this
theorem bel_da {w0 : World} (o : Obj) : Below w0.heap.size w0 (w0.drew.alloc o) := (Below.refl _ w0).drew.alloc (Nat.le_refl _) o
theorem bel_dab {w0 : World} (o o' : Obj) : Below w0.heap.size w0 ((w0.drew.alloc o).alloc o') := (bel_da o).alloc (by simp) o'

set_option maxRecDepth 100000 in
set_option maxHeartbeats 3200000 in
theorem rwith_any (fv : Value) (l : List Fl) (f : Fl) (w : World) (hv : IsL FL w fv l) (hu : Up l) (hl : l.length ≤ 1000000) :
    Calls Try.prog 56 #[fv, .agg #[.string f.n, .string f.d, .int .i64 f.s]] w (OutL FL w w.heap.size (withF l f)) := by
  obtain ⟨i0, hi0, hz0, hz1, hz2⟩ := info_parts info_fl
  obtain ⟨fa, fn, fc, rfl⟩ : ∃ a n c, fv = .slice a n c := by obtain ⟨a, c, h, _⟩ := hv; exact ⟨a, _, c, h⟩
  have W := Lib.hid fun (W : World) (h : IsL FL W (.slice fa fn fc) l) => rwithout_any _ l f.n W h (by omega)
  have hwl : (without l f.n).length ≤ l.length := List.length_filter_le _ _
  have HLB := Lib.hid (show ∀ x ∈ without l f.n, FlB x from fun x hx => hv.ok x (mem_without.1 hx).1)
  have HNE := Lib.hid (show ∀ k, k < (without l f.n).length → ((without l f.n).getD k zero).n ≠ f.n from fun k hk => by
    rw [getD_fl hk]; exact (mem_without.1 (List.getElem_mem hk)).2)
  have HUP := Lib.hid (hu.without f.n)
  have HW := Lib.hid (with_wo l f)
  have HV := Lib.hid hv
  generalize without l f.n = L at *
  generalize withF l f = R at *
  have hLl : L.length ≤ 1000000 := by omega
  clear hv hu hl hwl
  have G0 := Lib.hid (heap_alloc_new w (.cells #[.string f.n, .string f.d, .int .i64 f.s] 43))
  go_enter Try.func56, Try.ntmps56
  go_wp2_with fail
  refine (W.out _ (HV.out.keep ((Below.refl _ _).alloc (Nat.le_refl _) _))).mono ?_
  rintro e w1 ⟨v1, rfl, ho1, b1⟩
  obtain ⟨ga, gn, gc, rfl⟩ := own_slice ho1
  have hI := ho1.is (by unfold maxLen; omega) HLB.out
  obtain rfl : gn = L.length := hI.len.1
  have HGA := Lib.hid (show (ga = none ∧ L.length = 0 ∧ gc = 0) ∨ ∃ g, ga = some ⟨g, 0, none⟩ ∧ L.length ≤ gc ∧ gc ≤ maxLen from by
    rcases ho1.2 with ⟨h1, h2⟩ | ⟨g, cap, cur, h1, _, _, h2, h3, _⟩
    · injection h1 with h1 _ h3
      exact .inl ⟨h1, h2, h3⟩
    · injection h1 with h1 _ h4
      exact .inr ⟨g, h1, by omega, by omega⟩)
  have HI := Lib.hid hI
  have B1 := Lib.hid (bel_of_alloc b1)
  have G1 := Lib.hid (hkeep G0.out b1)
  obtain ⟨x0, x1, x2⟩ := cells3 G1.out
  clear ho1 b1 hI
  obtain ⟨len, hlen⟩ : ∃ len, L.length = len := ⟨_, rfl⟩
  rw [hlen] at HI HNE hLl HGA ⊢
  have HL := Lib.hid hlen
  clear hlen
  go_wp2_with fail
  go_loopw [5] (fun i wr => ∃ k m : Nat, k ≤ len ∧ i = .int .i64 k ∧ (∀ j, j < k → Lt (L.getD j zero).n f.n) ∧ wr = w1.drewN m) (fun i _ => len - (intOf i).toNat)
  case atStart => exact ⟨0, 0, Nat.zero_le _, rfl, fun j hj => absurd hj (Nat.not_lt_zero _), rfl⟩
  case round =>
    obtain ⟨k, m, hk, rfl, hless, rfl⟩ := hrel
    by_cases hgo : k < len ∧ Lt (L.getD k zero).n f.n
    · obtain ⟨hlt, hlo⟩ := hgo
      obtain ⟨b, off, rfl, c0, _, _⟩ := isL_at HI.out hlt
      have hb := (less_eq (L.getD k zero).n f.n).trans (decide_eq_true hlo)
      have HLS := Lib.hid (show ∀ j, j < k + 1 → Lt (L.getD j zero).n f.n from fun j hj => by
        by_cases h : j = k
        · rw [h]; exact hlo
        · exact hless j (by omega))
      clear hless hlo
      generalize (L.getD k zero).n = nm at c0 hb
      go_wp2_with fail
      go_quiet (fail)
      go_wp2_with fail
      go_roundw
      case rel => exact ⟨k + 1, _, by omega, by go_num, HLS.out, rfl⟩
      case measure => simp [intOf]; omega
    · have HF : Hid (FoundF L f.n k false) := by
        refine ⟨by rw [HL.out]; exact hk, fun j hj hjk => ?_, fun j hj hkj => ?_, fun h => (by cases h), fun _ hi he => HNE.out k (by rw [← HL.out]; exact hi) (by rw [getD_fl hi]; exact he)⟩
        · have := hless j hjk
          rwa [getD_fl hj] at this
        · intro hlt2
          refine hgo ⟨by rw [← HL.out]; omega, ?_⟩
          rw [getD_fl (by omega)]
          rcases Nat.lt_or_ge k j with h | h
          · exact (HUP.out.at hj h).trans hlt2
          · obtain rfl : j = k := by omega
            exact hlt2
      have HR : Hid (R = L.take k ++ [f] ++ L.drop k) := by rw [← HW.out]; exact HF.out.with_miss HUP.out rfl
      have hex : (∃ b off nm, k < len ∧ ga = some ⟨b, off, none⟩ ∧ w1.cell? ⟨b, off + k * 3, none⟩ = some (.string nm) ∧ Op.bytesLess nm.toList f.n.toList = false) ∨ ¬ k < len := by
        by_cases hlt : k < len
        · obtain ⟨b, off, h1, c0, _, _⟩ := isL_at HI.out hlt
          exact .inl ⟨b, off, _, hlt, h1, c0, (less_eq _ _).trans (decide_eq_false fun h => hgo ⟨hlt, h⟩)⟩
        · exact .inr hlt
      clear hgo hless
      have hex2 : (ga = none ∧ len = 0 ∧ gc = 0 ∧ k = 0) ∨ ∃ g, ga = some ⟨g, 0, none⟩ ∧ len ≤ gc ∧ gc ≤ maxLen ∧ ((∃ nm, k < len ∧ w1.cell? ⟨g, k * 3, none⟩ = some (.string nm) ∧ Op.bytesLess nm.toList f.n.toList = false) ∨ ¬ k < len) := by
        rcases HGA.out with ⟨h1, h2, h3⟩ | ⟨g, h1, h2, h3⟩
        · exact .inl ⟨h1, h2, h3, by omega⟩
        · refine .inr ⟨g, h1, h2, h3, ?_⟩
          rcases hex with ⟨b, off, nm, hlt, h4, c0, hb⟩ | hlt
          · rw [h4] at h1
            injection h1 with h1
            injection h1 with h1 h5
            subst h1 h5
            exact .inl ⟨nm, hlt, by simpa using c0, hb⟩
          · exact .inr hlt
      clear hex HGA
      have HFN : Hid (∀ w0 : World, Below w.heap.size w w0 → ∀ v W, W.ownsRow w0.heap.size 43 3 v (k + 1 + (len - k)) (FL.vals (L.take k) ++ flCells f ++ FL.vals (L.drop k)) → Below w0.heap.size w0 W → OutL FL w w.heap.size R (.returned v) W) := by
        intro w0 hb0 v W ho hb
        have hlen : (L.take k ++ [f] ++ L.drop k).length = k + 1 + (len - k) := by simp; have := HL.out; omega
        refine OutL.mk (own_base (B := w0.heap.size) ?_ hb0.size) (hb0.trans (hb.mono hb0.size))
        rw [HR.out]
        unfold OwnL
        rw [hlen, FL.vals_append, FL.vals_append, FL.vals_one]
        exact ho
      clear HR HF
      rcases hex2 with ⟨rfl, rfl, rfl, rfl⟩ | ⟨g, rfl, hgc, hgm, hcond⟩
      · have HFN0 : Hid (∀ w0 : World, Below w.heap.size w w0 → ∀ v W, W.ownsRow w0.heap.size 43 3 v (0 + 1) ([] ++ flCells f) → Below w0.heap.size w0 W → OutL FL w w.heap.size R (.returned v) W) := by
          intro w0 hb0 v W ho hb
          have hL : L = [] := List.length_eq_zero_iff.1 HL.out
          have := HFN.out w0 hb0 v W
          rw [hL] at this
          exact this (by simpa [Lay.vals] using ho) hb
        clear HFN
        go_wp2_with fail
        go_quiet (fail)
        go_wp2_with fail
        have bq := bel_trans2 (bel_drewN (w := w1) m) (bel_drewN nq)
        have BW := Lib.hid (B1.out.trans (bq.mono B1.out.size))
        obtain ⟨y0, y1, y2⟩ := cells3 (hkeep G1.out bq)
        have xlt := block_lt_of_cell y0
        clear x0 x1 x2 bq
        generalize World.drewN _ nq = w0 at BW y0 y1 y2 xlt ⊢
        have mixed : Try.prog.follows Departure.mixedOrders = true := by kernel_rfl
        have HC3 := Lib.hid (show ∀ u ∈ flCells f, u.oneCell' = true from FL.one f)
        go_region_law_o (first | (refine step_append_ownL rfl (.tmp 30) (.tmp 32) 22 rfl w0.heap.size 43 i0 (.agg #[.string ByteArray.empty, .string ByteArray.empty, .int .i64 0]) 3 40 Try.underlying22 hi0 hz0 hz1 hz2 rfl (by decide) _ 0 [] (by simp [Act.eval]; rfl) (by first | exact own_empty (hp_ab2 _ _) (Nat.le_succ _) | exact own_empty (hp_ab1 _ _) (Nat.le_refl _)) _ 1 1 (flCells f) (by simp [Act.eval]; rfl) rfl (by first | exact news_at (hp_ab1 _ _) | exact news_at (hp_ab2 _ _)) HC3.out (by unfold maxLen; omega) (by omega) (bel_abd _ _).size ?_; intro v2 w4 hown2 hg2; have B4 : Below w0.heap.size w0 w4 := (by first | exact (bel_abd _ _).grown hg2 (bel_abd _ _).size (fun q hq => Nat.le_of_eq (Option.some.inj hq)) | exact (bel_abd _ _).grown hg2 (bel_abd _ _).size (fun q hq => Nat.le_trans (Nat.le_succ _) (Nat.le_of_eq (Option.some.inj hq)))); have HR4 := Lib.hid (HFN0.out w0 BW.out _ _ hown2 B4); obtain ⟨g', cap', cur', rfl, hb', hg', hc', hm', hs', ht'⟩ := hown2.2.resolve_left (fun h => absurd h.2 (by decide))))
        all_goals
          go_wp2_with fail
          go_ret
          exact HR4.out
      · have HS1 : Hid (∀ w0 : World, IsL FL w0 (.slice (some ⟨g, 0, none⟩) len gc) L → ∀ W, Below w0.heap.size w0 W → ∀ j u, (FL.vals (L.take k))[j]? = some u → W.cell? ((⟨g, 0, none⟩ : Addr).add j) = some u) := fun w0 h W b => ((h.keep b).take (k := k) (by omega)).news
        obtain ⟨A, hA, HS2⟩ : ∃ A : Addr, (if gc = k then some (⟨g, 0, none⟩ : Addr) else some ⟨g, k * 3, none⟩) = some A ∧ Hid (∀ w0 : World, IsL FL w0 (.slice (some ⟨g, 0, none⟩) len gc) L → ∀ W, Below w0.heap.size w0 W → ∀ j u, (FL.vals (L.drop k))[j]? = some u → W.cell? (A.add j) = some u) := by
          by_cases h : gc = k
          · refine ⟨⟨g, 0, none⟩, by rw [if_pos h], fun w0 _ W _ j u hj => ?_⟩
            rw [List.drop_eq_nil_of_le (by have := HL.out; omega)] at hj
            simp [Lay.vals] at hj
          · refine ⟨⟨g, k * 3, none⟩, by rw [if_neg h], fun w0 hi W b j u hj => ?_⟩
            have := ((hi.keep b).drop (k := k) (a := some ⟨g, 0 + k * 3, none⟩) (by omega) 0 (.inl rfl)).news j u hj
            simpa using this
        have HL1 := Lib.hid (show (FL.vals (L.take k)).length = k * 3 by rw [vals_len, List.length_take]; have := HL.out; omega)
        have HL2 := Lib.hid (show (FL.vals (L.drop k)).length = (len - k) * 3 by rw [vals_len, List.length_drop]; have := HL.out; omega)
        have HC1 := Lib.hid (show ∀ u ∈ FL.vals (L.take k), u.oneCell' = true from FL.vals_cells _)
        have HC2 := Lib.hid (show ∀ u ∈ FL.vals (L.drop k), u.oneCell' = true from FL.vals_cells _)
        have HC3 := Lib.hid (show ∀ u ∈ flCells f, u.oneCell' = true from FL.one f)
        have mixed : Try.prog.follows Departure.mixedOrders = true := by kernel_rfl
        have hkc : k ≤ gc := by omega
        unfold maxLen at hgm
        rcases hcond with ⟨nm, hlt, c0, hb⟩ | hlt
        all_goals
          go_wp2_with fail
          go_quiet (fail)
          go_wp2_with fail
          have bq := bel_trans2 (bel_drewN (w := w1) m) (bel_drewN nq)
          have BW := Lib.hid (B1.out.trans (bq.mono B1.out.size))
          have HI0 := Lib.hid (HI.out.keep bq)
          have HG0 := Lib.hid (hkeep G1.out bq)
          obtain ⟨y0, y1, y2⟩ := cells3 HG0.out
          have xlt := block_lt_of_cell y0
          clear x0 x1 x2 bq
          generalize World.drewN _ nq = w0 at BW HI0 HG0 y0 y1 y2 xlt ⊢
          generalize FL.vals (L.take k) = xs1 at *
          generalize FL.vals (L.drop k) = xs2 at *
          go_region_law_o (first | (refine step_append_ownL rfl (.tmp 26) (.tmp 29) 22 rfl w0.heap.size 43 i0 (.agg #[.string ByteArray.empty, .string ByteArray.empty, .int .i64 0]) 3 40 Try.underlying22 hi0 hz0 hz1 hz2 rfl (by decide) _ 0 [] (by simp [Act.eval]; rfl) (by first | exact own_empty (hp_a _) (Nat.le_refl _) | exact own_empty (hp_ab2 _ _) (Nat.le_succ _) | exact own_empty (hp_ab1 _ _) (Nat.le_refl _)) ⟨g, 0, none⟩ k gc xs1 (by simp [Act.eval]) HL1.out (HS1.out w0 HI0.out _ (by first | exact bel_ad _ | exact bel_abd _ _)) HC1.out (by unfold maxLen; omega) (by omega) (by first | exact (bel_ad _).size | exact (bel_abd _ _).size) ?_; intro v1 w3 hown1 hg1; have B3 : Below w0.heap.size w0 w3 := (by first | exact (bel_ad _).grown hg1 (bel_ad _).size (fun q hq => Nat.le_of_eq (Option.some.inj hq)) | exact (bel_abd _ _).grown hg1 (bel_abd _ _).size (fun q hq => Nat.le_of_eq (Option.some.inj hq)) | exact (bel_abd _ _).grown hg1 (bel_abd _ _).size (fun q hq => Nat.le_trans (Nat.le_succ _) (Nat.le_of_eq (Option.some.inj hq)))); obtain ⟨z0, z1, z2⟩ := cells3 (hkeep HG0.out B3); have xlt3 := Nat.lt_of_lt_of_le xlt B3.size) | (refine step_append_ownL rfl (.tmp 30) (.tmp 32) 22 rfl w0.heap.size 43 i0 (.agg #[.string ByteArray.empty, .string ByteArray.empty, .int .i64 0]) 3 40 Try.underlying22 hi0 hz0 hz1 hz2 rfl (by decide) v1 (0 + k) ([] ++ xs1) (by simp [Act.eval]) (by first | exact hown1 | exact World.ownsRow.alloc hown1 _) _ 1 1 (flCells f) (by simp [Act.eval]; rfl) rfl (by first | exact news_new w3 _ (flCells f) _ rfl | exact news_at ((hg1.block _ (by first | (simp; done) | (simp; omega)) (fun e => Nat.succ_ne_self _ (Option.some.inj e).symm)).trans (hp_ab1 _ _)) | exact news_at ((hg1.block _ (by first | (simp; done) | (simp; omega)) (fun e => Nat.succ_ne_self _ (Option.some.inj e))).trans (hp_ab2 _ _))) HC3.out (by unfold maxLen; omega) (by omega) (by first | exact B3.size | exact Nat.le_trans B3.size (by simp)) ?_; intro v2 w4 hown2 hg2; have B4 : Below w0.heap.size w0 w4 := (by first | exact B3.grown hg2 B3.size (fun q hq => (World.ownsRow.lt hown1 q hq).1) | exact (B3.alloc B3.size _).grown hg2 (Nat.le_trans B3.size (by simp)) (fun q hq => (World.ownsRow.lt hown1 q hq).1))) | (refine step_append_ownL rfl (.tmp 33) (.tmp 36) 22 rfl w0.heap.size 43 i0 (.agg #[.string ByteArray.empty, .string ByteArray.empty, .int .i64 0]) 3 40 Try.underlying22 hi0 hz0 hz1 hz2 rfl (by decide) v2 (0 + k + 1) ([] ++ xs1 ++ flCells f) (by simp [Act.eval]) hown2 A (len - k) (gc - k) xs2 (by simp [Act.eval]) HL2.out (HS2.out w0 HI0.out _ B4) HC2.out (by unfold maxLen; omega) (by omega) B4.size ?_; intro v5 w5 hown5 hg5; have B5 : Below w0.heap.size w0 w5 := B4.grown hg5 B4.size (fun q hq => (World.ownsRow.lt hown2 q hq).1)))
          all_goals
            go_wp2_with fail
            go_ret
            exact HFN.out w0 BW.out _ _ (by simpa using hown5) B5

end Go.Proofs.Ytbkiecjbjehaoaa.Dsk
