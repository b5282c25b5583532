/-
  Parts of what the laws of this seat stand on: DiskRef3, DiskRef4, RetPlain, RetVal, NamePlain, NameLaid.
-/
import Derived.BigQuiet
import Derived.Deep.DeepCutAuto
import Derived.Deep.RegionLaw
import Derived.Deep.RegionWith
import Derived.IntWalk
import Derived.Laws.IdiomStrings
import Derived.Lib.Strings
import Derived.Test.YthhhocgpoenigaaGreatBu1
import Derived.Test.YthhhocgpoenigaaGreatBu5
namespace Go.Proofs.YthhhocgpoenigaaGreat.Dsk
open Go.RowKit Go.Proofs.YthhhocgpoenigaaGreat.Dp

theorem less_list : ∀ (a b : List UInt8), Op.bytesLess a b = decide (a < b)
  | [], [] => rfl
  | [], _ :: _ => by simp [Op.bytesLess]
  | _ :: _, [] => by simp [Op.bytesLess]
  | x :: a, y :: b => by
    have ih := less_list a b
    simp only [Op.bytesLess, ih, List.cons_lt_cons_iff]
    by_cases h1 : x < y
    · simp [h1]
    · by_cases h2 : x = y
      · simp [h2]
      · simp [h1, h2]
theorem less_eq (a b : ByteArray) : Op.bytesLess a.toList b.toList = decide (Lt a b) := by
  rw [Lib.toList_data, Lib.toList_data, less_list]
  rfl
theorem with_wo (l : List Fl) (f : Fl) : withF (without l f.n) f = withF l f := by
  unfold withF without
  rw [List.filter_filter, List.filter_filter]
  congr 1
  · congr 1
    refine List.filter_congr fun g _ => ?_
    by_cases h : Lt g.n f.n
    · simp [h, h.ne]
    · simp [h]
  · refine List.filter_congr fun g _ => ?_
    by_cases h : Lt f.n g.n
    · have h2 : ¬ g.n = f.n := fun e => h.ne e.symm
      simp [h, h2]
    · simp [h]

/-- A row of no elements in a new block. -/
theorem own_empty {W : World} {blk base : Nat} (h : W.heap[blk]? = some (.cells #[] 81 (0, 0))) (hb : base ≤ blk) : W.ownsRow base 81 3 (.slice (some ⟨blk, 0, none⟩) 0 0) 0 [] :=
  ⟨rfl, .inr ⟨blk, 0, #[], rfl, hb, h, Nat.le_refl _, Nat.zero_le _, rfl, rfl⟩⟩
theorem news_at {W : World} {blk : Nat} {cs : List Value} {T : TypeId} (h : W.heap[blk]? = some (.cells cs.toArray T (0, 0))) : ∀ (j : Nat) (u : Value), cs[j]? = some u → W.cell? ((⟨blk, 0, none⟩ : Addr).add j) = some u := by
  intro j u hj
  rw [addr_plain, row_cell h]
  simpa using hj
theorem bel_ad {w0 : World} (o : Obj) : Below w0.heap.size w0 (w0.alloc o).drew := ((Below.refl _ w0).alloc (Nat.le_refl _) o).drew
theorem bel_abd {w0 : World} (o o' : Obj) : Below w0.heap.size w0 ((w0.alloc o).alloc o').drew := (((Below.refl _ w0).alloc (Nat.le_refl _) o).alloc (by simp) o').drew
theorem hp_a {w0 : World} (o : Obj) : (w0.alloc o).drew.heap[w0.heap.size]? = some o := heap_alloc_new w0 o
theorem hp_ab1 {w0 : World} (o o' : Obj) : ((w0.alloc o).alloc o').drew.heap[w0.heap.size]? = some o := halloc (o := o') (heap_alloc_new w0 o)
theorem hp_ab2 {w0 : World} (o o' : Obj) : ((w0.alloc o).alloc o').drew.heap[w0.heap.size + 1]? = some o' := by
  have := heap_alloc_new (w0.alloc o) o'
  rwa [show (w0.alloc o).heap.size = w0.heap.size + 1 from by simp] at this

set_option maxRecDepth 100000 in
set_option maxHeartbeats 3200000 in
theorem rwith_any (fv : Value) (l : List Fl) (f : Fl) (w : World) (hv : IsL FL w fv l) (hu : Up l) (hl : l.length ≤ 1000000) :
    Calls Tryz.prog 76 #[fv, .agg #[.string f.n, .string f.d, .int .i64 f.s]] w (OutL FL w w.heap.size (withF l f)) := by
  obtain ⟨i0, hi0, hz0, hz1, hz2⟩ := info_parts info_fl
  obtain ⟨fa, fn, fc, rfl⟩ : ∃ a n c, fv = .slice a n c := by obtain ⟨a, c, h, _⟩ := hv; exact ⟨a, _, c, h⟩
  have W := Lib.hid fun (W : World) (h : IsL FL W (.slice fa fn fc) l) => rwithout_any _ l f.n W h (by omega)
  have hwl : (without l f.n).length ≤ l.length := List.length_filter_le _ _
  have HLB := Lib.hid (show ∀ x ∈ without l f.n, FlB x from fun x hx => hv.ok x (mem_without.1 hx).1)
  have HNE := Lib.hid (show ∀ k, k < (without l f.n).length → ((without l f.n).getD k zero).n ≠ f.n from fun k hk => by
    rw [getD_fl hk]; exact (mem_without.1 (List.getElem_mem hk)).2)
  have HUP := Lib.hid (hu.without f.n)
  have HW := Lib.hid (with_wo l f)
  have HV := Lib.hid hv
  generalize without l f.n = L at *
  generalize withF l f = R at *
  have hLl : L.length ≤ 1000000 := by omega
  clear hv hu hl hwl
  have G0 := Lib.hid (heap_alloc_new w (.cells #[.string f.n, .string f.d, .int .i64 f.s] 81))
  go_enter Tryz.func76, Tryz.ntmps76
  go_wp2_with fail
  refine (W.out _ (HV.out.keep ((Below.refl _ _).alloc (Nat.le_refl _) _))).mono ?_
  rintro e w1 ⟨v1, rfl, ho1, b1⟩
  obtain ⟨ga, gn, gc, rfl⟩ := own_slice ho1
  have hI := ho1.is (by unfold maxLen; omega) HLB.out
  obtain rfl : gn = L.length := hI.len.1
  have HGA := Lib.hid (show (ga = none ∧ L.length = 0 ∧ gc = 0) ∨ ∃ g, ga = some ⟨g, 0, none⟩ ∧ L.length ≤ gc ∧ gc ≤ maxLen from by
    rcases ho1.2 with ⟨h1, h2⟩ | ⟨g, cap, cur, h1, _, _, h2, h3, _⟩
    · injection h1 with h1 _ h3
      exact .inl ⟨h1, h2, h3⟩
    · injection h1 with h1 _ h4
      exact .inr ⟨g, h1, by omega, by omega⟩)
  have HI := Lib.hid hI
  have B1 := Lib.hid (bel_of_alloc b1)
  have G1 := Lib.hid (hkeep G0.out b1)
  obtain ⟨x0, x1, x2⟩ := cells3 G1.out
  clear ho1 b1 hI
  obtain ⟨len, hlen⟩ : ∃ len, L.length = len := ⟨_, rfl⟩
  rw [hlen] at HI HNE hLl HGA ⊢
  have HL := Lib.hid hlen
  clear hlen
  go_wp2_with fail
  go_loopw [5] (fun i wr => ∃ k m : Nat, k ≤ len ∧ i = .int .i64 k ∧ (∀ j, j < k → Lt (L.getD j zero).n f.n) ∧ wr = w1.drewN m) (fun i _ => len - (intOf i).toNat)
  case atStart => exact ⟨0, 0, Nat.zero_le _, rfl, fun j hj => absurd hj (Nat.not_lt_zero _), rfl⟩
  case round =>
    obtain ⟨k, m, hk, rfl, hless, rfl⟩ := hrel
    by_cases hgo : k < len ∧ Lt (L.getD k zero).n f.n
    · obtain ⟨hlt, hlo⟩ := hgo
      obtain ⟨b, off, rfl, c0, _, _⟩ := isL_at HI.out hlt
      have hb := (less_eq (L.getD k zero).n f.n).trans (decide_eq_true hlo)
      have HLS := Lib.hid (show ∀ j, j < k + 1 → Lt (L.getD j zero).n f.n from fun j hj => by
        by_cases h : j = k
        · rw [h]; exact hlo
        · exact hless j (by omega))
      clear hless hlo
      generalize (L.getD k zero).n = nm at c0 hb
      go_wp2_with fail
      go_quiet (fail)
      go_wp2_with fail
      go_roundw
      case rel => exact ⟨k + 1, _, by omega, by go_num, HLS.out, rfl⟩
      case measure => simp [intOf]; omega
    · have HF : Hid (FoundF L f.n k false) := by
        refine ⟨by rw [HL.out]; exact hk, fun j hj hjk => ?_, fun j hj hkj => ?_, fun h => (by cases h), fun _ hi he => HNE.out k (by rw [← HL.out]; exact hi) (by rw [getD_fl hi]; exact he)⟩
        · have := hless j hjk
          rwa [getD_fl hj] at this
        · intro hlt2
          refine hgo ⟨by rw [← HL.out]; omega, ?_⟩
          rw [getD_fl (by omega)]
          rcases Nat.lt_or_ge k j with h | h
          · exact (HUP.out.at hj h).trans hlt2
          · obtain rfl : j = k := by omega
            exact hlt2
      have HR : Hid (R = L.take k ++ [f] ++ L.drop k) := by rw [← HW.out]; exact HF.out.with_miss HUP.out rfl
      have hex : (∃ b off nm, k < len ∧ ga = some ⟨b, off, none⟩ ∧ w1.cell? ⟨b, off + k * 3, none⟩ = some (.string nm) ∧ Op.bytesLess nm.toList f.n.toList = false) ∨ ¬ k < len := by
        by_cases hlt : k < len
        · obtain ⟨b, off, h1, c0, _, _⟩ := isL_at HI.out hlt
          exact .inl ⟨b, off, _, hlt, h1, c0, (less_eq _ _).trans (decide_eq_false fun h => hgo ⟨hlt, h⟩)⟩
        · exact .inr hlt
      clear hgo hless
      have hex2 : (ga = none ∧ len = 0 ∧ gc = 0 ∧ k = 0) ∨ ∃ g, ga = some ⟨g, 0, none⟩ ∧ len ≤ gc ∧ gc ≤ maxLen ∧ ((∃ nm, k < len ∧ w1.cell? ⟨g, k * 3, none⟩ = some (.string nm) ∧ Op.bytesLess nm.toList f.n.toList = false) ∨ ¬ k < len) := by
        rcases HGA.out with ⟨h1, h2, h3⟩ | ⟨g, h1, h2, h3⟩
        · exact .inl ⟨h1, h2, h3, by omega⟩
        · refine .inr ⟨g, h1, h2, h3, ?_⟩
          rcases hex with ⟨b, off, nm, hlt, h4, c0, hb⟩ | hlt
          · rw [h4] at h1
            injection h1 with h1
            injection h1 with h1 h5
            subst h1 h5
            exact .inl ⟨nm, hlt, by simpa using c0, hb⟩
          · exact .inr hlt
      clear hex HGA
      have HFN : Hid (∀ w0 : World, Below w.heap.size w w0 → ∀ v W, W.ownsRow w0.heap.size 81 3 v (k + 1 + (len - k)) (FL.vals (L.take k) ++ flCells f ++ FL.vals (L.drop k)) → Below w0.heap.size w0 W → OutL FL w w.heap.size R (.returned v) W) := by
        intro w0 hb0 v W ho hb
        have hlen : (L.take k ++ [f] ++ L.drop k).length = k + 1 + (len - k) := by simp; have := HL.out; omega
        refine OutL.mk (own_base (B := w0.heap.size) ?_ hb0.size) (hb0.trans (hb.mono hb0.size))
        rw [HR.out]
        unfold OwnL
        rw [hlen, FL.vals_append, FL.vals_append, FL.vals_one]
        exact ho
      clear HR HF
      rcases hex2 with ⟨rfl, rfl, rfl, rfl⟩ | ⟨g, rfl, hgc, hgm, hcond⟩
      · have HFN0 : Hid (∀ w0 : World, Below w.heap.size w w0 → ∀ v W, W.ownsRow w0.heap.size 81 3 v (0 + 1) ([] ++ flCells f) → Below w0.heap.size w0 W → OutL FL w w.heap.size R (.returned v) W) := by
          intro w0 hb0 v W ho hb
          have hL : L = [] := List.length_eq_zero_iff.1 HL.out
          have := HFN.out w0 hb0 v W
          rw [hL] at this
          exact this (by simpa [Lay.vals] using ho) hb
        clear HFN
        go_wp2_with fail
        go_quiet (fail)
        go_wp2_with fail
        have bq := bel_trans2 (bel_drewN (w := w1) m) (bel_drewN nq)
        have BW := Lib.hid (B1.out.trans (bq.mono B1.out.size))
        obtain ⟨y0, y1, y2⟩ := cells3 (hkeep G1.out bq)
        have xlt := block_lt_of_cell y0
        clear x0 x1 x2 bq
        generalize World.drewN _ nq = w0 at BW y0 y1 y2 xlt ⊢
        have mixed : Tryz.prog.follows Departure.mixedOrders = true := by kernel_rfl
        have HC3 := Lib.hid (show ∀ u ∈ flCells f, u.oneCell' = true from FL.one f)
        go_region_law_o (first | (refine step_append_ownL rfl (.tmp 30) (.tmp 32) 25 rfl w0.heap.size 81 i0 (.agg #[.string ByteArray.empty, .string ByteArray.empty, .int .i64 0]) 3 40 Tryz.underlying25 hi0 hz0 hz1 hz2 rfl (by decide) _ 0 [] (by simp [Act.eval]; rfl) (by first | exact own_empty (hp_ab2 _ _) (Nat.le_succ _) | exact own_empty (hp_ab1 _ _) (Nat.le_refl _)) _ 1 1 (flCells f) (by simp [Act.eval]; rfl) rfl (by first | exact news_at (hp_ab1 _ _) | exact news_at (hp_ab2 _ _)) HC3.out (by unfold maxLen; omega) (by omega) (bel_abd _ _).size ?_; intro v2 w4 hown2 hg2; have B4 : Below w0.heap.size w0 w4 := (by first | exact (bel_abd _ _).grown hg2 (bel_abd _ _).size (fun q hq => Nat.le_of_eq (Option.some.inj hq)) | exact (bel_abd _ _).grown hg2 (bel_abd _ _).size (fun q hq => Nat.le_trans (Nat.le_succ _) (Nat.le_of_eq (Option.some.inj hq)))); have HR4 := Lib.hid (HFN0.out w0 BW.out _ _ hown2 B4); obtain ⟨g', cap', cur', rfl, hb', hg', hc', hm', hs', ht'⟩ := hown2.2.resolve_left (fun h => absurd h.2 (by decide))))
        all_goals
          go_wp2_with fail
          go_ret
          exact HR4.out
      · have HS1 : Hid (∀ w0 : World, IsL FL w0 (.slice (some ⟨g, 0, none⟩) len gc) L → ∀ W, Below w0.heap.size w0 W → ∀ j u, (FL.vals (L.take k))[j]? = some u → W.cell? ((⟨g, 0, none⟩ : Addr).add j) = some u) := fun w0 h W b => ((h.keep b).take (k := k) (by omega)).news
        obtain ⟨A, hA, HS2⟩ : ∃ A : Addr, (if gc = k then some (⟨g, 0, none⟩ : Addr) else some ⟨g, k * 3, none⟩) = some A ∧ Hid (∀ w0 : World, IsL FL w0 (.slice (some ⟨g, 0, none⟩) len gc) L → ∀ W, Below w0.heap.size w0 W → ∀ j u, (FL.vals (L.drop k))[j]? = some u → W.cell? (A.add j) = some u) := by
          by_cases h : gc = k
          · refine ⟨⟨g, 0, none⟩, by rw [if_pos h], fun w0 _ W _ j u hj => ?_⟩
            rw [List.drop_eq_nil_of_le (by have := HL.out; omega)] at hj
            simp [Lay.vals] at hj
          · refine ⟨⟨g, k * 3, none⟩, by rw [if_neg h], fun w0 hi W b j u hj => ?_⟩
            have := ((hi.keep b).drop (k := k) (a := some ⟨g, 0 + k * 3, none⟩) (by omega) (len - k) (Nat.le_refl _) (.inl rfl)).news j u hj
            simpa using this
        have HL1 := Lib.hid (show (FL.vals (L.take k)).length = k * 3 by rw [vals_len, List.length_take]; have := HL.out; omega)
        have HL2 := Lib.hid (show (FL.vals (L.drop k)).length = (len - k) * 3 by rw [vals_len, List.length_drop]; have := HL.out; omega)
        have HC1 := Lib.hid (show ∀ u ∈ FL.vals (L.take k), u.oneCell' = true from FL.vals_cells _)
        have HC2 := Lib.hid (show ∀ u ∈ FL.vals (L.drop k), u.oneCell' = true from FL.vals_cells _)
        have HC3 := Lib.hid (show ∀ u ∈ flCells f, u.oneCell' = true from FL.one f)
        have mixed : Tryz.prog.follows Departure.mixedOrders = true := by kernel_rfl
        have hkc : k ≤ gc := by omega
        unfold maxLen at hgm
        rcases hcond with ⟨nm, hlt, c0, hb⟩ | hlt
        all_goals
          go_wp2_with fail
          go_quiet (fail)
          go_wp2_with fail
          have bq := bel_trans2 (bel_drewN (w := w1) m) (bel_drewN nq)
          have BW := Lib.hid (B1.out.trans (bq.mono B1.out.size))
          have HI0 := Lib.hid (HI.out.keep bq)
          have HG0 := Lib.hid (hkeep G1.out bq)
          obtain ⟨y0, y1, y2⟩ := cells3 HG0.out
          have xlt := block_lt_of_cell y0
          clear x0 x1 x2 bq
          generalize World.drewN _ nq = w0 at BW HI0 HG0 y0 y1 y2 xlt ⊢
          generalize FL.vals (L.take k) = xs1 at *
          generalize FL.vals (L.drop k) = xs2 at *
          go_region_law_o (first | (refine step_append_ownL rfl (.tmp 26) (.tmp 29) 25 rfl w0.heap.size 81 i0 (.agg #[.string ByteArray.empty, .string ByteArray.empty, .int .i64 0]) 3 40 Tryz.underlying25 hi0 hz0 hz1 hz2 rfl (by decide) _ 0 [] (by simp [Act.eval]; rfl) (by first | exact own_empty (hp_a _) (Nat.le_refl _) | exact own_empty (hp_ab2 _ _) (Nat.le_succ _) | exact own_empty (hp_ab1 _ _) (Nat.le_refl _)) ⟨g, 0, none⟩ k gc xs1 (by simp [Act.eval]) HL1.out (HS1.out w0 HI0.out _ (by first | exact bel_ad _ | exact bel_abd _ _)) HC1.out (by unfold maxLen; omega) (by omega) (by first | exact (bel_ad _).size | exact (bel_abd _ _).size) ?_; intro v1 w3 hown1 hg1; have B3 : Below w0.heap.size w0 w3 := (by first | exact (bel_ad _).grown hg1 (bel_ad _).size (fun q hq => Nat.le_of_eq (Option.some.inj hq)) | exact (bel_abd _ _).grown hg1 (bel_abd _ _).size (fun q hq => Nat.le_of_eq (Option.some.inj hq)) | exact (bel_abd _ _).grown hg1 (bel_abd _ _).size (fun q hq => Nat.le_trans (Nat.le_succ _) (Nat.le_of_eq (Option.some.inj hq)))); obtain ⟨z0, z1, z2⟩ := cells3 (hkeep HG0.out B3); have xlt3 := Nat.lt_of_lt_of_le xlt B3.size) | (refine step_append_ownL rfl (.tmp 30) (.tmp 32) 25 rfl w0.heap.size 81 i0 (.agg #[.string ByteArray.empty, .string ByteArray.empty, .int .i64 0]) 3 40 Tryz.underlying25 hi0 hz0 hz1 hz2 rfl (by decide) v1 (0 + k) ([] ++ xs1) (by simp [Act.eval]) (by first | exact hown1 | exact World.ownsRow.alloc hown1 _) _ 1 1 (flCells f) (by simp [Act.eval]; rfl) rfl (by first | exact news_new w3 _ (flCells f) _ rfl | exact news_at ((hg1.block _ (by first | (simp; done) | (simp; omega)) (fun e => Nat.succ_ne_self _ (Option.some.inj e).symm)).trans (hp_ab1 _ _)) | exact news_at ((hg1.block _ (by first | (simp; done) | (simp; omega)) (fun e => Nat.succ_ne_self _ (Option.some.inj e))).trans (hp_ab2 _ _))) HC3.out (by unfold maxLen; omega) (by omega) (by first | exact B3.size | exact Nat.le_trans B3.size (by simp)) ?_; intro v2 w4 hown2 hg2; have B4 : Below w0.heap.size w0 w4 := (by first | exact B3.grown hg2 B3.size (fun q hq => (World.ownsRow.lt hown1 q hq).1) | exact (B3.alloc B3.size _).grown hg2 (Nat.le_trans B3.size (by simp)) (fun q hq => (World.ownsRow.lt hown1 q hq).1))) | (refine step_append_ownL rfl (.tmp 33) (.tmp 36) 25 rfl w0.heap.size 81 i0 (.agg #[.string ByteArray.empty, .string ByteArray.empty, .int .i64 0]) 3 40 Tryz.underlying25 hi0 hz0 hz1 hz2 rfl (by decide) v2 (0 + k + 1) ([] ++ xs1 ++ flCells f) (by simp [Act.eval]) hown2 A (len - k) (gc - k) xs2 (by simp [Act.eval]) HL2.out (HS2.out w0 HI0.out _ B4) HC2.out (by unfold maxLen; omega) (by omega) B4.size ?_; intro v5 w5 hown5 hg5; have B5 : Below w0.heap.size w0 w5 := B4.grown hg5 B4.size (fun q hq => (World.ownsRow.lt hown2 q hq).1)))
          all_goals
            go_wp2_with fail
            go_ret
            exact HFN.out w0 BW.out _ _ (by simpa using hown5) B5

end Go.Proofs.YthhhocgpoenigaaGreat.Dsk

namespace Go.Proofs.YthhhocgpoenigaaGreat.Dsk
open Go.RowKit Go.Proofs.YthhhocgpoenigaaGreat.Dp

/-- What the document's calls answer: a disk of files that were there or that are the call's own. -/
def RkOut (w : World) (fv : Value) (l0 : List Fl) (R : Dk × Int) (e : Ending) (w' : World) : Prop := ∃ a n c, e = .returned (.tuple #[dkVal (.slice a n c) R.1, .int .i64 R.2]) ∧ KeptOr w' w.heap.size fv l0 (.slice a n c) R.1.f ∧ Below w.heap.size w w'

/-- A disk whose files are one of two slices that were there. -/
def RcTwo (w : World) (fv lv : Value) (l0 l : List Fl) (R : Dk × Int) (e : Ending) (w' : World) : Prop := ∃ v, e = .returned (.tuple #[dkVal v R.1, .int .i64 R.2]) ∧ ((v = fv ∧ R.1.f = l0) ∨ (v = lv ∧ R.1.f = l ∧ R.2 = 0)) ∧ Below w.heap.size w w'

set_option maxRecDepth 100000 in
set_option maxHeartbeats 3200000 in
/-- The document's change, and which slice it answers. -/
theorem rchange_two (fa ga : Option Addr) (fn fc gn gc : Nat) (D : Dk) (l : List Fl) (own : Int) (w : World) (hD : DkB D) (h0 : 0 ≤ D.l) :
    Calls Tryz.prog 75 #[.agg #[.slice fa fn fc, .int .i64 D.c, .bool D.a, .int .i64 D.l, .bool D.x], .slice ga gn gc, .int .i64 own] w (RcTwo w (.slice fa fn fc) (.slice ga gn gc) D.f l (change D l own)) := by
  obtain ⟨⟨hc1, hc2⟩, hl1, hl2⟩ := hD
  obtain ⟨f, c, a, d, x⟩ := D
  dsimp only at *
  have b2 := Lib.hid fun (A B : Array Value) => ((Below.refl w.heap.size w).alloc (Nat.le_refl _) (.cells A 27)).alloc (by simp) (.cells B 27)
  rcases change_cases ⟨f, c, a, d, x⟩ l own with ⟨e, h1⟩ | ⟨e, h1, h2⟩ | ⟨e, h1, h2, h3, h4⟩ | ⟨e, h1, h2, h3, h4⟩ | ⟨e, h1, h2, h3⟩
  all_goals
    dsimp only at *
    rw [e]
    clear e
  · subst h1
    go_enter Tryz.func75, Tryz.ntmps75
    go_wp2_with fail
    refine bodyPost_ret (v := .tuple #[.agg #[.slice fa fn fc, .int .i64 c, .bool a, .int .i64 d, .bool true], .int .i64 10]) (by simp [results, Tryz.results75, go_sem]) rfl ?_
    exact ⟨.slice fa fn fc, rfl, .inl ⟨rfl, rfl⟩, b2.out _ _⟩
  · subst h2
    have hx : (own != 0) = true := by simpa using h1
    go_enter Tryz.func75, Tryz.ntmps75
    go_wp2_with fail
    refine bodyPost_ret (v := .tuple #[.agg #[.slice fa fn fc, .int .i64 c, .bool a, .int .i64 d, .bool false], .int .i64 own]) (by simp [results, Tryz.results75, go_sem]) rfl ?_
    exact ⟨.slice fa fn fc, rfl, .inl ⟨rfl, rfl⟩, b2.out _ _⟩
  · subst h1 h2 h3 h4
    go_enter Tryz.func75, Tryz.ntmps75
    go_wp2_with fail
    refine bodyPost_ret (v := .tuple #[.agg #[.slice fa fn fc, .int .i64 c, .bool true, .int .i64 0, .bool true], .int .i64 10]) (by simp [results, Tryz.results75, go_sem]) rfl ?_
    exact ⟨.slice fa fn fc, rfl, .inl ⟨rfl, rfl⟩, b2.out _ _⟩
  · subst h1 h2 h3
    have hd0 : ¬ (d = 0) := h4
    have hd1 : (d == 0) = false := by simpa using h4
    go_enter Tryz.func75, Tryz.ntmps75
    go_wp2_with fail
    refine bodyPost_ret (v := .tuple #[.agg #[.slice ga gn gc, .int .i64 c, .bool true, .int .i64 (d - 1), .bool false], .int .i64 0]) (by simp [results, Tryz.results75, go_sem]) rfl ?_
    exact ⟨.slice ga gn gc, rfl, .inr ⟨rfl, rfl, rfl⟩, b2.out _ _⟩
  · subst h1 h2 h3
    go_enter Tryz.func75, Tryz.ntmps75
    go_wp2_with fail
    refine bodyPost_ret (v := .tuple #[.agg #[.slice ga gn gc, .int .i64 c, .bool false, .int .i64 d, .bool false], .int .i64 0]) (by simp [results, Tryz.results75, go_sem]) rfl ?_
    exact ⟨.slice ga gn gc, rfl, .inr ⟨rfl, rfl, rfl⟩, b2.out _ _⟩
theorem RcTwo.slice {w w' : World} {fa ga : Option Addr} {fn fc gn gc : Nat} {v : Value} {P Q : Prop} (h : (v = .slice fa fn fc ∧ P) ∨ (v = .slice ga gn gc ∧ Q)) (_hw : w = w' ∨ True) : ∃ a n c, v = .slice a n c := by
  rcases h with ⟨h, _⟩ | ⟨h, _⟩
  · exact ⟨_, _, _, h⟩
  · exact ⟨_, _, _, h⟩

set_option maxRecDepth 100000 in
set_option maxHeartbeats 3200000 in
theorem rdelete_any (fv : Value) (D : Dk) (n : ByteArray) (w : World) (hv : IsL FL w fv D.f) (hS : Sm D) :
    Calls Tryz.prog 53 #[dkVal fv D, .string n] w (RkOut w fv D.f (delete D n)) := by
  obtain ⟨fa, fn, fc, rfl⟩ : ∃ a n c, fv = .slice a n c := by obtain ⟨a, c, h, _⟩ := hv; exact ⟨a, _, c, h⟩
  have F := fun (W : World) (h : IsL FL W (.slice fa fn fc) D.f) => rfind_any (.slice fa fn fc) D n W h
  have CH := Lib.hid fun (ga : Option Addr) (gn gc : Nat) (l : List Fl) (own : Int) (W : World) => rchange_two fa ga fn fc gn gc D l own W hS.b hS.l0
  have WO := Lib.hid fun (W : World) (h : IsL FL W (.slice fa fn fc) D.f) => rwithout_any (.slice fa fn fc) D.f n W h (by have := hS.n; omega)
  have HV := Lib.hid hv
  obtain ⟨g0, g1, gb, gs⟩ := boxes2 w #[.slice fa fn fc, .int .i64 D.c, .bool D.a, .int .i64 D.l, .bool D.x] #[.slice none 0 0, .int .i64 0, .bool false, .int .i64 0, .bool false] 27 27
  have G0 := Lib.hid g0
  have G1 := Lib.hid g1
  have GB := Lib.hid gb
  have GS := Lib.hid gs
  clear g0 g1 gb gs hv
  unfold delete
  rcases @find_get D.f n with ⟨hf, hg⟩ | ⟨i, hi, hf, hg⟩
  · rw [hg]
    dsimp only
    simp only [hf] at F
    unfold dkVal at F ⊢
    replace F := Lib.hid F
    clear hf hg
    go_enter Tryz.func53, Tryz.ntmps53
    go_wp2_with fail
    generalize World.alloc (World.alloc w _) _ = w0 at G0 G1 GB GS ⊢
    refine (F.out w0 (HV.out.keep GB.out)).mono ?_
    rintro e w1 ⟨rfl, b1⟩
    obtain ⟨p0, p1, p2, p3, p4⟩ := cells5 (hkeep G0.out b1)
    have G1' := Lib.hid (hkeep G1.out b1)
    have B1 := Lib.hid (GB.out.trans (b1.mono (by have := GS.out; omega)))
    have hs1 : w.heap.size + 1 < w1.heap.size := by have := b1.size; have := GS.out; omega
    clear b1
    go_wp2_with fail
    refine (CH.out none 0 0 [] 7 w1).mono ?_
    rintro e w2 ⟨v, rfl, hc2, b2⟩
    obtain ⟨xa, xn, xc, rfl⟩ : ∃ a n c, v = .slice a n c := by
      rcases hc2 with ⟨h, _⟩ | ⟨h, _⟩
      · exact ⟨_, _, _, h⟩
      · exact ⟨_, _, _, h⟩
    obtain ⟨q0, q1, q2, q3, q4⟩ := cells5 (hkeep G1'.out b2)
    obtain ⟨qf0, qf1, qf2, qf3, qf4⟩ := frozen5 (hkeep G1'.out b2)
    have HC2 := Lib.hid hc2
    have B2 := Lib.hid (B1.out.trans (b2.mono B1.out.size))
    clear hc2 b2
    unfold dkVal
    go_wp2_with fail
    refine bodyPost_ret (v := .tuple #[.agg #[.slice xa xn xc, .int .i64 (change D [] 7).1.c, .bool (change D [] 7).1.a, .int .i64 (change D [] 7).1.l, .bool (change D [] 7).1.x], .int .i64 (change D [] 7).2]) (by simp [results, Tryz.results53, go_sem, q0, q1, q2, q3, q4]) rfl ?_
    refine ⟨xa, xn, xc, rfl, ?_, bel_set5 B2.out (Nat.le_succ _) _ _ _ _ _⟩
    rcases HC2.out with ⟨h1, h2⟩ | ⟨h1, h2, _⟩
    · exact .inl ⟨h1, h2⟩
    · rw [h1, h2]
      exact .inr (OwnL.nil _ _)
  · rw [hg]
    dsimp only
    simp only [hf] at F
    unfold dkVal at F ⊢
    replace F := Lib.hid F
    have hil : i ≤ 1000000 := by have := hS.n; omega
    clear hf hg hi
    go_enter Tryz.func53, Tryz.ntmps53
    go_wp2_with fail
    generalize World.alloc (World.alloc w _) _ = w0 at G0 G1 GB GS ⊢
    refine (F.out w0 (HV.out.keep GB.out)).mono ?_
    rintro e w1 ⟨rfl, b1⟩
    obtain ⟨p0, p1, p2, p3, p4⟩ := cells5 (hkeep G0.out b1)
    have G0' := Lib.hid (hkeep (W := w1) (W' := w1.drew) (hkeep G0.out b1) (Below.refl _ _).drew)
    have G1' := Lib.hid (hkeep (W := w1) (W' := w1.drew) (hkeep G1.out b1) (Below.refl _ _).drew)
    have B1 := Lib.hid (show Below w.heap.size w w1.drew from (GB.out.trans (b1.mono (by have := GS.out; omega))).drew)
    have hs1 : w.heap.size + 1 < w1.heap.size := by have := b1.size; have := GS.out; omega
    have WO0 := Lib.hid (WO.out w1.drew (HV.out.keep B1.out))
    clear b1 WO
    go_wp2_with fail
    go_region_with (first | ((with_reducible refine WO0.out.mono ?_); rintro e w4 ⟨lv, rfl, ho4, b4⟩; obtain ⟨ga, gn, gc, rfl⟩ := own_slice ho4; have HO4 := Lib.hid ho4; obtain ⟨z0, z1, z2, z3, z4⟩ := cells5 (hkeep G0'.out b4); have G14 := Lib.hid (hkeep G1'.out b4); have B4 := Lib.hid (B1.out.trans (b4.mono B1.out.size)); have hs4 := b4.size; clear ho4 b4) | (go_at_call 75; refine (CH.out ga gn gc (without D.f n) 0 w4).mono ?_; rintro e w2 ⟨v, rfl, hc2, b2⟩; obtain ⟨xa, xn, xc, rfl⟩ : ∃ a n c, v = .slice a n c := (by rcases hc2 with ⟨h, _⟩ | ⟨h, _⟩ <;> exact ⟨_, _, _, h⟩); obtain ⟨q0, q1, q2, q3, q4⟩ := cells5 (hkeep G14.out b2); obtain ⟨qf0, qf1, qf2, qf3, qf4⟩ := frozen5 (hkeep G14.out b2); have HC2 := Lib.hid hc2; have HO2 := Lib.hid (HO4.out.keep b2); have B2 := Lib.hid (B4.out.trans (b2.mono B4.out.size)); clear hc2 b2; unfold dkVal))
    all_goals
      go_wp2_with fail
      refine bodyPost_ret (v := .tuple #[.agg #[.slice xa xn xc, .int .i64 (change D (without D.f n) 0).1.c, .bool (change D (without D.f n) 0).1.a, .int .i64 (change D (without D.f n) 0).1.l, .bool (change D (without D.f n) 0).1.x], .int .i64 (change D (without D.f n) 0).2]) (by simp [results, Tryz.results53, go_sem, q0, q1, q2, q3, q4]) rfl ?_
      refine ⟨xa, xn, xc, rfl, ?_, bel_set5 B2.out (Nat.le_succ _) _ _ _ _ _⟩
      rcases HC2.out with ⟨h1, h2⟩ | ⟨h1, h2, _⟩
      · exact .inl ⟨h1, h2⟩
      · refine .inr ?_
        rw [h1, h2]
        exact own_base (own_set5 HO2.out (k := w.heap.size + 1) hs1 _ _ _ _ _) B1.out.size

end Go.Proofs.YthhhocgpoenigaaGreat.Dsk

namespace Go.Proofs.YthhhocgpoenigaaGreat.Rt

/-- A segment: its first offset, its records, its bytes. -/
structure Sg where
  b : Int
  n : Int
  z : Int
def zero : Sg := ⟨0, 0, 0⟩
def sumZ (l : List Sg) : Int := l.foldl (fun s x => s + x.z) 0
def sumN (l : List Sg) : Int := l.foldl (fun s x => s + x.n) 0
theorem drop_at {l : List Sg} {k : Nat} (h : k < l.length) : l.drop k = l.getD k zero :: l.drop (k + 1) := by
  rw [List.drop_eq_getElem_cons h]
  simp [List.getD_eq_getElem?_getD, h]

/-- What may be asked. -/
def Fit (x : Sg) : Prop := 0 ≤ x.n ∧ x.n ≤ 1099511627776 ∧ 0 ≤ x.z ∧ x.z ≤ 1099511627776
def May (l : List Sg) : Prop := l.length ≤ 4096 ∧ ∀ x ∈ l, Fit x
theorem Fit.zero : Fit zero := ⟨by decide, by decide, by decide, by decide⟩
theorem May.at_ {l : List Sg} (h : May l) (k : Nat) : Fit (l.getD k zero) := by
  by_cases hk : k < l.length
  · rw [show l.getD k zero = l[k] by simp [List.getD_eq_getElem?_getD, hk]]
    exact h.2 _ (List.getElem_mem hk)
  · rw [show l.getD k zero = zero by simp [List.getD_eq_getElem?_getD, List.getElem?_eq_none (Nat.le_of_not_lt hk)]]
    exact Fit.zero
theorem May.drop {l : List Sg} (h : May l) (k : Nat) : May (l.drop k) := ⟨by rw [List.length_drop]; have := h.1; omega, fun x hx => h.2 x (List.mem_of_mem_drop hx)⟩
theorem May.take {l : List Sg} (h : May l) (k : Nat) : May (l.take k) := ⟨by rw [List.length_take]; have := h.1; omega, fun x hx => h.2 x (List.mem_of_mem_take hx)⟩

/-- Is too much kept? -/
def Much (l : List Sg) (keep count : Int) : Prop := 1 < l.length ∧ (keep < sumZ (l.take (l.length - 1)) ∨ count < sumN l)
/-- The least number that, taken from the first on, leave not too much. -/
def IsPick (l : List Sg) (keep count : Int) (k : Nat) : Prop := (l = [] ∧ k = 0) ∨ (k < l.length ∧ ¬ Much (l.drop k) keep count ∧ ∀ j, j < k → Much (l.drop j) keep count)
theorem IsPick.one {l : List Sg} {keep count : Int} {k m : Nat} (h : IsPick l keep count k) (h' : IsPick l keep count m) : k = m := by
  rcases h with ⟨rfl, rfl⟩ | ⟨a1, a2, a3⟩
  · rcases h' with ⟨_, rfl⟩ | ⟨b1, _, _⟩
    · rfl
    · simp at b1
  · rcases h' with ⟨rfl, _⟩ | ⟨b1, b2, b3⟩
    · simp at a1
    · rcases Nat.lt_trichotomy k m with h | h | h
      · exact absurd (b3 k h) a2
      · exact h
      · exact absurd (a3 m h) b2
theorem IsPick.lt {l : List Sg} {keep count : Int} {k : Nat} (h : IsPick l keep count k) : k ≤ l.length ∧ (0 < l.length → k < l.length) := by
  rcases h with ⟨rfl, rfl⟩ | ⟨h, _, _⟩
  · exact ⟨Nat.zero_le _, fun h => h⟩
  · exact ⟨Nat.le_of_lt h, fun _ => h⟩
/-- More that may be kept, or fewer that are there: no more go. -/
theorem IsPick.mono {l : List Sg} {keep count keep' count' : Int} {k m : Nat} (h : IsPick l keep count k) (h' : IsPick l keep' count' m) (h1 : keep ≤ keep') (h2 : count ≤ count') : m ≤ k := by
  rcases h with ⟨rfl, rfl⟩ | ⟨a1, a2, a3⟩
  · rcases h' with ⟨_, rfl⟩ | ⟨b1, _, _⟩
    · exact Nat.le_refl _
    · simp at b1
  · rcases h' with ⟨rfl, rfl⟩ | ⟨b1, b2, b3⟩
    · exact Nat.zero_le _
    · refine Nat.le_of_not_lt fun hlt => a2 ?_
      obtain ⟨c1, c2⟩ := b3 k hlt
      exact ⟨c1, by omega⟩

end Go.Proofs.YthhhocgpoenigaaGreat.Rt

namespace Go.Proofs.YthhhocgpoenigaaGreat.Rts
open Go.RowKit Go.Proofs.YthhhocgpoenigaaGreat.Rt

def sgCells (m : Sg) : List Value := [.int .i64 m.b, .int .i64 m.n, .int .i64 m.z]
def SgB (m : Sg) : Prop := (-9223372036854775808 ≤ m.b ∧ m.b ≤ 9223372036854775807) ∧ (-9223372036854775808 ≤ m.n ∧ m.n ≤ 9223372036854775807) ∧ (-9223372036854775808 ≤ m.z ∧ m.z ≤ 9223372036854775807)
/-- How segments lie in memory. -/
def SL : Lay Sg where
  enc := sgCells
  k := 3
  len := fun _ => rfl
  one := by intro f u hu; simp [sgCells] at hu; rcases hu with rfl | rfl | rfl <;> rfl
  pos := by decide
  T := 65
  ok := SgB
  z := zero
theorem info_sg : (Tryz.prog.info? 65).map (fun i => (i.zero, i.size, i.bytes)) = some (some (.agg #[.int .i64 0, .int .i64 0, .int .i64 0]), 3, 24) := by kernel_rfl
theorem sg_at {w : World} {fa : Option Addr} {fn fc : Nat} {l : List Sg} (h : IsL SL w (.slice fa fn fc) l) {i : Nat} (hi : i < fn) :
    ∃ b off, fa = some ⟨b, off, none⟩ ∧ w.cell? ⟨b, off + i * 3, none⟩ = some (.int .i64 (l.getD i zero).b) ∧ w.cell? ⟨b, off + i * 3 + 1, none⟩ = some (.int .i64 (l.getD i zero).n) ∧ w.cell? ⟨b, off + i * 3 + 2, none⟩ = some (.int .i64 (l.getD i zero).z) := by
  have h' := h
  obtain ⟨a', cap', e, _, _, h3⟩ := h
  injection e with e1 e2 e3
  rcases h3 with h3 | ⟨b, off, h4, _⟩
  · rw [h3] at e2; simp at e2; omega
  · subst e1
    subst h4
    exact ⟨b, off, rfl, h'.at_ hi 0 _ rfl, h'.at_ hi 1 _ rfl, h'.at_ hi 2 _ rfl⟩

end Go.Proofs.YthhhocgpoenigaaGreat.Rts

namespace Go.Proofs.YthhhocgpoenigaaGreat
namespace Np

/-- The last k digits of n, the highest first. -/
def dig : Nat → Nat → List UInt8
  | 0, _ => []
  | k + 1, n => dig k (n / 10) ++ [UInt8.ofNat (48 + n % 10)]

theorem dig_len : ∀ (k n : Nat), (dig k n).length = k
  | 0, _ => rfl
  | k + 1, n => by simp [dig, dig_len k (n / 10)]

theorem dig_add (j : Nat) : ∀ (k n : Nat), dig (j + k) n = dig j (n / 10 ^ k) ++ dig k n
  | 0, n => by simp [dig]
  | k + 1, n => by
    rw [show j + (k + 1) = (j + k) + 1 from rfl, dig, dig_add j k (n / 10), dig, Nat.div_div_eq_div_mul, Nat.pow_succ, Nat.mul_comm 10 (10 ^ k)]
    simp

theorem dig_cons (k n : Nat) : dig (k + 1) n = UInt8.ofNat (48 + n / 10 ^ k % 10) :: dig k n := by
  rw [show k + 1 = 1 + k from by omega, dig_add 1 k n]
  simp [dig]

/-- A name: its first byte, then thirteen digits; of no offset none. -/
def nameL (c : UInt8) (n : Int) : List UInt8 := if 0 ≤ n ∧ n ≤ 1099511627776 then c :: dig 13 n.toNat else []

def isDig (c : UInt8) : Bool := decide (48 ≤ c.toNat) && decide (c.toNat ≤ 57)
theorem isDig_iff (c : UInt8) : isDig c = true ↔ 48 ≤ c.toNat ∧ c.toNat ≤ 57 := by unfold isDig; simp
def val (l : List UInt8) : Nat := l.foldl (fun a c => a * 10 + (c.toNat - 48)) 0
theorem val_snoc (l : List UInt8) (c : UInt8) : val (l ++ [c]) = val l * 10 + (c.toNat - 48) := by simp [val]

theorem digit (n : Nat) : (UInt8.ofNat (48 + n % 10)).toNat = 48 + n % 10 := by
  rw [UInt8.toNat_ofNat']; omega

theorem val_dig : ∀ (k n : Nat), val (dig k n) = n % 10 ^ k
  | 0, n => by simp [dig, val, Nat.mod_one]
  | k + 1, n => by
    rw [dig, val_snoc, val_dig k, digit, Nat.pow_succ, Nat.mul_comm (10 ^ k) 10, Nat.mod_mul]
    omega

theorem dig_all : ∀ (k n : Nat), (dig k n).all isDig = true
  | 0, _ => rfl
  | k + 1, n => by
    rw [dig, List.all_append, dig_all k]
    simp only [List.all_cons, List.all_nil, Bool.and_true, Bool.true_and]
    rw [isDig_iff, digit]
    omega

/-- Is it thirteen digits of an offset? -/
def offB (l : List UInt8) : Bool := l.all isDig && decide (val l ≤ 1099511627776)
theorem offB_iff (l : List UInt8) : offB l = true ↔ l.all isDig = true ∧ val l ≤ 1099511627776 := by unfold offB; simp

/-- What a text is the name of. -/
def kind (s : List UInt8) : UInt8 × Nat :=
  if s = [109] ∨ s = [110] then (s.headD 0, 0)
  else if s.length = 14 ∧ (s.headD 0 = 115 ∨ s.headD 0 = 116) ∧ offB s.tail = true then (s.headD 0, val s.tail)
  else (0, 0)

/-- A name is that offset's. -/
theorem kind_name {c : UInt8} (hc : c = 115 ∨ c = 116) {n : Nat} (h : n ≤ 1099511627776) : kind (nameL c (n : Int)) = (c, n) := by
  have e : nameL c (n : Int) = c :: dig 13 n := by unfold nameL; rw [if_pos ⟨by omega, by omega⟩]; simp
  have v : val (dig 13 n) = n := by rw [val_dig]; exact Nat.mod_eq_of_lt (by omega)
  rw [e]
  unfold kind
  have l := dig_len 13 n
  rw [if_neg, if_pos]
  · simp [v]
  · refine ⟨by simp [l], by simpa using hc, ?_⟩
    rw [List.tail_cons, offB_iff]
    exact ⟨dig_all _ _, by omega⟩
  · rintro (h | h) <;> · have := congrArg List.length h; simp [l] at this

theorem name_inj {c : UInt8} (hc : c = 115 ∨ c = 116) {a b : Nat} (ha : a ≤ 1099511627776) (hb : b ≤ 1099511627776) (h : nameL c (a : Int) = nameL c (b : Int)) : a = b := by
  have := (kind_name hc ha).symm.trans ((congrArg kind h).trans (kind_name hc hb))
  exact congrArg Prod.snd this

theorem name_len (c : UInt8) {a : Nat} (ha : a ≤ 1099511627776) : (nameL c (a : Int)).length = 14 := by
  unfold nameL; rw [if_pos ⟨by omega, by omega⟩, List.length_cons, dig_len]

end Np
end Go.Proofs.YthhhocgpoenigaaGreat

namespace Go.Proofs.YthhhocgpoenigaaGreat
open Go.RowKit Go.Lib

namespace Nm
/-- The array when i digits of thirteen are left. -/
def nmV (c : UInt8) (n i : Nat) : Array Value := (Value.int .u8 (c.toNat : Int) :: (List.range 13).map fun j => Value.int .u8 ((if j < i then 0 else 48 + n / 10 ^ (12 - j) % 10 : Nat) : Int)).toArray
theorem nmV_size (c : UInt8) (n i : Nat) : (nmV c n i).size = 14 := by simp [nmV]
theorem nmV_zero (c : UInt8) (n i j : Nat) (h : j = 0) : (nmV c n i)[j]? = some (.int .u8 (c.toNat : Int)) := by subst h; simp [nmV]
theorem nmV_at {c : UInt8} {n i j : Nat} (hj : j < 13) : (nmV c n i)[j + 1]? = some (.int .u8 ((if j < i then 0 else 48 + n / 10 ^ (12 - j) % 10 : Nat) : Int)) := by
  unfold nmV
  rw [List.getElem?_toArray, List.getElem?_cons_succ, List.getElem?_map, List.getElem?_range hj]; rfl
theorem nmV_step {c : UInt8} {n i : Nat} (hi : i < 13) : (nmV c n (i + 1)).setIfInBounds (i + 1) (.int .u8 ((48 + n / 10 ^ (12 - i) % 10 : Nat) : Int)) = nmV c n i := by
  apply Array.ext_getElem?
  intro j
  rw [Array.getElem?_setIfInBounds, nmV_size]
  rcases Nat.eq_zero_or_pos j with h0 | h0
  · rw [if_neg (by omega), nmV_zero _ _ _ _ h0, nmV_zero _ _ _ _ h0]
  · obtain ⟨j, rfl⟩ : ∃ k, j = k + 1 := ⟨j - 1, by omega⟩
    rcases Nat.lt_or_ge j 13 with hj | hj
    · rw [nmV_at hj, nmV_at hj]
      by_cases e : i + 1 = j + 1
      · have : i = j := by omega
        subst this
        rw [if_pos rfl, if_pos (by omega), if_neg (by omega)]
      · rw [if_neg e]
        by_cases h : j < i
        · rw [if_pos h, if_pos (by omega)]
        · rw [if_neg h, if_neg (by omega)]
    · have hz : ∀ k, (nmV c n k)[j + 1]? = none := fun k => Array.getElem?_eq_none (by rw [nmV_size]; omega)
      rw [if_neg (by omega), hz, hz]

theorem dig_get : ∀ (k n j : Nat), j < k → (Np.dig k n)[j]? = some (UInt8.ofNat (48 + n / 10 ^ (k - 1 - j) % 10)) := by
  intro k
  induction k with
  | zero => intro n j h; omega
  | succ k ih =>
    intro n j h
    rw [Np.dig_cons]
    cases j with
    | zero => simp
    | succ j => rw [List.getElem?_cons_succ, ih n j (by omega), show k - 1 - j = k + 1 - 1 - (j + 1) from by omega]

def cellsOf (l : List UInt8) : Array Value := (l.map fun b => Value.int .u8 (b.toNat : Int)).toArray
theorem nmV_done (c : UInt8) (n : Nat) : nmV c n 0 = cellsOf (c :: Np.dig 13 n) := by
  apply Array.ext_getElem?
  intro j
  unfold cellsOf
  rcases Nat.eq_zero_or_pos j with h0 | h0
  · subst h0; rw [nmV_zero _ _ _ _ rfl]; simp
  · obtain ⟨j, rfl⟩ : ∃ k, j = k + 1 := ⟨j - 1, by omega⟩
    have e : (List.map (fun b : UInt8 => Value.int .u8 (b.toNat : Int)) (c :: Np.dig 13 n)).toArray[j + 1]? = (Np.dig 13 n)[j]?.map fun b => Value.int .u8 (b.toNat : Int) := by simp
    rw [e]
    rcases Nat.lt_or_ge j 13 with hj | hj
    · rw [nmV_at hj, dig_get 13 n j hj, if_neg (by omega), Option.map_some, Np.digit, show 13 - 1 - j = 12 - j from by omega]
    · rw [Array.getElem?_eq_none (by rw [nmV_size]; omega), List.getElem?_eq_none (by rw [Np.dig_len]; omega)]; rfl

theorem conv_nm (w : World) (l : List UInt8) (T : TypeId) (hl : l.length = 14) : (convert 133 9 (.slice (some ⟨w.heap.size, 0, none⟩) 14 14)).run Tryz.prog (w.alloc (.cells (cellsOf l) T)) = .ok (.string ⟨l.toArray⟩) (w.alloc (.cells (cellsOf l) T)) := by
  have := run_convert_bytes_back (P := Tryz.prog) (w.alloc (.cells (cellsOf l) T)) 133 9 5 ⟨w.heap.size, 0, none⟩ 14 l Tryz.underlying133 Tryz.underlying5 Tryz.underlying9 (fun j hj => by
    rw [addr_plain, cell_of_row _ _ _ _ _ _ (heap_alloc_new w _)]
    simp [cellsOf, hj])
  rw [hl] at this
  exact this
end Nm
open Go.Proofs.YthhhocgpoenigaaGreat.Nm

set_option maxRecDepth 100000 in
set_option maxHeartbeats 400000 in
theorem mayBe_any (n : Int) (w : World) : Calls Tryz.prog 119 #[.int .i64 n] w fun e w' => e = .returned (.bool (decide (0 ≤ n ∧ n ≤ 1099511627776))) ∧ w = w' := by
  by_cases h0 : 0 ≤ n
  · by_cases h1 : n ≤ 1099511627776
    · rw [decide_eq_true (⟨h0, h1⟩ : 0 ≤ n ∧ n ≤ 1099511627776)]
      go_enter Tryz.func119, Tryz.ntmps119
      go_wp2
      go_ret
      exact ⟨rfl, rfl⟩
    · rw [decide_eq_false (fun h : 0 ≤ n ∧ n ≤ 1099511627776 => h1 h.2)]
      have h2 : 1099511627776 < n := by omega
      go_enter Tryz.func119, Tryz.ntmps119
      go_wp2
      go_ret
      exact ⟨rfl, rfl⟩
  · rw [decide_eq_false (fun h : 0 ≤ n ∧ n ≤ 1099511627776 => h0 h.1)]
    have h2 : n < 0 := by omega
    go_enter Tryz.func119, Tryz.ntmps119
    go_wp2
    go_ret
    exact ⟨rfl, rfl⟩

theorem nameL_no {c : UInt8} {n : Int} (h : ¬ (0 ≤ n ∧ n ≤ 1099511627776)) : Np.nameL c n = [] := by unfold Np.nameL; rw [if_neg h]
theorem nameL_yes {c : UInt8} {n : Nat} (h : n ≤ 1099511627776) : Np.nameL c (n : Int) = c :: Np.dig 13 n := by
  unfold Np.nameL; rw [if_pos ⟨by omega, by omega⟩]; simp

set_option maxRecDepth 100000 in
set_option maxHeartbeats 400000 in
theorem laid_no (c : Int) (n : Int) (w : World) (h : ¬ (0 ≤ n ∧ n ≤ 1099511627776)) :
    Calls Tryz.prog 73 #[.int .u8 c, .int .i64 n] w fun e w' => e = .returned (.string ⟨#[]⟩) ∧ Below w.heap.size w w' := by
  have C1 := mayBe_any n
  rw [decide_eq_false h] at C1
  have C1 := Lib.hid C1
  clear h
  go_enter Tryz.func73, Tryz.ntmps73
  go_wp2_with fail
  refine (C1.out _).mono ?_
  rintro e w1 ⟨rfl, rfl⟩
  go_wp2_with fail
  go_ret
  exact ⟨rfl, Below.refl _ _⟩

theorem nm_div (n k : Nat) (hk : k < 13) : n / 10 ^ (12 - k) / 10 = n / 10 ^ (13 - k) := by
  rw [Nat.div_div_eq_div_mul, show 13 - k = 12 - k + 1 from by omega, Nat.pow_succ]

set_option maxRecDepth 100000 in
set_option maxHeartbeats 800000 in
theorem laid_yes (c : UInt8) (n : Nat) (w : World) (h : n ≤ 1099511627776) :
    Calls Tryz.prog 73 #[.int .u8 (c.toNat : Int), .int .i64 n] w fun e w' => e = .returned (.string ⟨(c :: Np.dig 13 n).toArray⟩) ∧ Below w.heap.size w w' := by
  have C1 := mayBe_any (n : Int)
  rw [decide_eq_true (⟨by omega, by omega⟩ : (0 : Int) ≤ n ∧ (n : Int) ≤ 1099511627776)] at C1
  have C1 := Lib.hid C1
  have hb := c.toNat_lt
  have hbi : (c.toNat : Int) < 256 := by omega
  go_enter Tryz.func73, Tryz.ntmps73
  go_wp2_with fail
  refine (C1.out _).mono ?_
  rintro e w1 ⟨rfl, rfl⟩
  go_wp2_with fail
  go_loopw [1, 6] (fun a i wr => ∃ k m : Nat, k ≤ 13 ∧ m ≤ 1099511627776 ∧ a = .int .i64 m ∧ i = .int .i64 k ∧ m = n / 10 ^ (13 - k) ∧ wr = w.alloc (.cells (nmV c n k) 132)) (fun _ i _ => (RowKit.intOf i).toNat)
  case atStart => exact ⟨13, n, by omega, h, rfl, rfl, by simp, rfl⟩
  case round =>
    obtain ⟨k, m, hk, hm, rfl, rfl, hmn, rfl⟩ := hrel
    have HM := Lib.hid hmn
    clear hmn
    by_cases h0 : 0 < k
    · obtain ⟨k, rfl⟩ : ∃ j, k = j + 1 := ⟨k - 1, by omega⟩
      have hget : (nmV c n (k + 1))[k + 1]? = some (.int .u8 0) := by rw [nmV_at (by omega), if_pos (by omega)]; rfl
      have HT := Lib.hid (nmV_step (c := c) (n := n) (i := k) (by omega))
      go_wp2
      go_roundw
      case rel =>
        refine ⟨k, m / 10, by omega, by omega, by go_num, by go_num, ?_, ?_⟩
        · rw [HM.out, show 13 - (k + 1) = 12 - k from by omega, nm_div n k (by omega)]
        · rw [← HT.out, show 12 - k = 13 - (k + 1) from by omega, ← HM.out]
          congr 3
      case measure => simp [RowKit.intOf]
    · obtain rfl : k = 0 := by omega
      have hcv := conv_nm w (c :: Np.dig 13 n) 132 (by simp [Np.dig_len])
      rw [nmV_done]
      go_wp2
      go_ret
      exact ⟨rfl, (Below.refl _ _).alloc (Nat.le_refl _) _⟩

theorem laid_any (c : UInt8) (n : Int) (w : World) (h1 : -9223372036854775808 ≤ n) :
    Calls Tryz.prog 73 #[.int .u8 (c.toNat : Int), .int .i64 n] w fun e w' => e = .returned (.string ⟨(Np.nameL c n).toArray⟩) ∧ Below w.heap.size w w' := by
  by_cases h : 0 ≤ n ∧ n ≤ 1099511627776
  · obtain ⟨n, rfl⟩ : ∃ k : Nat, n = (k : Int) := ⟨n.toNat, by omega⟩
    rw [nameL_yes (by omega)]
    exact laid_yes c n w (by omega)
  · rw [nameL_no h]
    exact laid_no _ n w h

set_option maxRecDepth 100000 in
set_option maxHeartbeats 400000 in
theorem seg_any (n : Int) (w : World) (h1 : -9223372036854775808 ≤ n) :
    Calls Tryz.prog 35 #[.int .i64 n] w fun e w' => e = .returned (.string ⟨(Np.nameL 115 n).toArray⟩) ∧ Below w.heap.size w w' := by
  have C1 := fun W : World => laid_any 115 n W h1
  generalize Np.nameL 115 n = l at *
  rw [show (((115 : UInt8).toNat : Nat) : Int) = 115 from rfl] at C1
  have C1 := Lib.hid C1
  go_enter Tryz.func35, Tryz.ntmps35
  go_wp2_with fail
  refine (C1.out _).mono ?_
  rintro e w1 ⟨rfl, b1⟩
  go_wp2_with fail
  go_ret
  exact ⟨rfl, b1⟩

end Go.Proofs.YthhhocgpoenigaaGreat
