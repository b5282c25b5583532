/-
  What the steps of disk's changes answer.
-/
import Derived.Test.YtbkiecjbjehaoaaDiskUsed
import Derived.Deep.RegionWith
namespace Go.Proofs.Ytbkiecjbjehaoaa.Dsk
open Go.RowKit Go.Proofs.Ytbkiecjbjehaoaa.Dp

/-- What a search tells of the file of that name. -/
theorem found_no {l : List Fl} {n : ByteArray} {i : Nat} {b : Bool} (h : FoundF l n i b) (hu : Up l) (hg : get l n = none) : b = false := by
  have h1 := h.get hu zero
  rw [hg] at h1
  cases b with
  | false => rfl
  | true => simp at h1
theorem found_yes {l : List Fl} {n : ByteArray} {i : Nat} {b : Bool} {f : Fl} (h : FoundF l n i b) (hu : Up l) (hg : get l n = some f) : b = true ∧ i < l.length ∧ l.getD i zero = f := by
  have h1 := h.get hu zero
  rw [hg] at h1
  cases b with
  | false => simp at h1
  | true => exact ⟨rfl, (h.hit rfl).1, by simpa using h1.symm⟩

set_option maxRecDepth 100000 in
set_option maxHeartbeats 800000 in
theorem within1_no (n : ByteArray) (l : List Fl) (base : Nat) (v : Value) (b1 b2 : Nat) (w : World) (h1 : w.cell? ⟨b1, 0, none⟩ = some (.string n)) (ho : OwnL FL w base v l) (hbw : base ≤ w.heap.size) (hu : Up l) (hl : l.length ≤ 1000000000) (hb : ∀ x ∈ l, FlB x) (hg : get l n = none) :
    Calls Try.prog 62 #[v, .pointer (some ⟨b1, 0, none⟩), .pointer (some ⟨b2, 0, none⟩)] w (StepOut w base [] 7) := by
  obtain ⟨va, vn, vc, rfl⟩ := own_slice ho
  have F := Lib.hid (find_any _ l n w hu (by omega) (ho.is (by unfold maxLen; omega) hb))
  have HG := Lib.hid fun i b (h : FoundF l n i b) => found_no h hu hg
  clear ho hu hl hb hg
  go_enter Try.func62, Try.ntmps62
  go_wp2_with fail
  refine F.out.mono ?_
  rintro e w1 ⟨i, b, rfl, hf, b1'⟩
  obtain rfl := HG.out i b hf
  have HB := Lib.hid (b1'.mono hbw)
  clear hf b1'
  go_wp2_with fail
  go_ret2
  exact StepOut.no _ _ _ (by decide) HB.out

set_option maxRecDepth 100000 in
set_option maxHeartbeats 3200000 in
theorem within1_yes (n : ByteArray) (l : List Fl) (base : Nat) (v : Value) (b1 b2 : Nat) (w : World) (h1 : w.cell? ⟨b1, 0, none⟩ = some (.string n)) (ho : OwnL FL w base v l) (hbw : base ≤ w.heap.size) (hu : Up l) (hl : l.length ≤ 1000000000) (hb : ∀ x ∈ l, FlB x)
    (f g : Fl) (er : Int) (N : Nat) (caps : Array Value) (hg : get l n = some f) (hn : g.n = n) (EN : ∀ args w, (callFunc N args).run Try.prog w = .ok (.enter N args) w) (h2 : w.cell? ⟨b2, 0, none⟩ = some (.func (.func N) #[] caps))
    (IN : ∀ W, Below w.heap.size w W → Calls Try.prog N (#[.agg #[.string f.n, .string f.d, .int .i64 f.s]] ++ caps) W (FileOut W g er)) :
    Calls Try.prog 62 #[v, .pointer (some ⟨b1, 0, none⟩), .pointer (some ⟨b2, 0, none⟩)] w (StepOut w base (withF l g) er) := by
  obtain ⟨va, vn, vc, rfl⟩ := own_slice ho
  have F := Lib.hid (find_any _ l n w hu (by omega) (ho.is (by unfold maxLen; omega) hb))
  have HG := Lib.hid fun i b (h : FoundF l n i b) => found_yes h hu hg
  have HH := Lib.hid fun i (h : FoundF l n i true) => h.with_hit hu hn
  have HO := Lib.hid ho
  have HI := Lib.hid IN
  have HE := Lib.hid EN
  have HW := Lib.hid hbw
  clear ho hu hl hb hg IN EN hbw hn
  go_enter Try.func62, Try.ntmps62
  go_wp2_with fail
  refine F.out.mono ?_
  rintro e w1 ⟨i, b, rfl, hf, b1'⟩
  obtain ⟨rfl, hi, hfe⟩ := HG.out i b hf
  have HF := Lib.hid (HH.out i hf)
  have HO1 := HO.out.keep b1'
  have B1 := Lib.hid b1'
  have x2 : w1.cell? ⟨b2, 0, none⟩ = some (.func (.func N) #[] caps) := by rw [b1'.cell (p := ⟨b2, 0, none⟩) (block_lt_of_cell h2)]; exact h2
  obtain ⟨gb, cap, cur, he, hgb, hgc, hcl, hcm, hcs, hct⟩ := own_open HO1 (by omega)
  injection he with e1 e2 e3
  subst e1 e2 e3
  have hci := fun j u (hj : (FL.vals l)[j]? = some u) => World.ownsRow.cells HO1 (g := gb) rfl j u hj
  have k0 := hci (i * 3 + 0) _ (FL.vals_get l i 0 hi (by decide))
  have k1 := hci (i * 3 + 1) _ (FL.vals_get l i 1 hi (by decide))
  have k2 := hci (i * 3 + 2) _ (FL.vals_get l i 2 hi (by decide))
  rw [addr_plain] at k0 k1 k2
  change w1.cell? _ = some (.string (l.getD i zero).n) at k0
  change w1.cell? _ = some (.string (l.getD i zero).d) at k1
  change w1.cell? _ = some (.int .i64 (l.getD i zero).s) at k2
  rw [hfe] at k0 k1 k2
  simp only [Nat.zero_add, Nat.add_zero] at k0 k1 k2
  have HO1 := Lib.hid HO1
  clear hf b1' hci hfe hgc hct hcs
  have hgl := block_lt_of_cell k0
  have hbl := block_lt_of_cell x2
  obtain ⟨len, hlen⟩ : ∃ len, l.length = len := ⟨_, rfl⟩
  rw [hlen] at hi hcl HO1 F HO ⊢
  have HL := Lib.hid hlen
  clear hlen
  go_wp2_with fail
  go_cut [8, 9] (fun p q w2 => ∃ t : Nat, p = .pointer (some ⟨t, 0, none⟩) ∧ q = .int .i64 er ∧ w2.heap[t]? = some (.cells #[.string g.n, .string g.d, .int .i64 g.s] 43 (0, 0)) ∧ Below w1.heap.size w1 w2)
  case first =>
    go_region_with (first | (rw [HE.out, Oper.upon_enter]; refine (HI.out _ (by first | exact B1.out.drew | exact B1.out.drew.alloc B1.out.size _)).mono ?_; rintro e w4 ⟨rfl, b4⟩; obtain ⟨hc4, hf4⟩ := bcell b4))
    all_goals go_wp2_with fail
    all_goals go_meet
    all_goals
      case rel =>
        first
          | exact ⟨_, rfl, rfl, heap_alloc_new w4 _, ((Below.refl _ w1).drew.trans b4).alloc b4.size _⟩
          | exact ⟨_, rfl, rfl, heap_set3 (hkeep (heap_alloc_new w1.drew _) b4) _ _ _, bel_st3 (((Below.refl _ w1).drew.alloc (Nat.le_refl _) _).trans (b4.mono (by simp))) (Nat.le_refl _) _ _ _⟩
  case rest =>
    obtain ⟨t, rfl, rfl, hh, b2⟩ := hcut
    have HO2 := HO1.out.keep b2
    have B2 := Lib.hid ((B1.out.mono HW.out).trans (b2.mono (by have := B1.out.size; have := HW.out; omega)))
    obtain ⟨gb', cap', cur', he', hgb', hgc', hcl', hcm', hcs', hct'⟩ := own_open HO2 (by rw [HL.out]; omega)
    rw [HL.out] at he' hcl'
    injection he' with e1 e2 e3
    injection e1 with e1
    injection e1 with e1
    subst e1 e3
    have hi' : i < l.length := by rw [HL.out]; exact hi
    have HS := own_set g hgb' hgc' (by rw [HL.out]; exact hcl') hcm' hcs' hct' hi'
    rw [HL.out] at HS
    have HG := Lib.hid (show StepOut w base (withF l g) er (.returned (.tuple #[.slice (some ⟨gb, 0, none⟩) len vc, .int .i64 er])) _ from ⟨_, _, _, rfl, fun _ => by rw [HF.out]; exact HS, B2.out.trans (bel_set3 hgb' _ _ _ _)⟩)
    obtain ⟨y0, hy0⟩ := Option.isSome_iff_exists.1 (row_some hgc' (i * 3) (by omega)).1
    obtain ⟨y1, hy1⟩ := Option.isSome_iff_exists.1 (row_some hgc' (i * 3 + 1) (by omega)).1
    obtain ⟨y2, hy2⟩ := Option.isSome_iff_exists.1 (row_some hgc' (i * 3 + 2) (by omega)).1
    have hf0 := (row_some hgc' (i * 3) (by omega)).2
    have hf1 := (row_some hgc' (i * 3 + 1) (by omega)).2
    have hf2 := (row_some hgc' (i * 3 + 2) (by omega)).2
    obtain ⟨d0, d1, d2⟩ := cells3 hh
    clear hgc' hcs' hct' HS hgb' hi' HO2 hh b2 k0 k1 k2
    go_wp2_with fail
    go_ret2
    exact HG.out

set_option maxRecDepth 100000 in
set_option maxHeartbeats 1600000 in
theorem create1_any (n : ByteArray) (l : List Fl) (base : Nat) (v : Value) (b1 : Nat) (w : World) (hn : n.size ≤ 9223372036854775807) (h1 : w.cell? ⟨b1, 0, none⟩ = some (.string n)) (ho : OwnL FL w base v l) (hbw : base ≤ w.heap.size) (hu : Up l) (hl : l.length ≤ 1000000000) (hb : ∀ x ∈ l, FlB x) (own : Int)
    (hown : (own = 1 ∧ ¬ Named n) ∨ (own = 8 ∧ Named n ∧ get l n ≠ none) ∨ (own = 0 ∧ Named n ∧ get l n = none)) :
    Calls Try.prog 45 #[v, .pointer (some ⟨b1, 0, none⟩)] w (StepOut w base (withF l ⟨n, ⟨#[]⟩, 0⟩) own) := by
  obtain ⟨va, vn, vc, rfl⟩ := own_slice ho
  have M := fun W : World => mayName_any n W hn
  rcases hown with ⟨rfl, hN⟩ | ⟨rfl, hN, hg⟩ | ⟨rfl, hN, hg⟩
  · rw [decide_eq_false hN] at M
    have M := Lib.hid M
    clear ho hu hl hb hN hn
    go_enter Try.func45, Try.ntmps45
    go_wp2_with fail
    refine (M.out _).mono ?_
    rintro e w1 ⟨rfl, rfl⟩
    go_wp2_with fail
    go_ret2
    exact StepOut.no _ _ _ (by decide) (Below.refl _ _)
  · rw [decide_eq_true hN] at M
    have M := Lib.hid M
    have F := Lib.hid (find_any _ l n w hu (by omega) (ho.is (by unfold maxLen; omega) hb))
    obtain ⟨f0, hf0⟩ := Option.ne_none_iff_exists'.1 hg
    have HG := Lib.hid fun i b (h : FoundF l n i b) => (found_yes h hu hf0).1
    clear ho hu hl hb hN hn hg hf0
    go_enter Try.func45, Try.ntmps45
    go_wp2_with fail
    refine (M.out _).mono ?_
    rintro e w1 ⟨rfl, rfl⟩
    go_wp2_with fail
    refine F.out.mono ?_
    rintro e w1 ⟨i, b, rfl, hf, b1'⟩
    obtain rfl := HG.out i b hf
    have HB := Lib.hid (b1'.mono hbw)
    clear hf b1'
    go_wp2_with fail
    go_ret2
    exact StepOut.no _ _ _ (by decide) HB.out
  · rw [decide_eq_true hN] at M
    have M := Lib.hid M
    have F := Lib.hid (find_any _ l n w hu (by omega) (ho.is (by unfold maxLen; omega) hb))
    have HG := Lib.hid fun i b (h : FoundF l n i b) => found_no h hu hg
    have HM := Lib.hid fun i (h : FoundF l n i false) => h.with_miss hu (f := ⟨n, ⟨#[]⟩, 0⟩) rfl
    have HO := Lib.hid ho
    have l1 := block_lt_of_cell h1
    clear ho hu hb hN hn hg
    go_enter Try.func45, Try.ntmps45
    go_wp2_with fail
    refine (M.out _).mono ?_
    rintro e w1 ⟨rfl, rfl⟩
    go_wp2_with fail
    refine F.out.mono ?_
    rintro e w1 ⟨i, b, rfl, hf, b1'⟩
    obtain rfl := HG.out i b hf
    have hi := hf.le
    have HF := Lib.hid (HM.out i hf)
    have HO1 := Lib.hid (HO.out.keep b1')
    have B1 := Lib.hid (b1'.mono hbw)
    have x1 : w1.cell? ⟨b1, 0, none⟩ = some (.string n) := by rw [b1'.cell (p := ⟨b1, 0, none⟩) l1]; exact h1
    have hbw1 := Nat.le_trans hbw b1'.size
    clear hf b1'
    go_wp2_with fail
    refine (ins_any l base i _ ⟨n, ⟨#[]⟩, 0⟩ w1.heap.size _ (HO1.out.alloc _) hi hl (Nat.le_trans hbw1 (by simp)) (heap_alloc_new w1 _) (fun e => absurd (HO1.out.lt _ e).2 (Nat.lt_irrefl _))).mono ?_
    rintro e w2 ⟨v2, rfl, ho2, b2⟩
    obtain ⟨ga, gn, gc, rfl⟩ := own_slice ho2
    have HG := Lib.hid (show StepOut w base (withF l ⟨n, ⟨#[]⟩, 0⟩) 0 (.returned (.tuple #[.slice ga gn gc, .int .i64 0])) w2 from StepOut.yes (by rw [HF.out]; exact ho2) ((B1.out.alloc hbw1 _).trans b2))
    clear ho2 b2
    go_wp2_with fail
    go_ret2
    exact HG.out

set_option maxRecDepth 100000 in
set_option maxHeartbeats 1600000 in
theorem delete1_any (n : ByteArray) (l : List Fl) (base : Nat) (v : Value) (b1 : Nat) (w : World) (h1 : w.cell? ⟨b1, 0, none⟩ = some (.string n)) (ho : OwnL FL w base v l) (hbw : base ≤ w.heap.size) (hu : Up l) (hl : l.length ≤ 1000000000) (hb : ∀ x ∈ l, FlB x) (own : Int)
    (hown : (own = 7 ∧ get l n = none) ∨ (own = 0 ∧ get l n ≠ none)) :
    Calls Try.prog 54 #[v, .pointer (some ⟨b1, 0, none⟩)] w (StepOut w base (without l n) own) := by
  obtain ⟨va, vn, vc, rfl⟩ := own_slice ho
  have F := Lib.hid (find_any _ l n w hu (by omega) (ho.is (by unfold maxLen; omega) hb))
  rcases hown with ⟨rfl, hg⟩ | ⟨rfl, hg⟩
  · have HG := Lib.hid fun i b (h : FoundF l n i b) => found_no h hu hg
    clear ho hu hl hb hg
    go_enter Try.func54, Try.ntmps54
    go_wp2_with fail
    refine F.out.mono ?_
    rintro e w1 ⟨i, b, rfl, hf, b1'⟩
    obtain rfl := HG.out i b hf
    have HB := Lib.hid (b1'.mono hbw)
    clear hf b1'
    go_wp2_with fail
    go_ret2
    exact StepOut.no _ _ _ (by decide) HB.out
  · obtain ⟨f0, hf0⟩ := Option.ne_none_iff_exists'.1 hg
    have HG := Lib.hid fun i b (h : FoundF l n i b) => found_yes h hu hf0
    have HM := Lib.hid fun i (h : FoundF l n i true) => h.wo hu
    have HO := Lib.hid ho
    clear ho hu hb hg hf0
    go_enter Try.func54, Try.ntmps54
    go_wp2_with fail
    refine F.out.mono ?_
    rintro e w1 ⟨i, b, rfl, hf, b1'⟩
    obtain ⟨rfl, hi, _⟩ := HG.out i b hf
    have HF := Lib.hid (HM.out i hf)
    have HO1 := Lib.hid (HO.out.keep b1')
    have B1 := Lib.hid (b1'.mono hbw)
    clear hf b1'
    go_wp2_with fail
    refine (del_any l base i _ w1 HO1.out hi).mono ?_
    rintro e w2 ⟨v2, rfl, ho2, b2⟩
    obtain ⟨ga, gn, gc, rfl⟩ := own_slice ho2
    have HG := Lib.hid (show StepOut w base (without l n) 0 (.returned (.tuple #[.slice ga gn gc, .int .i64 0])) w2 from StepOut.yes (by rw [HF.out]; exact ho2) (B1.out.trans b2))
    clear ho2 b2
    go_wp2_with fail
    go_ret2
    exact HG.out

end Go.Proofs.Ytbkiecjbjehaoaa.Dsk
