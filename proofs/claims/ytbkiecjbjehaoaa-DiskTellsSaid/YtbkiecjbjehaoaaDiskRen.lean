/-
  What the step of disk's Rename answers.
-/
import Derived.Test.YtbkiecjbjehaoaaDiskStep
namespace Go.Proofs.Ytbkiecjbjehaoaa.Dsk
open Go.RowKit Go.Proofs.Ytbkiecjbjehaoaa.Dp

/-- slices.Delete, and what of other blocks: nothing. -/
theorem del_more (l : List Fl) (base i : Nat) (v : Value) (w : World) (ho : OwnL FL w base v l) (hi : i < l.length) :
    Calls Try.prog 53 #[v, .int .i64 (i : Int), .int .i64 ((i : Int) + 1)] w fun e w' => OutL FL w base (l.take i ++ l.drop (i + 1)) e w' ∧ ∀ k, v.ownBlock ≠ some k → w'.heap[k]? = w.heap[k]? := by
  obtain ⟨g, cap, cur, rfl, hb, hg, hc, hm, hs, ht⟩ := own_open ho (by omega)
  refine (del_row l.length cap i (i + 1) g cur (FL.vals l) w rfl (by omega) hc hg hs ht (FL.vals_cells l)).mono ?_
  rintro e w' ⟨rfl, rfl⟩
  have hgd : w.drew.heap[g]? = some (.cells cur 43 (0, 0)) := hg
  have hD : ((FL.vals l).drop ((i + 1) * 3)).length = (l.length - (i + 1)) * 3 := by rw [List.length_drop, vals_len]; omega
  have h1 := setCells_heap (o := i * 3) (vs := (FL.vals l).drop ((i + 1) * 3)) hgd (by omega)
  have hz : noughts.length = 3 := rfl
  have hs1 := splice_size (cur := cur) (o := i * 3) (vs := (FL.vals l).drop ((i + 1) * 3)) (by omega)
  have h2 := setCells_heap (o := (i + (l.length - (i + 1))) * 3) (vs := noughts) h1 (by omega)
  have e1 : (l.take i ++ l.drop (i + 1)).length = i + (l.length - (i + 1)) := by simp; omega
  refine ⟨⟨_, rfl, ?_, (bel_setCells hb _ _ w.drew).trans (bel_setCells hb _ _ _) |> fun h => ⟨h.os, h.tape, h.output, h.size, h.block⟩⟩, fun k hk => ?_⟩
  · rw [← e1]
    refine own_mk hb (by rw [e1]; exact h2) (by omega) hm (by rw [splice_size (by omega), hs1]; exact hs) ?_
    rw [e1, splice_front (by omega) _ (Nat.le_refl _), splice_take (by omega) _ (by omega), FL.vals_append, ← vals_take, ← vals_drop, ← ht, List.take_take, Nat.min_eq_left (by omega)]
  · have hkg : k ≠ g := fun e => hk (by rw [e]; rfl)
    rw [setCells_row g _ _ _ _ _ h1 (by omega), setRow_other _ _ _ _ hkg, setCells_row g _ _ _ _ _ hgd (by omega), setRow_other _ _ _ _ hkg]
    rfl

set_option maxRecDepth 100000 in
set_option maxHeartbeats 1600000 in
theorem rename1_no (n m : ByteArray) (l : List Fl) (base : Nat) (v : Value) (b1 b2 : Nat) (w : World) (hm : m.size ≤ 9223372036854775807) (h1 : w.cell? ⟨b1, 0, none⟩ = some (.string n)) (h2 : w.cell? ⟨b2, 0, none⟩ = some (.string m)) (ho : OwnL FL w base v l) (hbw : base ≤ w.heap.size) (hu : Up l) (hl : l.length ≤ 1000000000) (hb : ∀ x ∈ l, FlB x) (own : Int)
    (hown : (own = 7 ∧ get l n = none) ∨ (own = 1 ∧ get l n ≠ none ∧ ¬ Named m)) :
    Calls Try.prog 51 #[v, .pointer (some ⟨b1, 0, none⟩), .pointer (some ⟨b2, 0, none⟩)] w (StepOut w base [] own) := by
  obtain ⟨va, vn, vc, rfl⟩ := own_slice ho
  have F := Lib.hid (find_any _ l n w hu (by omega) (ho.is (by unfold maxLen; omega) hb))
  rcases hown with ⟨rfl, hg⟩ | ⟨rfl, hg, hN⟩
  · have HG := Lib.hid fun i b (h : FoundF l n i b) => found_no h hu hg
    clear ho hu hl hb hg
    go_enter Try.func51, Try.ntmps51
    go_wp2_with fail
    refine F.out.mono ?_
    rintro e w1 ⟨i, b, rfl, hf, b1'⟩
    obtain rfl := HG.out i b hf
    have HB := Lib.hid (b1'.mono hbw)
    clear hf b1'
    go_wp2_with fail
    go_ret2
    exact StepOut.no _ _ _ (by decide) HB.out
  · obtain ⟨f0, hf0⟩ := Option.ne_none_iff_exists'.1 hg
    have HG := Lib.hid fun i b (h : FoundF l n i b) => (found_yes h hu hf0).1
    have M := fun W : World => mayName_any m W hm
    rw [decide_eq_false hN] at M
    have M := Lib.hid M
    clear ho hu hl hb hg hf0 hN
    go_enter Try.func51, Try.ntmps51
    go_wp2_with fail
    refine F.out.mono ?_
    rintro e w1 ⟨i, b, rfl, hf, b1'⟩
    obtain rfl := HG.out i b hf
    have x2 : w1.cell? ⟨b2, 0, none⟩ = some (.string m) := by rw [b1'.cell (p := ⟨b2, 0, none⟩) (block_lt_of_cell h2)]; exact h2
    have HB := Lib.hid (b1'.mono hbw)
    clear hf b1'
    go_wp2_with fail
    refine (M.out _).mono ?_
    rintro e w1 ⟨rfl, rfl⟩
    go_wp2_with fail
    go_ret2
    exact StepOut.no _ _ _ (by decide) HB.out

set_option maxRecDepth 100000 in
set_option maxHeartbeats 1000000 in
theorem rename1_yes (n m : ByteArray) (l : List Fl) (base : Nat) (v : Value) (b1 b2 : Nat) (w : World) (hm : m.size ≤ 9223372036854775807) (h1 : w.cell? ⟨b1, 0, none⟩ = some (.string n)) (h2 : w.cell? ⟨b2, 0, none⟩ = some (.string m)) (ho : OwnL FL w base v l) (hbw : base ≤ w.heap.size) (hu : Up l) (hl : l.length ≤ 1000000000) (hb : ∀ x ∈ l, FlB x)
    (f : Fl) (hg : get l n = some f) (hN : Named m) :
    Calls Try.prog 51 #[v, .pointer (some ⟨b1, 0, none⟩), .pointer (some ⟨b2, 0, none⟩)] w (StepOut w base (withF (without l n) ⟨m, f.d, f.s⟩) 0) := by
  obtain ⟨va, vn, vc, rfl⟩ := own_slice ho
  have F := Lib.hid (find_any _ l n w hu (by omega) (ho.is (by unfold maxLen; omega) hb))
  have HG := Lib.hid fun i b (h : FoundF l n i b) => found_yes h hu hg
  have M := fun W : World => mayName_any m W hm
  rw [decide_eq_true hN] at M
  have M := Lib.hid M
  have hwl : (without l n).length ≤ l.length := List.length_filter_le _ _
  have P := Lib.hid fun (W : World) (v' : Value) (h : OwnL FL W base v' (without l n)) (hB : base ≤ W.heap.size) => put_any (without l n) base v' ⟨m, f.d, f.s⟩ W h hB (hu.without n) (by omega) (fun x hx => hb x (mem_without.1 hx).1)
  have D := Lib.hid fun (i : Nat) (W : World) (h : OwnL FL W base (.slice va vn vc) l) (hi : i < l.length) => del_more l base i _ W h hi
  have HM := Lib.hid fun i (h : FoundF l n i true) => h.wo hu
  have HO := Lib.hid ho
  clear ho hu hb hg hN hwl hm
  go_enter Try.func51, Try.ntmps51
  go_wp2_with fail
  refine F.out.mono ?_
  rintro e w1 ⟨i, b, rfl, hf, b1'⟩
  obtain ⟨rfl, hi, hfe⟩ := HG.out i b hf
  have HF := HM.out i hf
  have D := D.out i
  rw [← HF] at D
  have x2 : w1.cell? ⟨b2, 0, none⟩ = some (.string m) := by rw [b1'.cell (p := ⟨b2, 0, none⟩) (block_lt_of_cell h2)]; exact h2
  have l2 := block_lt_of_cell x2
  have HO1 := HO.out.keep b1'
  have B1 := Lib.hid (b1'.mono hbw)
  have hbw1 := Nat.le_trans hbw b1'.size
  obtain ⟨gb, cap, cur, he, hgb, hgc, hcl, hcm, hcs, hct⟩ := own_open HO1 (by omega)
  injection he with e1 e2 e3
  subst e1 e2 e3
  have hci := fun j u (hj : (FL.vals l)[j]? = some u) => World.ownsRow.cells HO1 (g := gb) rfl j u hj
  have k0 := hci (i * 3 + 0) _ (FL.vals_get l i 0 hi (by decide))
  have k1 := hci (i * 3 + 1) _ (FL.vals_get l i 1 hi (by decide))
  have k2 := hci (i * 3 + 2) _ (FL.vals_get l i 2 hi (by decide))
  rw [addr_plain] at k0 k1 k2
  change w1.cell? _ = some (.string (l.getD i zero).n) at k0
  change w1.cell? _ = some (.string (l.getD i zero).d) at k1
  change w1.cell? _ = some (.int .i64 (l.getD i zero).s) at k2
  rw [hfe] at k0 k1 k2
  simp only [Nat.zero_add, Nat.add_zero] at k0 k1 k2
  have hgl := block_lt_of_cell k0
  have HO3 := Lib.hid (HO1.alloc (.cells #[.string m, .string f.d, .int .i64 f.s] 43))
  have G3 := Lib.hid (heap_alloc_new w1 (.cells #[.string m, .string f.d, .int .i64 f.s] 43))
  have B3 := Lib.hid (B1.out.alloc hbw1 (.cells #[.string m, .string f.d, .int .i64 f.s] 43))
  have S3 := Lib.hid (show base ≤ (w1.alloc (.cells #[.string m, .string f.d, .int .i64 f.s] 43)).heap.size from Nat.le_trans hbw1 (by simp))
  have DD := Lib.hid fun W h => D W h hi
  clear hf b1' hci hfe hgc hct hcs HO1 D HF hgb
  obtain ⟨len, hlen⟩ : ∃ len, l.length = len := ⟨_, rfl⟩
  rw [hlen] at hi hl hcl DD F HO HO3 ⊢
  have HL := Lib.hid hlen
  clear hlen
  go_wp2_with fail
  refine (M.out _).mono ?_
  rintro e w1' ⟨rfl, rfl⟩
  go_wp2_with fail
  generalize w1.alloc _ = w3 at HO3 G3 B3 S3 ⊢
  have hne : gb ≠ w1.heap.size := by omega
  have hneO : (Value.slice (some ⟨gb, 0, none⟩) len vc).ownBlock ≠ some w1.heap.size := fun e => hne (by injection e)
  obtain ⟨d0, d1, d2⟩ := cells3 G3.out
  have HNE := Lib.hid hneO
  have hw1 : IntKind.i64.wrap ((i : Int) + 1) = (i : Int) + 1 := by rw [IntKind.wrap_i64]; omega
  clear hneO hne
  go_region_with (first | (go_at_call 53; refine (DD.out _ (HO3.out.keep (Below.refl _ _).drew)).mono ?_; rintro e w4 ⟨⟨v2, rfl, ho2, b2⟩, hk2⟩; obtain ⟨x0, x1, x2'⟩ := cells3 ((hk2 _ HNE.out).trans G3.out); have HO4 := Lib.hid ho2; have B4 := Lib.hid (B3.out.drew.trans b2); have S4 := Lib.hid (Nat.le_trans S3.out b2.size); clear ho2 b2 hk2) | (go_at_call 52; refine (P.out _ _ HO4.out S4.out).mono ?_; rintro e w5 ⟨v3, rfl, ho3, b3⟩; obtain ⟨ga, gn, gc, rfl⟩ := own_slice ho3; have HG5 := Lib.hid (show StepOut w base (withF (without l n) ⟨m, f.d, f.s⟩) 0 (.returned (.tuple #[.slice ga gn gc, .int .i64 0])) w5 from StepOut.yes ho3 (B4.out.trans b3)); clear ho3 b3))
  all_goals
    go_wp2_with fail
    go_ret2
    exact HG5.out

end Go.Proofs.Ytbkiecjbjehaoaa.Dsk
