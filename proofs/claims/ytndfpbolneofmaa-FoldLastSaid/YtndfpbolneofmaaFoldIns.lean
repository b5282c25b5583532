/-
  What slices.Insert makes of a state of the call's own: one pair more at one place. Three roads: at the end; where there is room; where there is none.
-/
import Derived.Test.YtndfpbolneofmaaFoldDel
import Derived.Shelf.Spec.SlicesInsert
import Derived.Lib.AppendZerosOnto
namespace Go.Proofs.Ytndfpbolneofmaa
open Go.RowKit Go.Lib

/-- What an operation on a state of the call's own leaves. -/
def OwnOut (w : World) (base : Nat) (l : List Fp.Pr) (e : Ending) (w' : World) : Prop := ∃ v, e = .returned v ∧ Own w' base v l ∧ Below base w w'
theorem OwnOut.mk {w w' : World} {base : Nat} {l : List Fp.Pr} {v : Value} (h : Own w' base v l) (hb : Below base w w') : OwnOut w base l (.returned v) w' := ⟨v, rfl, h, hb⟩

theorem shape_row {w : World} {g : Nat} {cur : Array Value} {t : TypeId} (hg : w.heap[g]? = some (.cells cur t (0, 0))) : w.shape? g = some (t, cur.size) := by unfold World.shape?; rw [hg]

theorem del_any (l : List Fp.Pr) (base i : Nat) (v : Value) (w : World) (ho : Own w base v l) (hi : i < l.length) :
    Calls Try.prog 29 #[v, .int .i64 (i : Int), .int .i64 ((i : Int) + 1)] w (OwnOut w base (l.take i ++ l.drop (i + 1))) := by
  obtain ⟨g, cap, cur, rfl, hb, hg, hc, hm, hs, ht⟩ := ho.open_ (by omega)
  refine (del_row l.length cap i (i + 1) g cur (prVals l) w rfl (by omega) hc hg hs ht (prVals_one l)).mono ?_
  rintro e w' ⟨rfl, rfl⟩
  have hgd : w.drew.heap[g]? = some (.cells cur 40 (0, 0)) := hg
  have hD : ((prVals l).drop ((i + 1) * 2)).length = (l.length - (i + 1)) * 2 := by rw [List.length_drop, prVals_len]; omega
  have h1 := setCells_heap (o := i * 2) (vs := (prVals l).drop ((i + 1) * 2)) hgd (by omega)
  have hz : noughts.length = 2 := rfl
  have hs1 := splice_size (cur := cur) (o := i * 2) (vs := (prVals l).drop ((i + 1) * 2)) (by omega)
  have h2 := setCells_heap (o := (i + (l.length - (i + 1))) * 2) (vs := noughts) h1 (by omega)
  have e1 : (l.take i ++ l.drop (i + 1)).length = i + (l.length - (i + 1)) := by simp; omega
  refine ⟨_, rfl, ?_, (bel_setCells hb _ _ w.drew).trans (bel_setCells hb _ _ _) |> fun h => ⟨h.os, h.tape, h.output, h.size, h.block⟩⟩
  rw [← e1]
  refine Own.mk hb (by rw [e1]; exact h2) (by omega) hm (by rw [splice_size (by omega), hs1]; exact hs) ?_
  rw [e1, splice_front (by omega) _ (Nat.le_refl _), splice_take (by omega) _ (by omega), prVals_append, ← prVals_take, ← prVals_drop, ← ht, List.take_take, Nat.min_eq_left (by omega)]

set_option maxHeartbeats 1600000 in
set_option maxRecDepth 100000 in
theorem ins_end (l : List Fp.Pr) (base : Nat) (v : Value) (k : UInt8) (s : ByteArray) (vb : Nat) (w : World) (ho : Own w base v l) (hl : l.length ≤ 256) (hbw : base ≤ w.heap.size)
    (hv : w.heap[vb]? = some (.cells #[.int .u8 (k.toNat : Int), .string s] 40 (0, 0))) :
    Calls Try.prog 30 #[v, .int .i64 (l.length : Int), .slice (some ⟨vb, 0, none⟩) 1 1] w (OwnOut w base (l ++ [⟨k, s⟩])) := by
  obtain ⟨i0, hi0, hz0, hz1, hz2⟩ := info_parts info_pr
  have HO := Lib.hid ho
  have HF : Hid (∀ v' w3, w3.ownsRow base 40 2 v' (l.length + 1) (prVals l ++ [.int .u8 (k.toNat : Int), .string s]) → w.grownBy w3 v.ownBlock → OwnOut w base (l ++ [⟨k, s⟩]) (.returned v') w3) := by
    intro v' w3 h hg
    refine OwnOut.mk ?_ ((Below.refl _ _).grown hg hbw (fun q hq => (World.ownsRow.lt HO.out q hq).1))
    unfold Own
    rw [prVals_snoc, List.length_append]
    exact h
  have hnews : Hid (∀ (j : Nat) (u : Value), ([.int .u8 (k.toNat : Int), .string s] : List Value)[j]? = some u → w.cell? ((⟨vb, 0, none⟩ : Addr).add j) = some u) := by
    intro j u h
    rw [addr_plain, row_cell hv]
    simpa using h
  rcases ho.2 with ⟨rfl, h0⟩ | ⟨g, cap, cur, rfl, hb, hg, hc, hm, hs, ht⟩
  · have hl0 : l.length = 0 := h0
    have HO' : Hid (w.ownsRow base 40 2 (.slice none 0 0) l.length (prVals l)) := HO
    generalize prVals l = xs at *
    generalize l.length = len at *
    subst h0
    clear ho HO
    go_enter Try.func30, Try.ntmps30
    go_wp2_with (at_builtin; refine wpList_append_own _ rfl _ _ 22 rfl base 40 i0 (.agg #[.int .u8 0, .string ByteArray.empty]) 2 24 Try.underlying22 hi0 hz0 hz1 hz2 rfl (by decide) _ _ _ rfl HO'.out ⟨vb, 0, none⟩ 1 1 [.int .u8 (k.toNat : Int), .string s] rfl rfl hnews.out (by simp [Value.oneCell']) (by unfold maxLen; omega) (by omega) hbw ?_; intro v' w3 hown' hgrow3 hnil3)
    go_ret
    exact HF.out v' w3 hown' hgrow3
  · have HO' : Hid (w.ownsRow base 40 2 (.slice (some ⟨g, 0, none⟩) l.length cap) l.length (prVals l)) := HO
    generalize prVals l = xs at *
    generalize l.length = len at *
    clear ho HO ht hg hs
    unfold maxLen at hm
    go_enter Try.func30, Try.ntmps30
    go_wp2_with (at_builtin; refine wpList_append_own _ rfl _ _ 22 rfl base 40 i0 (.agg #[.int .u8 0, .string ByteArray.empty]) 2 24 Try.underlying22 hi0 hz0 hz1 hz2 rfl (by decide) _ _ _ rfl HO'.out ⟨vb, 0, none⟩ 1 1 [.int .u8 (k.toNat : Int), .string s] rfl rfl hnews.out (by simp [Value.oneCell']) (by unfold maxLen; omega) (by omega) hbw ?_; intro v' w3 hown' hgrow3 hnil3)
    all_goals
      go_ret
      exact HF.out v' w3 hown' hgrow3

/-- Copies of two runs of cells, one behind the other. -/
theorem splice_two {cur : Array Value} {a b : Nat} {vs D : List Value} (hab : a + vs.length = b) (hf : b + D.length ≤ cur.size) (n : Nat) (hn : n = b + D.length) : (splice (splice cur b D) a vs).toList.take n = cur.toList.take a ++ vs ++ D := by
  subst hn
  have e1 : (splice cur b D).toList.take a = cur.toList.take a := splice_front (by omega) a (by omega)
  have e2 : (splice cur b D).toList.drop (a + vs.length) = D ++ cur.toList.drop (b + D.length) := by
    rw [hab]
    unfold splice
    show (cur.toList.take b ++ D ++ cur.toList.drop (b + D.length)).drop b = _
    rw [List.append_assoc, List.drop_left' (by rw [List.length_take, Array.length_toList]; omega)]
  unfold splice at *
  show ((cur.toList.take b ++ D ++ cur.toList.drop (b + D.length)).toArray.toList.take a ++ vs ++ (cur.toList.take b ++ D ++ cur.toList.drop (b + D.length)).toArray.toList.drop (a + vs.length)).take (b + D.length) = _
  rw [e1, e2, ← List.append_assoc, List.take_left']
  simp only [List.length_append, List.length_take, Array.length_toList]
  omega
/-- .. the other way round. -/
theorem splice_two' {cur : Array Value} {a b : Nat} {vs D : List Value} (hab : a + vs.length = b) (hf : b + D.length ≤ cur.size) (n : Nat) (hn : n = b + D.length) : (splice (splice cur a vs) b D).toList.take n = cur.toList.take a ++ vs ++ D := by
  rw [splice_take (by rw [splice_size (by omega)]; omega) n hn, splice_take (by omega) b hab.symm]

theorem mixed_pr : Try.prog.follows Departure.mixedOrders = true := by kernel_rfl
theorem size_pr : (Try.prog.info? 40).map (·.size) = some 2 := by kernel_rfl

set_option maxHeartbeats 4000000 in
set_option maxRecDepth 100000 in
theorem ins_shift (n cap i m g vb : Nat) (cur : Array Value) (xs vs : List Value) (w : World) (hm1 : m = 1) (hi : i < n) (hroom : n + m ≤ cap) (hc63 : cap ≤ 9223372036854775807) (hvb : vb ≠ g)
    (hg : w.heap[g]? = some (.cells cur 40 (0, 0))) (hs : cur.size = cap * 2) (ht : cur.toList.take (n * 2) = xs) (h1 : ∀ u ∈ xs, u.oneCell' = true)
    (hv : w.heap[vb]? = some (.cells vs.toArray 40 (0, 0))) (hvl : vs.length = 2) (h1v : ∀ u ∈ vs, u.oneCell' = true) :
    Calls Try.prog 30 #[.slice (some ⟨g, 0, none⟩) n cap, .int .i64 (i : Int), .slice (some ⟨vb, 0, none⟩) m m] w fun e w' =>
      e = .returned (.slice (some ⟨g, 0, none⟩) (n + m) cap) ∧ w' = (w.drew.setCells g ((i + m) * 2) (xs.drop (i * 2))).setCells g (i * 2) vs := by
  have mixed := mixed_pr
  have hxl : xs.length = n * 2 := by rw [← ht, List.length_take, Array.length_toList]; omega
  have hdl : (xs.drop (i * 2)).length = (n - i) * 2 := by rw [List.length_drop, hxl]; omega
  have hgd : w.drew.heap[g]? = some (.cells cur 40 (0, 0)) := hg
  have hov : ∀ lb cb, (callFunc 32 #[.slice (some ⟨vb, 0, none⟩) m m, .slice (some ⟨g, (i + m) * 2, none⟩) lb cb]).run Try.prog w = .ok (.value (.bool false)) w := fun lb cb => by
    rw [run_callFunc_extern Try.func32 (by kernel_rfl) (by kernel_rfl) (by kernel_rfl) (e := Extern.SlicesOverlaps.overlaps #[22, 22] #[4]) (by kernel_rfl),
      Lib.run_overlaps_apart w 22 4 40 Try.underlying22 2 (fun w => by kernel_rfl) ⟨vb, 0, none⟩ ⟨g, (i + m) * 2, none⟩ m m lb cb hvb _ _ _ _ (shape_row hv) (shape_row hg) (by rw [hs]; omega) (frozen_of_row w vb 0 _ _ hv) (frozen_of_row w vb _ _ _ hv)]
    rfl
  have hcp1 : ∀ ty dc sc, (Builtin.copy_ #[22, 22] ty #[.slice (some ⟨g, (i + m) * 2, none⟩) (n + m - (i + m)) dc, .slice (some ⟨g, i * 2, none⟩) (n + m - i) sc]).run Try.prog w.drew = .ok (goInt ((n - i : Nat) : Int)) (w.drew.setCells g ((i + m) * 2) (xs.drop (i * 2))) := by
    intro ty dc sc
    have e : Nat.min (n + m - i) (n + m - (i + m)) = n - i := by show min _ _ = _; omega
    have := run_copy_wide (P := Try.prog) w.drew 22 22 ty 40 2 g ((i + m) * 2) (n + m - (i + m)) dc ⟨g, i * 2, none⟩ (n + m - i) sc (xs.drop (i * 2)) Try.underlying22 size_pr (by rw [e, hdl])
      (fun j v hj => by rw [addr_plain]; exact row_part hgd ht j v hj) (fun j hj => row_some hgd _ (by omega)) (fun u hu => h1 u (List.mem_of_mem_drop hu))
    rw [e] at this
    exact this
  obtain ⟨W1, hW1⟩ : ∃ W1, W1 = w.drew.setCells g ((i + m) * 2) (xs.drop (i * 2)) := ⟨_, rfl⟩
  have hg1 : W1.heap[g]? = some (.cells (splice cur ((i + m) * 2) (xs.drop (i * 2))) 40 (0, 0)) := by rw [hW1]; exact setCells_heap hgd (by omega)
  have hsz1 : (splice cur ((i + m) * 2) (xs.drop (i * 2))).size = cap * 2 := by rw [splice_size (by omega)]; exact hs
  have hv1 : W1.heap[vb]? = some (.cells vs.toArray 40 (0, 0)) := by
    rw [hW1, setCells_row g _ _ _ cur w.drew hgd (by omega), setRow_other _ _ _ _ hvb]
    exact hv
  have hcp2 : ∀ (W : World), W.heap = W1.heap → ∀ ty dc, (Builtin.copy_ #[22, 22] ty #[.slice (some ⟨g, i * 2, none⟩) (n + m - i) dc, .slice (some ⟨vb, 0, none⟩) m m]).run Try.prog W = .ok (goInt m) (W.setCells g (i * 2) vs) := by
    intro W hW ty dc
    have e : Nat.min m (n + m - i) = m := by show min _ _ = _; omega
    rw [← hW] at hg1 hv1
    have := run_copy_wide (P := Try.prog) W 22 22 ty 40 2 g (i * 2) (n + m - i) dc ⟨vb, 0, none⟩ m m vs Try.underlying22 size_pr (by rw [e, hvl]; omega)
      (fun j v hj => by rw [addr_plain, row_cell hv1]; simpa using hj) (fun j hj => row_some hg1 _ (by omega)) h1v
    rw [e] at this
    exact this
  have hm0 : 0 < m := by omega
  have hz1 : ¬ ((m : Int) = 0) := by omega
  have hz2 : ¬ ((i : Int) = (n : Int)) := by omega
  have hw1 : IntKind.i64.wrap ((i : Int) + (m : Int)) = (i : Int) + (m : Int) := by rw [IntKind.wrap_i64]; omega
  have hb1 : (0 : Int) ≤ (i : Int) + (m : Int) := by omega
  have hin : i ≤ n := by omega
  have htn : ((i : Int) + (m : Int)).toNat = i + m := by omega
  have hb2 : ¬ (cap = i + m) := by omega
  have hb3 : (i : Int) ≤ (n : Int) + (m : Int) := by omega
  have hb4 : ¬ (cap = i) := by omega
  have HW1 : Hid (W1 = w.drew.setCells g ((i + m) * 2) (xs.drop (i * 2))) := hW1
  rw [← hW1] at hcp1
  clear hg1 hsz1 hv1 hgd hg hv h1 h1v hvl hxl hdl ht hs hm1 hW1
  go_enter Try.func30, Try.ntmps30
  go_wp2_with (simp only [hov])
  go_region_law_o (refine step_copy_runI rfl _ _ 22 22 rfl _ _ (by simp [Act.eval, Act.put]) (by simp [Act.eval, Act.put]) (hcp1 _ _ _) ?_)
  go_wp2_with (at_builtin; refine wpList_copy_runI _ rfl _ _ 22 22 rfl _ _ rfl rfl (hcp2 _ rfl _ _) ?_)
  go_ret
  exact ⟨rfl, by rw [HW1.out]⟩

set_option maxHeartbeats 4000000 in
set_option maxRecDepth 100000 in
theorem ins_grow (n cap i m g vb : Nat) (cur : Array Value) (xs vs : List Value) (w : World) (hm1 : m = 1) (hi : i < n) (hnc : n ≤ cap) (hroom : cap < n + m) (hn : n ≤ 256)
    (hg : w.heap[g]? = some (.cells cur 40 (0, 0))) (hs : cur.size = cap * 2) (ht : cur.toList.take (n * 2) = xs) (h1 : ∀ u ∈ xs, u.oneCell' = true)
    (hv : w.heap[vb]? = some (.cells vs.toArray 40 (0, 0))) (hvl : vs.length = 2) (h1v : ∀ u ∈ vs, u.oneCell' = true) :
    Calls Try.prog 30 #[.slice (some ⟨g, 0, none⟩) n cap, .int .i64 (i : Int), .slice (some ⟨vb, 0, none⟩) m m] w fun e w' =>
      ∃ (G : Nat) (ROW : Array Value), n + m ≤ G ∧ G ≤ maxLen ∧ ROW.size = G * 2 ∧ ROW.toList.take (i * 2) = xs.take (i * 2) ∧ e = .returned (.slice (some ⟨w.heap.size, 0, none⟩) (n + m) G) ∧
      w' = (((w.alloc (.cells ROW 40)).drew.setCells w.heap.size (i * 2) vs).drew).setCells w.heap.size ((i + m) * 2) (xs.drop (i * 2)) := by
  have mixed := mixed_pr
  obtain ⟨i0, hi0, hz0, hzs, hzb⟩ := info_parts info_pr
  have hxl : xs.length = n * 2 := by rw [← ht, List.length_take, Array.length_toList]; omega
  have hdl : (xs.drop (i * 2)).length = (n - i) * 2 := by rw [List.length_drop, hxl]; omega
  have hbw : g < w.heap.size := (Array.getElem?_eq_some_iff.1 hg).1
  have hvw : vb < w.heap.size := (Array.getElem?_eq_some_iff.1 hv).1
  have hkk : (n : Int) + (m : Int) - (i : Int) = ((n + m - i : Nat) : Int) := by omega
  have hik : i + (n + m - i) = n + m := by omega
  have hold : (Builtin.firstCells i0.size i (.slice (some ⟨g, 0, none⟩) i cap)).run Try.prog w.drew = .ok (xs.take (i * 2)).toArray w.drew := by
    rw [hzs]
    refine run_firstCells_some w.drew 2 i ⟨g, 0, none⟩ i cap (xs.take (i * 2)) (by rw [List.length_take]; omega) (fun j v hj => ?_)
    rw [addr_plain]
    rw [List.getElem?_take] at hj
    split at hj
    · exact row_part (w := w.drew) (o := 0) hg ht j v (by simpa using hj)
    · cases hj
  obtain ⟨G, hG⟩ : ∃ G, G = grownCap w (n + m) cap 40 := ⟨_, rfl⟩
  have hGn : n + m ≤ G := by rw [hG]; exact grownCap_ge w _ _ _
  have hGm : G ≤ maxLen := by rw [hG]; exact grownCap_le_maxLen w (n + m) cap _ (by unfold maxLen; omega)
  obtain ⟨ROW, hROW⟩ : ∃ ROW : Array Value, ROW = (xs.take (i * 2)).toArray ++ Builtin.zeroCells (Value.agg #[.int .u8 0, .string ByteArray.empty]).cells (n + m - i) ++ Builtin.zeroCells (Value.agg #[.int .u8 0, .string ByteArray.empty]).cells (G - (n + m)) := ⟨_, rfl⟩
  have hzc : (Value.agg #[.int .u8 0, .string ByteArray.empty]).cells.size = 2 := rfl
  have hRs : ROW.size = G * 2 := by
    rw [hROW]
    simp only [Array.size_append, List.size_toArray, List.length_take, size_zeroCells, hzc, hxl]
    omega
  have hRt : ROW.toList.take (i * 2) = xs.take (i * 2) := by
    rw [hROW]
    simp only [Array.toList_append, List.append_assoc]
    exact List.take_left' (by rw [List.length_take, hxl]; omega)
  have hrz : ∀ ty, (Builtin.append_ #[22, 3] ty #[.slice (some ⟨g, 0, none⟩) i cap, .int .i64 ((n : Int) + (m : Int) - (i : Int))]).run Try.prog w =
      .ok (.slice (some ⟨w.heap.size, 0, none⟩) (n + m) G) (w.drew.alloc (.cells ROW 40)) := fun ty => by
    have h := Lib.run_append_grow_zeros w 22 3 ty 40 i0 _ .i64 .i64 Try.underlying22 Try.underlying3 hi0 hz0 (some ⟨g, 0, none⟩) i cap (xs.take (i * 2)) hold (n + m - i) (by omega) (by omega) (by omega) (by omega) (by rw [hzb]; omega) (by rw [hzb, hik]; exact growslice_fits hroom (by omega))
    rw [hik, ← hG, ← hROW] at h
    rw [hkk]
    exact h
  have HP : Hid (n + m ≤ G ∧ G ≤ maxLen ∧ ROW.size = G * 2 ∧ ROW.toList.take (i * 2) = xs.take (i * 2)) := ⟨hGn, hGm, hRs, hRt⟩
  obtain ⟨W1, hW1⟩ : ∃ W1, W1 = w.drew.alloc (.cells ROW 40) := ⟨_, rfl⟩
  have hN : W1.heap[w.heap.size]? = some (.cells ROW 40 (0, 0)) := by rw [hW1]; exact heap_alloc_new w.drew _
  have hO : ∀ b, b < w.heap.size → W1.heap[b]? = w.heap[b]? := fun b hb => by rw [hW1]; exact Below.heap_alloc w.drew _ b hb
  have hcpA : ∀ (W : World), W.heap = W1.heap → ∀ ty dc, (Builtin.copy_ #[22, 22] ty #[.slice (some ⟨w.heap.size, i * 2, none⟩) (n + m - i) dc, .slice (some ⟨vb, 0, none⟩) m m]).run Try.prog W = .ok (goInt m) (W.setCells w.heap.size (i * 2) vs) := by
    intro W hW ty dc
    have e : Nat.min m (n + m - i) = m := by show min _ _ = _; omega
    have hN' := hN
    have hv' := (hO vb hvw).trans hv
    rw [← hW] at hN' hv'
    have := run_copy_wide (P := Try.prog) W 22 22 ty 40 2 w.heap.size (i * 2) (n + m - i) dc ⟨vb, 0, none⟩ m m vs Try.underlying22 size_pr (by rw [e, hvl]; omega)
      (fun j v hj => by rw [addr_plain, row_cell hv']; simpa using hj) (fun j hj => row_some hN' _ (by omega)) h1v
    rw [e] at this
    exact this
  have hGi : ¬ (G = i) := by omega
  have hGim : ¬ (G = i + m) := by omega
  have hci : ¬ (cap = i) := by omega
  have hcpB : ∀ (W : World), W.heap = (W1.setCells w.heap.size (i * 2) vs).heap → ∀ ty dc sc, (Builtin.copy_ #[22, 22] ty #[.slice (some ⟨w.heap.size, (i + m) * 2, none⟩) (n + m - (i + m)) dc, .slice (some ⟨g, i * 2, none⟩) (n - i) sc]).run Try.prog W = .ok (goInt ((n - i : Nat) : Int)) (W.setCells w.heap.size ((i + m) * 2) (xs.drop (i * 2))) := by
    intro W hW ty dc sc
    have e : Nat.min (n - i) (n + m - (i + m)) = n - i := by show min _ _ = _; omega
    have hN' := setCells_heap (o := i * 2) (vs := vs) hN (by omega)
    have hsz' := splice_size (cur := ROW) (o := i * 2) (vs := vs) (by omega)
    have hg' : (W1.setCells w.heap.size (i * 2) vs).heap[g]? = some (.cells cur 40 (0, 0)) := by
      rw [setCells_row _ _ _ _ ROW W1 hN (by omega), setRow_other _ _ _ _ (by omega)]
      exact (hO g hbw).trans hg
    rw [← hW] at hN' hg'
    have := run_copy_wide (P := Try.prog) W 22 22 ty 40 2 w.heap.size ((i + m) * 2) (n + m - (i + m)) dc ⟨g, i * 2, none⟩ (n - i) sc (xs.drop (i * 2)) Try.underlying22 size_pr (by rw [e, hdl])
      (fun j v hj => by rw [addr_plain]; exact row_part hg' ht j v hj) (fun j hj => row_some hN' _ (by omega)) (fun u hu => h1 u (List.mem_of_mem_drop hu))
    rw [e] at this
    exact this
  subst hW1
  have hE1 : ((w.alloc (.cells ROW 40)).drew).heap = (w.drew.alloc (.cells ROW 40)).heap := rfl
  have hF1 : (((w.alloc (.cells ROW 40)).drew.setCells w.heap.size (i * 2) vs).drew).heap = ((w.drew.alloc (.cells ROW 40)).setCells w.heap.size (i * 2) vs).heap := rfl
  have hm0 : 0 < m := by omega
  have hz1 : ¬ ((m : Int) = 0) := by omega
  have hz2 : ¬ ((i : Int) = (n : Int)) := by omega
  have hz3 : (cap : Int) < (n : Int) + (m : Int) := by omega
  have hw1 : IntKind.i64.wrap ((i : Int) + (m : Int)) = (i : Int) + (m : Int) := by rw [IntKind.wrap_i64]; omega
  have hb1 : (0 : Int) ≤ (i : Int) + (m : Int) := by omega
  have hin : i ≤ n := by omega
  have htn : ((i : Int) + (m : Int)).toNat = i + m := by omega
  have hb3 : (i : Int) ≤ (n : Int) := by omega
  have hG63 : G ≤ 9223372036854775807 := by unfold maxLen at hGm; omega
  clear hkk hik hold hROW hG hRs hRt hg hv h1 h1v hvl hxl hdl ht hs hm1 hN hO hGm hzc
  go_enter Try.func30, Try.ntmps30
  go_wp2_with (first
    | (at_builtin; refine Lib.wpList_append_run _ rfl _ _ _ _ rfl _ _ rfl rfl _ _ (hrz _) ?_)
    | (at_builtin; refine wpList_copy_runI _ rfl _ _ 22 22 rfl _ _ rfl rfl (hcpA _ hE1 _ _) ?_)
    | (at_builtin; refine wpList_copy_runI _ rfl _ _ 22 22 rfl _ _ rfl rfl (hcpB _ rfl _ _ _) ?_))
  go_region_law_o (refine step_copy_runI rfl _ _ 22 22 rfl (.slice (some ⟨w.heap.size, (i + m) * 2, none⟩) (n + m - (i + m)) (G - (i + m))) (.slice (some ⟨g, i * 2, none⟩) (n - i) (cap - i)) (by simp [Act.eval, Act.put]) (by simp [Act.eval, Act.put]) (hcpB _ hF1 3 (G - (i + m)) (cap - i)) ?_)
  go_wp2
  go_ret
  exact ⟨G, ROW, HP.out.1, HP.out.2.1, HP.out.2.2.1, HP.out.2.2.2, rfl, rfl⟩

/-- slices.Insert of one pair, at any place of a state of the call's own. -/
theorem ins_any (l : List Fp.Pr) (base i : Nat) (v : Value) (k : UInt8) (s : ByteArray) (vb : Nat) (w : World) (ho : Own w base v l) (hi : i ≤ l.length) (hl : l.length ≤ 256) (hbw : base ≤ w.heap.size)
    (hv : w.heap[vb]? = some (.cells #[.int .u8 (k.toNat : Int), .string s] 40 (0, 0))) (hvo : v.ownBlock ≠ some vb) :
    Calls Try.prog 30 #[v, .int .i64 (i : Int), .slice (some ⟨vb, 0, none⟩) 1 1] w (OwnOut w base (l.take i ++ [⟨k, s⟩] ++ l.drop i)) := by
  rcases Nat.lt_or_ge i l.length with h | h
  · obtain ⟨g, cap, cur, rfl, hb, hg, hc, hm, hs, ht⟩ := ho.open_ (by omega)
    have hvb : vb ≠ g := fun e => hvo (by rw [e]; rfl)
    have e1 : (l.take i ++ [Fp.Pr.mk k s] ++ l.drop i).length = l.length + 1 := by simp; omega
    have e2 : prVals (l.take i ++ [⟨k, s⟩] ++ l.drop i) = (prVals l).take (i * 2) ++ [.int .u8 (k.toNat : Int), .string s] ++ (prVals l).drop (i * 2) := by rw [prVals_append, prVals_append, ← prVals_take, ← prVals_drop]; rfl
    have hD : ((prVals l).drop (i * 2)).length = (l.length - i) * 2 := by rw [List.length_drop, prVals_len]; omega
    have h1v : ∀ u ∈ ([.int .u8 (k.toNat : Int), .string s] : List Value), u.oneCell' = true := by intro u hu; simp at hu; rcases hu with rfl | rfl <;> rfl
    rcases Nat.lt_or_ge cap (l.length + 1) with hr | hr
    · refine (ins_grow l.length cap i 1 g vb cur (prVals l) [.int .u8 (k.toNat : Int), .string s] w rfl h hc hr hl hg hs ht (prVals_one l) hv rfl h1v).mono ?_
      rintro e w' ⟨G, ROW, hG, hGm, hRs, hRt, rfl, rfl⟩
      have h0 : ((w.alloc (.cells ROW 40)).drew).heap[w.heap.size]? = some (.cells ROW 40 (0, 0)) := heap_alloc_new w _
      have h1 := setCells_heap (o := i * 2) (vs := [.int .u8 (k.toNat : Int), .string s]) h0 (by simp; omega)
      have h1' : (((w.alloc (.cells ROW 40)).drew.setCells w.heap.size (i * 2) [.int .u8 (k.toNat : Int), .string s]).drew).heap[w.heap.size]? = some (.cells (splice ROW (i * 2) [.int .u8 (k.toNat : Int), .string s]) 40 (0, 0)) := h1
      have hs1 := splice_size (cur := ROW) (o := i * 2) (vs := [.int .u8 (k.toNat : Int), .string s]) (by simp; omega)
      have h2 := setCells_heap (o := (i + 1) * 2) (vs := (prVals l).drop (i * 2)) h1' (by omega)
      refine OwnOut.mk ?_ ?_
      · rw [← e1]
        refine Own.mk hbw h2 (by rw [e1]; exact hG) hGm (by rw [splice_size (by omega), hs1]; exact hRs) ?_
        rw [e1, splice_two' (by simp; omega) (by omega) _ (by omega), hRt, e2]
      · exact (((Below.refl _ w).alloc hbw _).drew.trans (bel_setCells hbw _ _ _)).drew.trans (bel_setCells hbw _ _ _)
    · refine (ins_shift l.length cap i 1 g vb cur (prVals l) [.int .u8 (k.toNat : Int), .string s] w rfl h hr (by unfold maxLen at hm; omega) hvb hg hs ht (prVals_one l) hv rfl h1v).mono ?_
      rintro e w' ⟨rfl, rfl⟩
      have h0 : w.drew.heap[g]? = some (.cells cur 40 (0, 0)) := hg
      have h1 := setCells_heap (o := (i + 1) * 2) (vs := (prVals l).drop (i * 2)) h0 (by omega)
      have hs1 := splice_size (cur := cur) (o := (i + 1) * 2) (vs := (prVals l).drop (i * 2)) (by omega)
      have h2 := setCells_heap (o := i * 2) (vs := [.int .u8 (k.toNat : Int), .string s]) h1 (by simp; omega)
      refine OwnOut.mk ?_ ?_
      · rw [← e1]
        refine Own.mk hb h2 (by rw [e1]; exact hr) hm (by rw [splice_size (by simp; omega), hs1]; exact hs) ?_
        rw [e1, splice_two (by simp; omega) (by omega) _ (by omega), e2, ← ht, List.take_take, Nat.min_eq_left (by omega)]
      · exact ((Below.refl _ w).drew.trans (bel_setCells hb _ _ _)).trans (bel_setCells hb _ _ _)
  · obtain rfl : i = l.length := by omega
    have e : l.take l.length ++ [⟨k, s⟩] ++ l.drop l.length = l ++ [⟨k, s⟩] := by simp
    rw [e]
    exact ins_end l base v k s vb w ho hl hbw hv

end Go.Proofs.Ytndfpbolneofmaa
