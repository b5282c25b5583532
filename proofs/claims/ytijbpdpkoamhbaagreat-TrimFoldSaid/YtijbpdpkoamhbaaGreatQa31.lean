/-
  Parts of what the laws of this seat stand on: FoldIns, FoldSearch.
-/
import Derived.Test.YtijbpdpkoamhbaaGreatQa1
import Derived.BigQuiet
import Derived.Deep.QuietTactic
import Derived.IntWalk
import Derived.Lib.AppendZerosOnto
import Derived.Shelf.Spec.SlicesInsert
import Derived.Test.YtijbpdpkoamhbaaGreatQa30
set_option maxRecDepth 100000
set_option maxHeartbeats 6400000
namespace Go.Proofs.YtijbpdpkoamhbaaGreat
section
open Go.RowKit Go.Lib
def OwnOut (w : World) (base : Nat) (l : List Fp.Pr) (e : Ending) (w' : World) : Prop := ∃ v, e = .returned v ∧ Own w' base v l ∧ Below base w w'
theorem OwnOut.mk {w w' : World} {base : Nat} {l : List Fp.Pr} {v : Value} (h : Own w' base v l) (hb : Below base w w') : OwnOut w base l (.returned v) w' := ⟨v, rfl, h, hb⟩
theorem del_any (l : List Fp.Pr) (base i : Nat) (v : Value) (w : World) (ho : Own w base v l) (hi : i < l.length) :
 Calls Tryz.prog 138 #[v, .int .i64 (i : Int), .int .i64 ((i : Int) + 1)] w (OwnOut w base (l.take i ++ l.drop (i + 1))) := by
 obtain ⟨g, cap, cur, rfl, hb, hg, hc, hm, hs, ht⟩ := ho.open_ (by omega)
 refine (del_row l.length cap i (i + 1) g cur (prVals l) w rfl (by omega) hc hg hs ht (prVals_one l)).mono ?_
 rintro e w' ⟨rfl, rfl⟩
 have hgd : w.drew.heap[g]? = some (.cells cur 88 (0, 0)) := hg
 have hD : ((prVals l).drop ((i + 1) * 2)).length = (l.length - (i + 1)) * 2 := by rw [List.length_drop, prVals_len]; omega
 have h1 := setCells_heap (o := i * 2) (vs := (prVals l).drop ((i + 1) * 2)) hgd (by omega)
 have hz : noughts.length = 2 := rfl
 have hs1 := splice_size (cur := cur) (o := i * 2) (vs := (prVals l).drop ((i + 1) * 2)) (by omega)
 have h2 := setCells_heap (o := (i + (l.length - (i + 1))) * 2) (vs := noughts) h1 (by omega)
 have e1 : (l.take i ++ l.drop (i + 1)).length = i + (l.length - (i + 1)) := by simp; omega
 refine ⟨_, rfl, ?_, (bel_setCells hb _ _ w.drew).trans (bel_setCells hb _ _ _) |> fun h => ⟨h.os, h.tape, h.output, h.size, h.block⟩⟩
 rw [← e1]
 refine Own.mk hb (by rw [e1]; exact h2) (by omega) hm (by rw [splice_size (by omega), hs1]; exact hs) ?_
 rw [e1, splice_front (by omega) _ (Nat.le_refl _), splice_take (by omega) _ (by omega), prVals_append, ← prVals_take, ← prVals_drop, ← ht, List.take_take, Nat.min_eq_left (by omega)]
theorem ins_end (l : List Fp.Pr) (base : Nat) (v : Value) (k : UInt8) (s : ByteArray) (vb : Nat) (w : World) (ho : Own w base v l) (hl : l.length ≤ 256) (hbw : base ≤ w.heap.size)
 (hv : w.heap[vb]? = some (.cells #[.int .u8 (k.toNat : Int), .string s] 88 (0, 0))) :
 Calls Tryz.prog 139 #[v, .int .i64 (l.length : Int), .slice (some ⟨vb, 0, none⟩) 1 1] w (OwnOut w base (l ++ [⟨k, s⟩])) := by
 obtain ⟨i0, hi0, hz0, hz1, hz2⟩ := info_parts info_pr
 have HO := zid ho
 have HF : Hid (∀ v' w3, w3.ownsRow base 88 2 v' (l.length + 1) (prVals l ++ [.int .u8 (k.toNat : Int), .string s]) → w.grownBy w3 v.ownBlock → OwnOut w base (l ++ [⟨k, s⟩]) (.returned v') w3) := by
  intro v' w3 h hg
  refine OwnOut.mk ?_ ((Below.refl _ _).grown hg hbw (fun q hq => (World.ownsRow.lt HO.out q hq).1))
  unfold Own
  rw [prVals_snoc, List.length_append]
  exact h
 have hnews : Hid (∀ (j : Nat) (u : Value), ([.int .u8 (k.toNat : Int), .string s] : List Value)[j]? = some u → w.cell? ((⟨vb, 0, none⟩ : Addr).add j) = some u) := by
  intro j u h
  rw [addr_plain, row_cell hv]
  simpa using h
 rcases ho.2 with ⟨rfl, h0⟩ | ⟨g, cap, cur, rfl, hb, hg, hc, hm, hs, ht⟩
 · have hl0 : l.length = 0 := h0
   have HO' : Hid (w.ownsRow base 88 2 (.slice none 0 0) l.length (prVals l)) := HO
   generalize prVals l = xs at *
   generalize l.length = len at *
   subst h0
   clear ho HO
   go_enter Tryz.func139, Tryz.ntmps139
   go_wp2_with (at_builtin; refine wpList_append_own _ rfl _ _ 43 rfl base 88 i0 (.agg #[.int .u8 0, .string ByteArray.empty]) 2 24 Tryz.underlying43 hi0 hz0 hz1 hz2 rfl (by decide) _ _ _ rfl HO'.out ⟨vb, 0, none⟩ 1 1 [.int .u8 (k.toNat : Int), .string s] rfl rfl hnews.out (by simp [Value.oneCell']) (by unfold maxLen; omega) (by omega) hbw ?_; intro v' w3 hown' hgrow3 hnil3)
   go_ret
   exact HF.out v' w3 hown' hgrow3
 · have HO' : Hid (w.ownsRow base 88 2 (.slice (some ⟨g, 0, none⟩) l.length cap) l.length (prVals l)) := HO
   generalize prVals l = xs at *
   generalize l.length = len at *
   clear ho HO ht hg hs
   unfold maxLen at hm
   go_enter Tryz.func139, Tryz.ntmps139
   go_wp2_with (at_builtin; refine wpList_append_own _ rfl _ _ 43 rfl base 88 i0 (.agg #[.int .u8 0, .string ByteArray.empty]) 2 24 Tryz.underlying43 hi0 hz0 hz1 hz2 rfl (by decide) _ _ _ rfl HO'.out ⟨vb, 0, none⟩ 1 1 [.int .u8 (k.toNat : Int), .string s] rfl rfl hnews.out (by simp [Value.oneCell']) (by unfold maxLen; omega) (by omega) hbw ?_; intro v' w3 hown' hgrow3 hnil3)
   all_goals
    go_ret
    exact HF.out v' w3 hown' hgrow3
theorem mixed_pr : Tryz.prog.follows Departure.mixedOrders = true := by kernel_rfl
theorem size_pr : (Tryz.prog.info? 88).map (·.size) = some 2 := by kernel_rfl
theorem ins_shift (n cap i m g vb : Nat) (cur : Array Value) (xs vs : List Value) (w : World) (hm1 : m = 1) (hi : i < n) (hroom : n + m ≤ cap) (hc63 : cap ≤ 9223372036854775807) (hvb : vb ≠ g)
 (hg : w.heap[g]? = some (.cells cur 88 (0, 0))) (hs : cur.size = cap * 2) (ht : cur.toList.take (n * 2) = xs) (h1 : ∀ u ∈ xs, u.oneCell' = true)
 (hv : w.heap[vb]? = some (.cells vs.toArray 88 (0, 0))) (hvl : vs.length = 2) (h1v : ∀ u ∈ vs, u.oneCell' = true) :
 Calls Tryz.prog 139 #[.slice (some ⟨g, 0, none⟩) n cap, .int .i64 (i : Int), .slice (some ⟨vb, 0, none⟩) m m] w fun e w' =>
  e = .returned (.slice (some ⟨g, 0, none⟩) (n + m) cap) ∧ w' = (w.drew.setCells g ((i + m) * 2) (xs.drop (i * 2))).setCells g (i * 2) vs := by
 have mixed := mixed_pr
 have hxl : xs.length = n * 2 := by rw [← ht, List.length_take, Array.length_toList]; omega
 have hdl : (xs.drop (i * 2)).length = (n - i) * 2 := by rw [List.length_drop, hxl]; omega
 have hgd : w.drew.heap[g]? = some (.cells cur 88 (0, 0)) := hg
 have hov : ∀ lb cb, (callFunc 161 #[.slice (some ⟨vb, 0, none⟩) m m, .slice (some ⟨g, (i + m) * 2, none⟩) lb cb]).run Tryz.prog w = .ok (.value (.bool false)) w := fun lb cb => by
  rw [run_callFunc_extern Tryz.func161 (by kernel_rfl) (by kernel_rfl) (by kernel_rfl) (e := Extern.SlicesOverlaps.overlaps #[43, 43] #[4]) (by kernel_rfl),
   Lib.run_overlaps_apart w 43 4 88 Tryz.underlying43 2 (fun w => by kernel_rfl) ⟨vb, 0, none⟩ ⟨g, (i + m) * 2, none⟩ m m lb cb hvb _ _ _ _ (shape_row hv) (shape_row hg) (by rw [hs]; omega) (frozen_of_row w vb 0 _ _ hv) (frozen_of_row w vb _ _ _ hv)]
  rfl
 have hcp1 : ∀ ty dc sc, (Builtin.copy_ #[43, 43] ty #[.slice (some ⟨g, (i + m) * 2, none⟩) (n + m - (i + m)) dc, .slice (some ⟨g, i * 2, none⟩) (n + m - i) sc]).run Tryz.prog w.drew = .ok (goInt ((n - i : Nat) : Int)) (w.drew.setCells g ((i + m) * 2) (xs.drop (i * 2))) := by
  intro ty dc sc
  have e : Nat.min (n + m - i) (n + m - (i + m)) = n - i := by show min _ _ = _; omega
  have := run_copy_wide (P := Tryz.prog) w.drew 43 43 ty 88 2 g ((i + m) * 2) (n + m - (i + m)) dc ⟨g, i * 2, none⟩ (n + m - i) sc (xs.drop (i * 2)) Tryz.underlying43 size_pr (by rw [e, hdl])
   (fun j v hj => by rw [addr_plain]; exact row_part hgd ht j v hj) (fun j hj => row_some hgd _ (by omega)) (fun u hu => h1 u (List.mem_of_mem_drop hu))
  rw [e] at this
  exact this
 obtain ⟨W1, hW1⟩ : ∃ W1, W1 = w.drew.setCells g ((i + m) * 2) (xs.drop (i * 2)) := ⟨_, rfl⟩
 have hg1 : W1.heap[g]? = some (.cells (splice cur ((i + m) * 2) (xs.drop (i * 2))) 88 (0, 0)) := by rw [hW1]; exact setCells_heap hgd (by omega)
 have hsz1 : (splice cur ((i + m) * 2) (xs.drop (i * 2))).size = cap * 2 := by rw [splice_size (by omega)]; exact hs
 have hv1 : W1.heap[vb]? = some (.cells vs.toArray 88 (0, 0)) := by
  rw [hW1, setCells_row g _ _ _ cur w.drew hgd (by omega), setRow_other _ _ _ _ hvb]
  exact hv
 have hcp2 : ∀ (W : World), W.heap = W1.heap → ∀ ty dc, (Builtin.copy_ #[43, 43] ty #[.slice (some ⟨g, i * 2, none⟩) (n + m - i) dc, .slice (some ⟨vb, 0, none⟩) m m]).run Tryz.prog W = .ok (goInt m) (W.setCells g (i * 2) vs) := by
  intro W hW ty dc
  have e : Nat.min m (n + m - i) = m := by show min _ _ = _; omega
  rw [← hW] at hg1 hv1
  have := run_copy_wide (P := Tryz.prog) W 43 43 ty 88 2 g (i * 2) (n + m - i) dc ⟨vb, 0, none⟩ m m vs Tryz.underlying43 size_pr (by rw [e, hvl]; omega)
   (fun j v hj => by rw [addr_plain, row_cell hv1]; simpa using hj) (fun j hj => row_some hg1 _ (by omega)) h1v
  rw [e] at this
  exact this
 have hm0 : 0 < m := by omega
 have hz1 : ¬ ((m : Int) = 0) := by omega
 have hz2 : ¬ ((i : Int) = (n : Int)) := by omega
 have hw1 : IntKind.i64.wrap ((i : Int) + (m : Int)) = (i : Int) + (m : Int) := by rw [IntKind.wrap_i64]; omega
 have hb1 : (0 : Int) ≤ (i : Int) + (m : Int) := by omega
 have hin : i ≤ n := by omega
 have htn : ((i : Int) + (m : Int)).toNat = i + m := by omega
 have hb2 : ¬ (cap = i + m) := by omega
 have hb3 : (i : Int) ≤ (n : Int) + (m : Int) := by omega
 have hb4 : ¬ (cap = i) := by omega
 have HW1 : Hid (W1 = w.drew.setCells g ((i + m) * 2) (xs.drop (i * 2))) := hW1
 rw [← hW1] at hcp1
 clear hg1 hsz1 hv1 hgd hg hv h1 h1v hvl hxl hdl ht hs hm1 hW1
 go_enter Tryz.func139, Tryz.ntmps139
 go_wp2_with (simp only [hov])
 go_region_law_o (refine step_copy_runI rfl _ _ 43 43 rfl _ _ (by simp [Act.eval, Act.put]) (by simp [Act.eval, Act.put]) (hcp1 _ _ _) ?_)
 go_wp2_with (at_builtin; refine wpList_copy_runI _ rfl _ _ 43 43 rfl _ _ rfl rfl (hcp2 _ rfl _ _) ?_)
 go_ret
 exact ⟨rfl, by rw [HW1.out]⟩
theorem ins_grow (n cap i m g vb : Nat) (cur : Array Value) (xs vs : List Value) (w : World) (hm1 : m = 1) (hi : i < n) (hnc : n ≤ cap) (hroom : cap < n + m) (hn : n ≤ 256)
 (hg : w.heap[g]? = some (.cells cur 88 (0, 0))) (hs : cur.size = cap * 2) (ht : cur.toList.take (n * 2) = xs) (h1 : ∀ u ∈ xs, u.oneCell' = true)
 (hv : w.heap[vb]? = some (.cells vs.toArray 88 (0, 0))) (hvl : vs.length = 2) (h1v : ∀ u ∈ vs, u.oneCell' = true) :
 Calls Tryz.prog 139 #[.slice (some ⟨g, 0, none⟩) n cap, .int .i64 (i : Int), .slice (some ⟨vb, 0, none⟩) m m] w fun e w' =>
  ∃ (G : Nat) (ROW : Array Value), n + m ≤ G ∧ G ≤ maxLen ∧ ROW.size = G * 2 ∧ ROW.toList.take (i * 2) = xs.take (i * 2) ∧ e = .returned (.slice (some ⟨w.heap.size, 0, none⟩) (n + m) G) ∧
  w' = (((w.alloc (.cells ROW 88)).drew.setCells w.heap.size (i * 2) vs).drew).setCells w.heap.size ((i + m) * 2) (xs.drop (i * 2)) := by
 have mixed := mixed_pr
 obtain ⟨i0, hi0, hz0, hzs, hzb⟩ := info_parts info_pr
 have hxl : xs.length = n * 2 := by rw [← ht, List.length_take, Array.length_toList]; omega
 have hdl : (xs.drop (i * 2)).length = (n - i) * 2 := by rw [List.length_drop, hxl]; omega
 have hbw : g < w.heap.size := (Array.getElem?_eq_some_iff.1 hg).1
 have hvw : vb < w.heap.size := (Array.getElem?_eq_some_iff.1 hv).1
 have hkk : (n : Int) + (m : Int) - (i : Int) = ((n + m - i : Nat) : Int) := by omega
 have hik : i + (n + m - i) = n + m := by omega
 have hold : (Builtin.firstCells i0.size i (.slice (some ⟨g, 0, none⟩) i cap)).run Tryz.prog w.drew = .ok (xs.take (i * 2)).toArray w.drew := by
  rw [hzs]
  refine run_firstCells_some w.drew 2 i ⟨g, 0, none⟩ i cap (xs.take (i * 2)) (by rw [List.length_take]; omega) (fun j v hj => ?_)
  rw [addr_plain]
  rw [List.getElem?_take] at hj
  split at hj
  · exact row_part (w := w.drew) (o := 0) hg ht j v (by simpa using hj)
  · cases hj
 obtain ⟨G, hG⟩ : ∃ G, G = grownCap w (n + m) cap 88 := ⟨_, rfl⟩
 have hGn : n + m ≤ G := by rw [hG]; exact grownCap_ge w _ _ _
 have hGm : G ≤ maxLen := by rw [hG]; exact grownCap_le_maxLen w (n + m) cap _ (by unfold maxLen; omega)
 obtain ⟨ROW, hROW⟩ : ∃ ROW : Array Value, ROW = (xs.take (i * 2)).toArray ++ Builtin.zeroCells (Value.agg #[.int .u8 0, .string ByteArray.empty]).cells (n + m - i) ++ Builtin.zeroCells (Value.agg #[.int .u8 0, .string ByteArray.empty]).cells (G - (n + m)) := ⟨_, rfl⟩
 have hzc : (Value.agg #[.int .u8 0, .string ByteArray.empty]).cells.size = 2 := rfl
 have hRs : ROW.size = G * 2 := by
  rw [hROW]
  simp only [Array.size_append, List.size_toArray, List.length_take, size_zeroCells, hzc, hxl]
  omega
 have hRt : ROW.toList.take (i * 2) = xs.take (i * 2) := by
  rw [hROW]
  simp only [Array.toList_append, List.append_assoc]
  exact List.take_left' (by rw [List.length_take, hxl]; omega)
 have hrz : ∀ ty, (Builtin.append_ #[43, 3] ty #[.slice (some ⟨g, 0, none⟩) i cap, .int .i64 ((n : Int) + (m : Int) - (i : Int))]).run Tryz.prog w =
  .ok (.slice (some ⟨w.heap.size, 0, none⟩) (n + m) G) (w.drew.alloc (.cells ROW 88)) := fun ty => by
  have h := Lib.run_append_grow_zeros w 43 3 ty 88 i0 _ .i64 .i64 Tryz.underlying43 Tryz.underlying3 hi0 hz0 (some ⟨g, 0, none⟩) i cap (xs.take (i * 2)) hold (n + m - i) (by omega) (by omega) (by omega) (by omega) (by rw [hzb]; omega) (by rw [hzb, hik]; exact growslice_fits hroom (by omega))
  rw [hik, ← hG, ← hROW] at h
  rw [hkk]
  exact h
 have HP : Hid (n + m ≤ G ∧ G ≤ maxLen ∧ ROW.size = G * 2 ∧ ROW.toList.take (i * 2) = xs.take (i * 2)) := ⟨hGn, hGm, hRs, hRt⟩
 obtain ⟨W1, hW1⟩ : ∃ W1, W1 = w.drew.alloc (.cells ROW 88) := ⟨_, rfl⟩
 have hN : W1.heap[w.heap.size]? = some (.cells ROW 88 (0, 0)) := by rw [hW1]; exact heap_alloc_new w.drew _
 have hO : ∀ b, b < w.heap.size → W1.heap[b]? = w.heap[b]? := fun b hb => by rw [hW1]; exact Below.heap_alloc w.drew _ b hb
 have hcpA : ∀ (W : World), W.heap = W1.heap → ∀ ty dc, (Builtin.copy_ #[43, 43] ty #[.slice (some ⟨w.heap.size, i * 2, none⟩) (n + m - i) dc, .slice (some ⟨vb, 0, none⟩) m m]).run Tryz.prog W = .ok (goInt m) (W.setCells w.heap.size (i * 2) vs) := by
  intro W hW ty dc
  have e : Nat.min m (n + m - i) = m := by show min _ _ = _; omega
  have hN' := hN
  have hv' := (hO vb hvw).trans hv
  rw [← hW] at hN' hv'
  have := run_copy_wide (P := Tryz.prog) W 43 43 ty 88 2 w.heap.size (i * 2) (n + m - i) dc ⟨vb, 0, none⟩ m m vs Tryz.underlying43 size_pr (by rw [e, hvl]; omega)
   (fun j v hj => by rw [addr_plain, row_cell hv']; simpa using hj) (fun j hj => row_some hN' _ (by omega)) h1v
  rw [e] at this
  exact this
 have hGi : ¬ (G = i) := by omega
 have hGim : ¬ (G = i + m) := by omega
 have hci : ¬ (cap = i) := by omega
 have hcpB : ∀ (W : World), W.heap = (W1.setCells w.heap.size (i * 2) vs).heap → ∀ ty dc sc, (Builtin.copy_ #[43, 43] ty #[.slice (some ⟨w.heap.size, (i + m) * 2, none⟩) (n + m - (i + m)) dc, .slice (some ⟨g, i * 2, none⟩) (n - i) sc]).run Tryz.prog W = .ok (goInt ((n - i : Nat) : Int)) (W.setCells w.heap.size ((i + m) * 2) (xs.drop (i * 2))) := by
  intro W hW ty dc sc
  have e : Nat.min (n - i) (n + m - (i + m)) = n - i := by show min _ _ = _; omega
  have hN' := setCells_heap (o := i * 2) (vs := vs) hN (by omega)
  have hsz' := splice_size (cur := ROW) (o := i * 2) (vs := vs) (by omega)
  have hg' : (W1.setCells w.heap.size (i * 2) vs).heap[g]? = some (.cells cur 88 (0, 0)) := by
   rw [setCells_row _ _ _ _ ROW W1 hN (by omega), setRow_other _ _ _ _ (by omega)]
   exact (hO g hbw).trans hg
  rw [← hW] at hN' hg'
  have := run_copy_wide (P := Tryz.prog) W 43 43 ty 88 2 w.heap.size ((i + m) * 2) (n + m - (i + m)) dc ⟨g, i * 2, none⟩ (n - i) sc (xs.drop (i * 2)) Tryz.underlying43 size_pr (by rw [e, hdl])
   (fun j v hj => by rw [addr_plain]; exact row_part hg' ht j v hj) (fun j hj => row_some hN' _ (by omega)) (fun u hu => h1 u (List.mem_of_mem_drop hu))
  rw [e] at this
  exact this
 subst hW1
 have hE1 : ((w.alloc (.cells ROW 88)).drew).heap = (w.drew.alloc (.cells ROW 88)).heap := rfl
 have hF1 : (((w.alloc (.cells ROW 88)).drew.setCells w.heap.size (i * 2) vs).drew).heap = ((w.drew.alloc (.cells ROW 88)).setCells w.heap.size (i * 2) vs).heap := rfl
 have hm0 : 0 < m := by omega
 have hz1 : ¬ ((m : Int) = 0) := by omega
 have hz2 : ¬ ((i : Int) = (n : Int)) := by omega
 have hz3 : (cap : Int) < (n : Int) + (m : Int) := by omega
 have hw1 : IntKind.i64.wrap ((i : Int) + (m : Int)) = (i : Int) + (m : Int) := by rw [IntKind.wrap_i64]; omega
 have hb1 : (0 : Int) ≤ (i : Int) + (m : Int) := by omega
 have hin : i ≤ n := by omega
 have htn : ((i : Int) + (m : Int)).toNat = i + m := by omega
 have hb3 : (i : Int) ≤ (n : Int) := by omega
 have hG63 : G ≤ 9223372036854775807 := by unfold maxLen at hGm; omega
 clear hkk hik hold hROW hG hRs hRt hg hv h1 h1v hvl hxl hdl ht hs hm1 hN hO hGm hzc
 go_enter Tryz.func139, Tryz.ntmps139
 go_wp2_with (first
  | (at_builtin; refine Lib.wpList_append_run _ rfl _ _ _ _ rfl _ _ rfl rfl _ _ (hrz _) ?_)
  | (at_builtin; refine wpList_copy_runI _ rfl _ _ 43 43 rfl _ _ rfl rfl (hcpA _ hE1 _ _) ?_)
  | (at_builtin; refine wpList_copy_runI _ rfl _ _ 43 43 rfl _ _ rfl rfl (hcpB _ rfl _ _ _) ?_))
 go_region_law_o (refine step_copy_runI rfl _ _ 43 43 rfl (.slice (some ⟨w.heap.size, (i + m) * 2, none⟩) (n + m - (i + m)) (G - (i + m))) (.slice (some ⟨g, i * 2, none⟩) (n - i) (cap - i)) (by simp [Act.eval, Act.put]) (by simp [Act.eval, Act.put]) (hcpB _ hF1 3 (G - (i + m)) (cap - i)) ?_)
 go_wp2
 go_ret
 exact ⟨G, ROW, HP.out.1, HP.out.2.1, HP.out.2.2.1, HP.out.2.2.2, rfl, rfl⟩
theorem ins_any (l : List Fp.Pr) (base i : Nat) (v : Value) (k : UInt8) (s : ByteArray) (vb : Nat) (w : World) (ho : Own w base v l) (hi : i ≤ l.length) (hl : l.length ≤ 256) (hbw : base ≤ w.heap.size)
 (hv : w.heap[vb]? = some (.cells #[.int .u8 (k.toNat : Int), .string s] 88 (0, 0))) (hvo : v.ownBlock ≠ some vb) :
 Calls Tryz.prog 139 #[v, .int .i64 (i : Int), .slice (some ⟨vb, 0, none⟩) 1 1] w (OwnOut w base (l.take i ++ [⟨k, s⟩] ++ l.drop i)) := by
 rcases Nat.lt_or_ge i l.length with h | h
 · obtain ⟨g, cap, cur, rfl, hb, hg, hc, hm, hs, ht⟩ := ho.open_ (by omega)
   have hvb : vb ≠ g := fun e => hvo (by rw [e]; rfl)
   have e1 : (l.take i ++ [Fp.Pr.mk k s] ++ l.drop i).length = l.length + 1 := by simp; omega
   have e2 : prVals (l.take i ++ [⟨k, s⟩] ++ l.drop i) = (prVals l).take (i * 2) ++ [.int .u8 (k.toNat : Int), .string s] ++ (prVals l).drop (i * 2) := by rw [prVals_append, prVals_append, ← prVals_take, ← prVals_drop]; rfl
   have hD : ((prVals l).drop (i * 2)).length = (l.length - i) * 2 := by rw [List.length_drop, prVals_len]; omega
   have h1v : ∀ u ∈ ([.int .u8 (k.toNat : Int), .string s] : List Value), u.oneCell' = true := by intro u hu; simp at hu; rcases hu with rfl | rfl <;> rfl
   rcases Nat.lt_or_ge cap (l.length + 1) with hr | hr
   · refine (ins_grow l.length cap i 1 g vb cur (prVals l) [.int .u8 (k.toNat : Int), .string s] w rfl h hc hr hl hg hs ht (prVals_one l) hv rfl h1v).mono ?_
     rintro e w' ⟨G, ROW, hG, hGm, hRs, hRt, rfl, rfl⟩
     have h0 : ((w.alloc (.cells ROW 88)).drew).heap[w.heap.size]? = some (.cells ROW 88 (0, 0)) := heap_alloc_new w _
     have h1 := setCells_heap (o := i * 2) (vs := [.int .u8 (k.toNat : Int), .string s]) h0 (by simp; omega)
     have h1' : (((w.alloc (.cells ROW 88)).drew.setCells w.heap.size (i * 2) [.int .u8 (k.toNat : Int), .string s]).drew).heap[w.heap.size]? = some (.cells (splice ROW (i * 2) [.int .u8 (k.toNat : Int), .string s]) 88 (0, 0)) := h1
     have hs1 := splice_size (cur := ROW) (o := i * 2) (vs := [.int .u8 (k.toNat : Int), .string s]) (by simp; omega)
     have h2 := setCells_heap (o := (i + 1) * 2) (vs := (prVals l).drop (i * 2)) h1' (by omega)
     refine OwnOut.mk ?_ ?_
     · rw [← e1]
       refine Own.mk hbw h2 (by rw [e1]; exact hG) hGm (by rw [splice_size (by omega), hs1]; exact hRs) ?_
       rw [e1, splice_two' (by simp; omega) (by omega) _ (by omega), hRt, e2]
     · exact (((Below.refl _ w).alloc hbw _).drew.trans (bel_setCells hbw _ _ _)).drew.trans (bel_setCells hbw _ _ _)
   · refine (ins_shift l.length cap i 1 g vb cur (prVals l) [.int .u8 (k.toNat : Int), .string s] w rfl h hr (by unfold maxLen at hm; omega) hvb hg hs ht (prVals_one l) hv rfl h1v).mono ?_
     rintro e w' ⟨rfl, rfl⟩
     have h0 : w.drew.heap[g]? = some (.cells cur 88 (0, 0)) := hg
     have h1 := setCells_heap (o := (i + 1) * 2) (vs := (prVals l).drop (i * 2)) h0 (by omega)
     have hs1 := splice_size (cur := cur) (o := (i + 1) * 2) (vs := (prVals l).drop (i * 2)) (by omega)
     have h2 := setCells_heap (o := i * 2) (vs := [.int .u8 (k.toNat : Int), .string s]) h1 (by simp; omega)
     refine OwnOut.mk ?_ ?_
     · rw [← e1]
       refine Own.mk hb h2 (by rw [e1]; exact hr) hm (by rw [splice_size (by simp; omega), hs1]; exact hs) ?_
       rw [e1, splice_two (by simp; omega) (by omega) _ (by omega), e2, ← ht, List.take_take, Nat.min_eq_left (by omega)]
     · exact ((Below.refl _ w).drew.trans (bel_setCells hb _ _ _)).trans (bel_setCells hb _ _ _)
 · obtain rfl : i = l.length := by omega
   have e : l.take l.length ++ [⟨k, s⟩] ++ l.drop l.length = l ++ [⟨k, s⟩] := by simp
   rw [e]
   exact ins_end l base v k s vb w ho hl hbw hv
end
section
open Go.RowKit
theorem nan_any (x : Int) (w : World) : Calls Tryz.prog 176 #[.int .u8 x] w fun e w' => e = .returned (.bool false) ∧ w = w' := by
 go_enter Tryz.func176, Tryz.ntmps176
 go_wp2_with fail
 go_ret
 exact ⟨by simp, rfl⟩
def cmpI (a b : Nat) : Int := if a < b then -1 else if b < a then 1 else 0
theorem cmp_any (a b : Nat) (w : World) : Calls Tryz.prog 160 #[.int .u8 (a : Int), .int .u8 (b : Int)] w fun e w' => e = .returned (.int .i64 (cmpI a b)) ∧ w = w' := by
 have C := zid fun (x : Int) (W : World) => nan_any x W
 by_cases h1 : a < b
 · have e : cmpI a b = -1 := by unfold cmpI; rw [if_pos h1]
   rw [e]
   go_enter Tryz.func160, Tryz.ntmps160
   go_wp2_with fail
   refine (C.out _ _).mono ?_
   rintro e w' ⟨rfl, rfl⟩
   go_wp2_with fail
   refine (C.out _ _).mono ?_
   rintro e w' ⟨rfl, rfl⟩
   go_wp2_with fail
   go_ret
   exact ⟨rfl, rfl⟩
 · by_cases h2 : b < a
   · have e : cmpI a b = 1 := by unfold cmpI; rw [if_neg h1, if_pos h2]
     rw [e]
     have h3 : ¬ ((a : Int) < (b : Int)) := by omega
     clear h1
     go_enter Tryz.func160, Tryz.ntmps160
     go_wp2_with fail
     refine (C.out _ _).mono ?_
     rintro e w' ⟨rfl, rfl⟩
     go_wp2_with fail
     refine (C.out _ _).mono ?_
     rintro e w' ⟨rfl, rfl⟩
     go_wp2_with fail
     go_ret
     exact ⟨rfl, rfl⟩
   · obtain rfl : a = b := by omega
     have e : cmpI a a = 0 := by unfold cmpI; rw [if_neg h1, if_neg h1]
     rw [e]
     clear h1 h2
     go_enter Tryz.func160, Tryz.ntmps160
     go_wp2_with fail
     refine (C.out _ _).mono ?_
     rintro e w' ⟨rfl, rfl⟩
     go_wp2_with fail
     refine (C.out _ _).mono ?_
     rintro e w' ⟨rfl, rfl⟩
     go_wp2_with fail
     go_ret
     exact ⟨rfl, rfl⟩
theorem byKey_any (p : Fp.Pr) (c : Nat) (w : World) : Calls Tryz.prog 137 #[prVal p, .int .u8 (c : Int)] w fun e w' => e = .returned (.int .i64 (cmpI p.k.toNat c)) ∧ Below w.heap.size w w' := by
 have C := zid fun (W : World) => cmp_any p.k.toNat c W
 unfold prVal
 go_enter Tryz.func137, Tryz.ntmps137
 go_wp2_with fail
 refine (C.out _).mono ?_
 rintro e w' ⟨rfl, rfl⟩
 go_wp2_with fail
 go_ret
 exact ⟨rfl, (Below.refl _ _).alloc (Nat.le_refl _) _⟩
def SearchOut (w : World) (l : List Fp.Pr) (c : UInt8) (e : Ending) (w' : World) : Prop :=
 ∃ (i : Nat) (b : Bool), e = .returned (.tuple #[.int .i64 (i : Int), .bool b]) ∧ Fp.Found l c i b ∧ Below w.heap.size w w'
theorem SearchOut.mk {w w' : World} {l : List Fp.Pr} {c : UInt8} {i : Nat} {b : Bool} (h : Fp.Found l c i b) (hb : Below w.heap.size w w') : SearchOut w l c (.returned (.tuple #[.int .i64 (i : Int), .bool b])) w' := ⟨i, b, rfl, h, hb⟩
theorem cmpI_lt {a b : Nat} (h : a < b) : cmpI a b = -1 := by unfold cmpI; rw [if_pos h]
theorem cmpI_gt {a b : Nat} (h : b < a) : cmpI a b = 1 := by unfold cmpI; rw [if_neg (by omega), if_pos h]
theorem cmpI_eq {a b : Nat} (h : a = b) : cmpI a b = 0 := by unfold cmpI; rw [if_neg (by omega), if_neg (by omega)]
structure Between (l : List Fp.Pr) (c : UInt8) (lo hi : Nat) : Prop where
 le : lo ≤ hi
 ln : hi ≤ l.length
 lt : ∀ j (hj : j < l.length), j < lo → (l[j]).k.toNat < c.toNat
 ge : ∀ j (hj : j < l.length), hi ≤ j → c.toNat ≤ (l[j]).k.toNat
theorem Between.start (l : List Fp.Pr) (c : UInt8) : Between l c 0 l.length := ⟨Nat.zero_le _, Nat.le_refl _, fun _ _ h => absurd h (Nat.not_lt_zero _), fun j hj h => by omega⟩
theorem getD_pr {l : List Fp.Pr} {k : Nat} (h : k < l.length) : l.getD k Fp.zero = l[k] := by simp [List.getD_eq_getElem?_getD, h]
theorem Between.up {l : List Fp.Pr} {c : UInt8} {lo hi m : Nat} (h : Between l c lo hi) (hu : Fp.Up l) (h2 : m < hi) (hm : (l.getD m Fp.zero).k.toNat < c.toNat) : Between l c (m + 1) hi := by
 refine ⟨h2, h.ln, fun j hj hjm => ?_, h.ge⟩
 have h3 := h.ln
 rw [getD_pr (by omega)] at hm
 rcases Nat.lt_or_ge j m with h4 | h4
 · have := hu.at (show m < l.length by omega) h4; omega
 · obtain rfl : j = m := by omega
   exact hm
theorem Between.down {l : List Fp.Pr} {c : UInt8} {lo hi m : Nat} (h : Between l c lo hi) (hu : Fp.Up l) (h1 : lo ≤ m) (h2 : m < hi) (hm : c.toNat ≤ (l.getD m Fp.zero).k.toNat) : Between l c lo m := by
 have h3 := h.ln
 refine ⟨h1, by omega, h.lt, fun j hj hjm => ?_⟩
 rw [getD_pr (by omega)] at hm
 rcases Nat.lt_or_ge m j with h4 | h4
 · have := hu.at hj h4; omega
 · obtain rfl : j = m := by omega
   exact hm
theorem Between.hit {l : List Fp.Pr} {c : UInt8} {i : Nat} (h : Between l c i i) (hi : i < l.length) (hm : (l.getD i Fp.zero).k.toNat = c.toNat) : Fp.Found l c i true := by
 rw [getD_pr hi] at hm
 exact ⟨h.ln, h.lt, h.ge, fun _ => ⟨hi, UInt8.toNat_inj.1 hm⟩, fun h0 => by cases h0⟩
theorem Between.miss {l : List Fp.Pr} {c : UInt8} {i : Nat} (h : Between l c i i) (hm : i < l.length → (l.getD i Fp.zero).k.toNat ≠ c.toNat) : Fp.Found l c i false := by
 refine ⟨h.ln, h.lt, h.ge, fun h0 => (by cases h0), fun _ hi he => hm hi ?_⟩
 rw [getD_pr hi, he]
theorem search_some (l : List Fp.Pr) (c : UInt8) (b off cap : Nat) (w : World) (hu : Fp.Up l) (hl : l.length ≤ 256)
 (hc : ∀ i, i < l.length → w.cell? ⟨b, off + i * 2, none⟩ = some (.int .u8 ((l.getD i Fp.zero).k.toNat : Int)) ∧ w.cell? ⟨b, off + i * 2 + 1, none⟩ = some (.string (l.getD i Fp.zero).v)) :
 Calls Tryz.prog 136 #[.slice (some ⟨b, off, none⟩) l.length cap, .int .u8 (c.toNat : Int), .func (.func 137) #[] #[]] w (SearchOut w l c) := by
 have HC := zid hc
 have HU := zid hu
 have HS := zid (Between.start l c)
 clear hc hu
 obtain ⟨len, hlen⟩ : ∃ len, l.length = len := ⟨_, rfl⟩
 rw [hlen] at hl HC HS ⊢
 have HL := zid hlen
 clear hlen
 go_enter Tryz.func136, Tryz.ntmps136
 go_wp2_with fail
 go_loopw [9, 10] (fun x y wr => ∃ lo hi : Nat, hi ≤ len ∧ x = .int .i64 lo ∧ y = .int .i64 hi ∧ Between l c lo hi ∧ Below w.heap.size w wr) (fun x y _ => (intOf y).toNat - (intOf x).toNat)
 case atStart => exact ⟨0, len, Nat.le_refl _, rfl, rfl, HS.out, Below.refl _ _⟩
 case round =>
  obtain ⟨lo, hi, hhi, rfl, rfl, hB, bel⟩ := hrel
  have HB := zid hB
  have hle := hB.le
  clear hB
  by_cases hlt : lo < hi
  · obtain ⟨m, hm⟩ : ∃ m, (lo + hi) / 2 = m := ⟨_, rfl⟩
    have hm1 : lo ≤ m := by omega
    have hm2 : m < hi := by omega
    have hmi : ((lo : Int) + (hi : Int)) / 2 = (m : Int) := by omega
    obtain ⟨c0, c1⟩ := HC.out m (by omega)
    have hbb := block_lt_of_cell c0
    have z0 : wr.cell? ⟨b, off + m * 2, none⟩ = some (.int .u8 ((l.getD m Fp.zero).k.toNat : Int)) := by rw [bel.cell (p := ⟨b, off + m * 2, none⟩) hbb]; exact c0
    have z1 : wr.cell? ⟨b, off + m * 2 + 1, none⟩ = some (.string (l.getD m Fp.zero).v) := by rw [bel.cell (p := ⟨b, off + m * 2 + 1, none⟩) hbb]; exact c1
    clear c0 c1 hm
    have BUP := zid fun h => HB.out.up HU.out hm2 h
    have BDN := zid fun h => HB.out.down HU.out hm1 hm2 h
    generalize l.getD m Fp.zero = p at *
    have C := fun W : World => byKey_any p c.toNat W
    unfold prVal at C
    by_cases hcm : p.k.toNat < c.toNat
    · rw [cmpI_lt hcm] at C
      have C := zid C
      have HN := zid (BUP.out hcm)
      clear hcm
      go_wp2_with fail
      refine (C.out _).mono ?_
      rintro e w1 ⟨rfl, b1⟩
      go_wp2_with fail
      go_roundw
      case rel => exact ⟨m + 1, hi, hhi, by go_num, rfl, HN.out, bel.trans (b1.mono bel.size)⟩
      case measure => simp [intOf]; omega
    · have hge : c.toNat ≤ p.k.toNat := by omega
      have HN := zid (BDN.out hge)
      obtain ⟨q, hq, hq0⟩ : ∃ q, cmpI p.k.toNat c.toNat = q ∧ 0 ≤ q := by
       rcases Nat.lt_or_ge c.toNat p.k.toNat with h | h
       · exact ⟨1, cmpI_gt h, by omega⟩
       · exact ⟨0, cmpI_eq (by omega), by omega⟩
      rw [hq] at C
      have C := zid C
      clear hcm hge hq
      go_wp2_with fail
      refine (C.out _).mono ?_
      rintro e w1 ⟨rfl, b1⟩
      go_wp2_with fail
      go_roundw
      case rel => exact ⟨lo, m, by omega, rfl, rfl, HN.out, bel.trans (b1.mono bel.size)⟩
      case measure => simp [intOf]; omega
  · obtain rfl : hi = lo := by omega
    by_cases hn : hi < len
    · obtain ⟨c0, c1⟩ := HC.out hi hn
      have hbb := block_lt_of_cell c0
      have z0 : wr.cell? ⟨b, off + hi * 2, none⟩ = some (.int .u8 ((l.getD hi Fp.zero).k.toNat : Int)) := by rw [bel.cell (p := ⟨b, off + hi * 2, none⟩) hbb]; exact c0
      have z1 : wr.cell? ⟨b, off + hi * 2 + 1, none⟩ = some (.string (l.getD hi Fp.zero).v) := by rw [bel.cell (p := ⟨b, off + hi * 2 + 1, none⟩) hbb]; exact c1
      clear c0 c1
      have BH := zid fun h => HB.out.hit (by rw [HL.out]; exact hn) h
      have BM := zid fun h => HB.out.miss h
      generalize l.getD hi Fp.zero = p at *
      have C := fun W : World => byKey_any p c.toNat W
      unfold prVal at C
      by_cases he : p.k.toNat = c.toNat
      · rw [cmpI_eq he] at C
        have C := zid C
        have HN := zid (BH.out he)
        clear he
        go_wp2_with fail
        refine (C.out _).mono ?_
        rintro e w1 ⟨rfl, b1⟩
        go_wp2_with fail
        go_ret2
        exact SearchOut.mk HN.out (bel.trans (b1.mono bel.size))
      · have HN := zid (BM.out fun _ => he)
        obtain ⟨q, hq, hq0⟩ : ∃ q, cmpI p.k.toNat c.toNat = q ∧ q ≠ 0 := by
         rcases Nat.lt_or_ge c.toNat p.k.toNat with h | h
         · exact ⟨1, cmpI_gt h, by omega⟩
         · exact ⟨-1, cmpI_lt (by omega), by omega⟩
        rw [hq] at C
        have C := zid C
        have HQ := zid (show (q == 0) = false by simpa using hq0)
        clear he hq
        go_wp2_with fail
        refine (C.out _).mono ?_
        rintro e w1 ⟨rfl, b1⟩
        go_wp2_with fail
        go_ret2
        rw [HQ.out]
        exact SearchOut.mk HN.out (bel.trans (b1.mono bel.size))
    · have HN := zid (HB.out.miss fun h => absurd h (by rw [HL.out]; exact hn))
      go_wp2_with fail
      go_ret2
      exact SearchOut.mk HN.out bel
theorem search_none (a : Option Addr) (cap : Nat) (c : UInt8) (w : World) :
 Calls Tryz.prog 136 #[.slice a 0 cap, .int .u8 (c.toNat : Int), .func (.func 137) #[] #[]] w (SearchOut w [] c) := by
 have HN := zid ((Between.start [] c).miss fun h => absurd h (by simp))
 go_enter Tryz.func136, Tryz.ntmps136
 go_wp2_with fail
 refine wp_loop_rounds 1 ?_
 rw [rounds_succ]
 go_wp2_with fail
 go_ret2
 exact SearchOut.mk HN.out (Below.refl _ _)
theorem search_any (v : Value) (l : List Fp.Pr) (c : UInt8) (w : World) (hu : Fp.Up l) (h : IsPrs w v l) :
 Calls Tryz.prog 136 #[v, .int .u8 (c.toNat : Int), .func (.func 137) #[] #[]] w (SearchOut w l c) := by
 obtain ⟨a, cap, rfl, _, _, h3⟩ := h
 rcases h3 with rfl | ⟨b, off, rfl, h4⟩
 · exact search_none a cap c w
 · exact search_some l c b off cap w hu hu.len h4
end
end Go.Proofs.YtijbpdpkoamhbaaGreat
