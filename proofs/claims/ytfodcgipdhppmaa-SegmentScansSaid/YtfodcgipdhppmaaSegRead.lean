/-
  What the program's Read answers (layer 9).
-/
import Derived.Test.YtfodcgipdhppmaaSegScan
namespace Go.Proofs.Ytfodcgipdhppmaa
open Go.RowKit Go.Shelf Go.Proofs.Ytfodcgipdhppmaa.Mks Go.Proofs.Ytfodcgipdhppmaa.Gp

attribute [local go_sem] Oper.semAt_some

namespace Gp
theorem read_hit {L : List UInt8} {b off : Int} {i p k : Nat} {e : Int} {ps : List (Rp.Rec × Nat)} (hg : Good L b 0 ps k) (hp : pls (L.drop p) (b + i) p = (ps.drop i, k, e)) {xs : List (It (b + i))} {x : It (b + i)} (h : SomeCame L (b + i) p (xs ++ [x])) (ha : x.1.1.a = off) :
    rd ps b off = (x.1.1, 0) := by
  obtain ⟨ps2, k2, hr, _, hz⟩ := h
  unfold PRel at hr
  rw [hp] at hr
  have h1 := congrArg Prod.fst hr
  dsimp only at h1
  have h2 := hz.recs
  have hl := hz.len
  rw [List.length_append, List.length_singleton] at hl
  have h3 : (ps2.map Prod.fst)[xs.length]? = some x.1.1 := by rw [← h2]; simp
  have h4 : ((ps.drop i).map Prod.fst)[xs.length]? = some x.1.1 := by
    rw [h1, List.map_append, List.getElem?_append_left (by rw [List.length_map]; omega)]
    exact h3
  rw [List.getElem?_map, List.getElem?_drop] at h4
  obtain ⟨q, hq1, hq2⟩ := Option.map_eq_some_iff.1 h4
  obtain ⟨hlt, hq⟩ := List.getElem?_eq_some_iff.1 hq1
  have h5 := hg.at_ _ hlt
  rw [hq, hq2, ha] at h5
  rw [h5, rd_in ps b hlt, hq, hq2]
theorem read_miss {L : List UInt8} {b off : Int} {i p k : Nat} {e : Int} {ps : List (Rp.Rec × Nat)} (hg : Good L b 0 ps k) (hp : pls (L.drop p) (b + i) p = (ps.drop i, k, e)) {ys : List (It (b + i))} (h : AllCame L (b + i) p ys) (hn : ∀ x ∈ ys, x.1.1.a ≠ off) (hi : b + i ≤ off) :
    rd ps b off = (Rp.zero, 6) := by
  obtain ⟨ps2, k2, e2, h1, _, hz, _⟩ := h
  rw [hp] at h1
  have h1 := congrArg Prod.fst h1
  dsimp only at h1
  refine rd_out (.inr ?_)
  refine Int.not_lt.1 fun hc => ?_
  obtain ⟨j, hj⟩ : ∃ j : Nat, off = b + ((i + j : Nat) : Int) := ⟨(off - b - i).toNat, by omega⟩
  have hlt : i + j < ps.length := by omega
  have h5 := hg.at_ _ hlt
  have hm : ps[i + j].1 ∈ ps2.map Prod.fst := by
    rw [← h1]
    refine List.mem_map.2 ⟨ps[i + j], ?_, rfl⟩
    refine List.mem_iff_getElem?.2 ⟨j, ?_⟩
    rw [List.getElem?_drop]
    exact List.getElem?_eq_some_iff.2 ⟨hlt, rfl⟩
  rw [← hz.recs] at hm
  obtain ⟨x, hx, hxe⟩ := List.mem_map.1 hm
  exact hn x hx (by rw [hxe, h5, hj])
end Gp

/-- None of them is of that offset; the last one is, and its record lies in a block. -/
def Miss9 {b : Int} (off : Int) (pre : List (It b)) : Prop := ∀ x ∈ pre, x.1.1.a ≠ off
def Hit9 {b : Int} (off : Int) (k1 k2 : Nat) (pre : List (It b)) (W : World) : Prop :=
  ∃ pre0 x, pre = pre0 ++ [x] ∧ x.1.1.a = off ∧ W.cell? ⟨k1, 0, none⟩ = some (.int .i64 x.1.1.a) ∧ W.cell? ⟨k1, 1, none⟩ = some (.int .i64 x.1.1.t) ∧ W.cell? ⟨k1, 2, none⟩ = some (.string x.1.1.d) ∧ W.cell? ⟨k2, 0, none⟩ = some (.int .i64 0)

/-- Four cells of two blocks, written. -/
theorem four9 {W : World} {k1 k2 B : Nat} {T T' : TypeId} {cs : Value × Value × Value} {c' : Value} (g1 : W.heap[k1]? = some (.cells #[cs.1, cs.2.1, cs.2.2] T (0, 0))) (g2 : W.heap[k2]? = some (.cells #[c'] T' (0, 0))) (hne : k1 ≠ k2) (a t d e : Value) {w : World} (hb : Below B w W) (h1 : B ≤ k1) (h2 : B ≤ k2) :
    ∃ W4, (((W.setCell ⟨k1, 0, none⟩ a).setCell ⟨k1, 1, none⟩ t).setCell ⟨k1, 2, none⟩ d).setCell ⟨k2, 0, none⟩ e = W4 ∧ W4.cell? ⟨k1, 0, none⟩ = some a ∧ W4.cell? ⟨k1, 1, none⟩ = some t ∧ W4.cell? ⟨k1, 2, none⟩ = some d ∧ W4.cell? ⟨k2, 0, none⟩ = some e ∧ KeepsOthers W W4 ∧ Below B w W4 := by
  obtain ⟨z0, z1, z2⟩ := cells3 g1
  have cE := Boxed.cell g2
  refine ⟨_, rfl, ?_, ?_, ?_, ?_, (((KeepsOthers.setCell _ _ _).trans (KeepsOthers.setCell _ _ _)).trans (KeepsOthers.setCell _ _ _)).trans (KeepsOthers.setCell _ _ _), (bel_st3 hb h1 _ _ _).setCell (p := ⟨k2, 0, none⟩) h2 _⟩
  · rw [World.cell?_setCell_other _ _ _ _ (by simp <;> omega), World.cell?_setCell_other _ _ _ _ (by simp), World.cell?_setCell_other _ _ _ _ (by simp), World.cell?_setCell_same' _ _ _ (by rw [z0]; rfl)]
  · rw [World.cell?_setCell_other _ _ _ _ (by simp <;> omega), World.cell?_setCell_other _ _ _ _ (by simp), World.cell?_setCell_same' _ _ _ (by rw [World.cell?_setCell_other _ _ _ _ (by simp), z1]; rfl)]
  · rw [World.cell?_setCell_other _ _ _ _ (by simp <;> omega), World.cell?_setCell_same' _ _ _ (by rw [World.cell?_setCell_other _ _ _ _ (by simp), World.cell?_setCell_other _ _ _ _ (by simp), z2]; rfl)]
  · rw [World.cell?_setCell_same' _ _ _ (by rw [World.cell?_setCell_other _ _ _ _ (by simp <;> omega), World.cell?_setCell_other _ _ _ _ (by simp <;> omega), World.cell?_setCell_other _ _ _ _ (by simp <;> omega), cE]; rfl)]

set_option maxRecDepth 100000 in
set_option maxHeartbeats 800000 in
theorem read9_none (s : ByteArray) (base off : Int) (v : Value) (l : List Mp.Mk) (w : World) (hv : IsL ML w v l) (hn : Mp.Split l off 0) :
    Calls Try.prog 14 #[.string s, .int .i64 base, v, .int .i64 off] w fun e w' => e = .returned (.tuple #[.agg #[.int .i64 0, .int .i64 0, .string ⟨#[]⟩], .int .i64 6]) ∧ Below w.heap.size w w' := by
  have FD := fun (W : World) (h : Below w.heap.size w W) => find08_any v l off 0 W (hv.keep h) hn
  unfold fndVal at FD
  dsimp only at FD
  replace FD := Lib.hid FD
  have HA := Lib.hid ((((Below.refl w.heap.size w).alloc (Nat.le_refl _) (.cells #[.int .i64 off] 3)).alloc (by simp) (.cells #[.int .i64 0, .int .i64 0, .string ⟨#[]⟩] 35)).alloc (by simp; omega) (.cells #[.int .i64 0] 24))
  have G0 := Lib.hid (heap_old (.cells #[.int .i64 0] 24) (heap_alloc_new (w.alloc (.cells #[.int .i64 off] 3)) (.cells #[.int .i64 0, .int .i64 0, .string ⟨#[]⟩] 35)))
  have G1 := Lib.hid (heap_alloc_new ((w.alloc (.cells #[.int .i64 off] 3)).alloc (.cells #[.int .i64 0, .int .i64 0, .string ⟨#[]⟩] 35)) (.cells #[.int .i64 0] 24))
  go_enter Try.func14, Try.ntmps14
  go_wp2_with fail
  simp only [World.size_alloc] at G0 G1
  obtain ⟨w0, hw0⟩ : ∃ w0, ((w.alloc (.cells #[.int .i64 off] 3)).alloc (.cells #[.int .i64 0, .int .i64 0, .string ⟨#[]⟩] 35)).alloc (.cells #[.int .i64 0] 24) = w0 := ⟨_, rfl⟩
  rw [hw0] at HA G0 G1 ⊢
  clear hw0
  refine (FD.out _ HA.out).mono ?_
  rintro e w1 ⟨rfl, b1⟩
  have HB := Lib.hid ((HA.out.trans (b1.mono HA.out.size)).alloc (by have := HA.out.size; have := b1.size; omega) (.cells #[.int .i64 0, .int .i64 0] 58))
  have H0 := Lib.hid (heap_old (.cells #[.int .i64 0, .int .i64 0] 58) ((b1.block _ (Array.getElem?_eq_some_iff.1 G0.out).1).trans G0.out))
  have H1 := Lib.hid (heap_old (.cells #[.int .i64 0, .int .i64 0] 58) ((b1.block _ (Array.getElem?_eq_some_iff.1 G1.out).1).trans G1.out))
  have hwl := (Array.getElem?_eq_some_iff.1 H1.out).1
  obtain ⟨f0, f1, f2⟩ := frozenK H0.out
  obtain ⟨z0, z1, z2⟩ := cells3 H0.out
  have cE := Boxed.cell H1.out
  have fE := Boxed.frozen H1.out
  clear b1 G0 G1 HA
  go_wp2_with fail
  refine bodyPost_ret (v := .tuple #[.agg #[.int .i64 0, .int .i64 0, .string ⟨#[]⟩], .int .i64 6]) (by simp [results, Try.results14, go_sem, z0, z1, z2, cE]) rfl ?_
  exact ⟨rfl, (bel_st3 HB.out (show w.heap.size ≤ w.heap.size + 1 by omega) _ _ _).setCell (p := ⟨w.heap.size + 1 + 1, 0, none⟩) (by simp; omega) _⟩

set_option maxRecDepth 100000 in
set_option maxHeartbeats 1600000 in
theorem read9_some (s : ByteArray) (base off : Int) (v : Value) (l : List Mp.Mk) (i p k : Nat) (w : World) (hs : s.size ≤ 1000000000) (hp : p ≤ s.size) (hb0 : 0 ≤ base) (hb1 : base ≤ 1099511627776) (hv : IsL ML w v l) (n : Nat) (hn : Mp.Split l off (n + 1)) (hm : l.getD n Mp.zero = ⟨base + i, (p : Nat)⟩)
    (hb2 : base + i ≤ 1099511627776) (e : Int) (ps : List (Rp.Rec × Nat)) (hg : Gp.Good s.data.toList base 0 ps k) (hpl : pls (s.data.toList.drop p) (base + i) p = (ps.drop i, k, e)) :
    Calls Try.prog 14 #[.string s, .int .i64 base, v, .int .i64 off] w fun e w' => e = .returned (rdVal9 ps base off) ∧ Below w.heap.size w w' := by
  have FD := fun (W : World) (h : Below w.heap.size w W) => find08_any v l off (n + 1) W (hv.keep h) hn
  unfold fndVal at FD
  dsimp only at FD
  rw [hm] at FD
  dsimp only at FD
  replace FD := Lib.hid FD
  have HLE := Lib.hid (show base + i ≤ off by have := hn.2.1 n (by omega); rw [hm] at this; exact this)
  have R := Lib.hid fun W : World => records9_any s p (base + i) W
  have HG := Lib.hid hg
  have HPL := Lib.hid hpl
  have HB0 := Lib.hid ((((Below.refl w.heap.size w).alloc (Nat.le_refl _) (.cells #[.int .i64 off] 3)).alloc (by simp) (.cells #[.int .i64 0, .int .i64 0, .string ⟨#[]⟩] 35)).alloc (by simp; omega) (.cells #[.int .i64 0] 24))
  clear hm hg hpl
  refine (callsIn_wide (n := 6)).1 ?_
  refine callsIn_of_wp_marks Try.func14 rfl trivial ?_ rfl
  simp only [Try.ntmps14, List.size_toArray, List.length_cons, List.length_nil, Nat.reduceAdd, Nat.reduceSub, Array.replicate_succ, Array.replicate_zero, List.push_toArray, List.append_toArray, List.nil_append, List.cons_append]
  have GO := Lib.hid (heap_old (.cells #[.int .i64 0] 24) (heap_old (.cells #[.int .i64 0, .int .i64 0, .string ⟨#[]⟩] 35) (heap_alloc_new w (.cells #[.int .i64 off] 3))))
  have GR := heap_old (.cells #[.int .i64 0] 24) (heap_alloc_new (w.alloc (.cells #[.int .i64 off] 3)) (.cells #[.int .i64 0, .int .i64 0, .string ⟨#[]⟩] 35))
  have GE := heap_alloc_new ((w.alloc (.cells #[.int .i64 off] 3)).alloc (.cells #[.int .i64 0, .int .i64 0, .string ⟨#[]⟩] 35)) (.cells #[.int .i64 0] 24)
  simp only [World.size_alloc] at GR GE
  replace GR := Lib.hid GR
  replace GE := Lib.hid GE
  gi_wp2_with (first | (refine ⟨trivial, ?_⟩; gi_at_call 24; refine (callsIn_wide.2 (FD.out _ HB0.out)).mono ?_; rintro e1 w1 ⟨rfl, b1⟩; have GO1 := Lib.hid ((b1.block _ (Array.getElem?_eq_some_iff.1 GO.out).1).trans GO.out); have GR1 := Lib.hid ((b1.block _ (Array.getElem?_eq_some_iff.1 GR.out).1).trans GR.out); have GE1 := Lib.hid ((b1.block _ (Array.getElem?_eq_some_iff.1 GE.out).1).trans GE.out); have HB1 := Lib.hid (HB0.out.trans (b1.mono HB0.out.size)); obtain ⟨m0, m1⟩ := cells2 (heap_alloc_new w1 (.cells #[.int .i64 (base + (i : Int)), .int .i64 (p : Int)] 58)); clear b1) | (refine ⟨trivial, ?_⟩; gi_at_call 19; refine (callsIn_wide.2 (R.out _)).mono ?_; rintro e w' ⟨rfl, rfl⟩))
  obtain ⟨W1, hW1⟩ : ∃ W1, w1.alloc (.cells #[.int .i64 (base + (i : Int)), .int .i64 (p : Int)] 58) = W1 := ⟨_, rfl⟩
  have hs1 : W1.heap.size = w1.heap.size + 1 := by rw [← hW1]; simp
  have hwl1 : w.heap.size + 2 < w1.heap.size := (Array.getElem?_eq_some_iff.1 GE1.out).1
  have bC := ((Boxed.new W1 9 (.string s)).alloc (.cells #[.int .i64 (p : Int)] 3)).alloc (.cells #[.int .i64 (base + (i : Int))] 3)
  have bA := (Boxed.new (W1.alloc (.cells #[.string s] 9)) 3 (.int .i64 (p : Int))).alloc (.cells #[.int .i64 (base + (i : Int))] 3)
  have bO := Boxed.new ((W1.alloc (.cells #[.string s] 9)).alloc (.cells #[.int .i64 (p : Int)] 3)) 3 (.int .i64 (base + (i : Int)))
  simp only [World.size_alloc, hs1] at bC bA bO
  rw [hW1]
  have hB2 : Below w.heap.size w W1 := by rw [← hW1]; exact HB1.out.alloc HB1.out.size _
  have GO2 : W1.heap[w.heap.size]? = some (.cells #[.int .i64 off] 3 (0, 0)) := by rw [← hW1]; exact heap_old _ GO1.out
  have GR2 : W1.heap[w.heap.size + 1]? = some (.cells #[.int .i64 0, .int .i64 0, .string ⟨#[]⟩] 35 (0, 0)) := by rw [← hW1]; exact heap_old _ GR1.out
  have GE2 : W1.heap[w.heap.size + 1 + 1]? = some (.cells #[.int .i64 0] 24 (0, 0)) := by rw [← hW1]; exact heap_old _ GE1.out
  have hsB := hB2.size
  have hB3 : Below w.heap.size w (((W1.alloc (.cells #[.string s] 9)).alloc (.cells #[.int .i64 (p : Int)] 3)).alloc (.cells #[.int .i64 (base + (i : Int))] 3)) := ((hB2.alloc hsB _).alloc (by simp; omega) _).alloc (by simp; omega) _
  have GO3 := heap_old (.cells #[.int .i64 (base + (i : Int))] 3) (heap_old (.cells #[.int .i64 (p : Int)] 3) (heap_old (.cells #[.string s] 9) GO2))
  have GR3 := heap_old (.cells #[.int .i64 (base + (i : Int))] 3) (heap_old (.cells #[.int .i64 (p : Int)] 3) (heap_old (.cells #[.string s] 9) GR2))
  have GE3 := heap_old (.cells #[.int .i64 (base + (i : Int))] 3) (heap_old (.cells #[.int .i64 (p : Int)] 3) (heap_old (.cells #[.string s] 9) GE2))
  have hsz : (((W1.alloc (.cells #[.string s] 9)).alloc (.cells #[.int .i64 (p : Int)] 3)).alloc (.cells #[.int .i64 (base + (i : Int))] 3)).heap.size = w1.heap.size + 4 := by simp [hs1]
  obtain ⟨W0, hW0⟩ : ∃ W0, ((W1.alloc (.cells #[.string s] 9)).alloc (.cells #[.int .i64 (p : Int)] 3)).alloc (.cells #[.int .i64 (base + (i : Int))] 3) = W0 := ⟨_, rfl⟩
  rw [hW0] at bC bA bO hB3 GO3 GR3 GE3 hsz ⊢
  clear hW0 hB2 GO2 GR2 GE2 hW1 GO1 GR1 GE1 HB1 HB0 GO GR GE
  refine wpIn_rangeFunc_ownH (F := Fence.wide) rfl (by decide) (gf := 26) (lb := #[.pointer (some ⟨w1.heap.size + 1 + 1, 0, none⟩), .pointer (some ⟨w1.heap.size + 1 + 2, 0, none⟩), .pointer (some ⟨w1.heap.size + 1, 0, none⟩)]) rfl trivial (enters_of Try.func26 (by kernel_rfl) rfl)
    (iter9_stops s (base + i) p (w1.heap.size + 1 + 1) (w1.heap.size + 1 + 2) (w1.heap.size + 1) 5 9 (by decide) (by omega) (by omega) hb2 hp W0 (by omega) (by omega) (by omega) bA.cell bO.cell bC)
    (fun h k => kpC_t h k) (kpC_b (by omega)) (Below.refl _ _) (fun _ => rfl)
    (fun (pre : List (It (base + i))) W => (Miss9 off pre ∧ W.heap[w.heap.size + 1]? = some (.cells #[.int .i64 0, .int .i64 0, .string ⟨#[]⟩] 35 (0, 0)) ∧ W.heap[w.heap.size + 1 + 1]? = some (.cells #[.int .i64 0] 24 (0, 0)) ∧ W.heap[w.heap.size]? = some (.cells #[.int .i64 off] 3 (0, 0))) ∧ Below w.heap.size w W)
    (fun c (pre : List (It (base + i))) W => (c = .ret ∧ Hit9 off (w.heap.size + 1) (w.heap.size + 1 + 1) pre W) ∧ Below w.heap.size w W)
    (OwnFrom.and (fun s X Y row hs hg hr => ⟨hs.1, row_kept hs.2.1 hg (fun r e => (hr r e).2), row_kept hs.2.2.1 hg (fun r e => (hr r e).2), row_kept hs.2.2.2 hg (fun r e => (hr r e).2)⟩) (ownFrom_below (Nat.le_refl _) (by omega)))
    (fun c => OwnFrom.and (fun s X Y row hs hg hr => by
      obtain ⟨hc, pre0, x, h1, h2, h3, h4, h5, h6⟩ := hs
      exact ⟨hc, pre0, x, h1, h2, cell_kept h3 hg (fun r e => (hr r e).2), cell_kept h4 hg (fun r e => (hr r e).2), cell_kept h5 hg (fun r e => (hr r e).2), cell_kept h6 hg (fun r e => (hr r e).2)⟩) (ownFrom_below (Nat.le_refl _) (by omega)))
    ⟨⟨fun x hx => absurd hx List.not_mem_nil, GR3, GE3, GO3⟩, hB3⟩
    (fun x a' W => ∃ Bx, w.heap.size + 2 < Bx ∧ W.heap[Bx]? = some (.cells #[.int .i64 x.1.1.a, .int .i64 x.1.1.t, .string x.1.1.d] 35 (0, 0)) ∧ a' = { defers := [], tmps :=
        #[Value.string s, Value.int IntKind.i64 base, v, Value.int IntKind.i64 off, undef, undef, undef,
          Value.pointer (some { block := w.heap.size, off := 0 }),
          Value.pointer (some { block := w.heap.size + 1, off := 0 }),
          Value.pointer (some { block := w.heap.size + 1 + 1, off := 0 }),
          Value.pointer (some { block := w1.heap.size, off := 0 }), Value.bool true, Value.pointer (some ⟨Bx, 0, none⟩),
          Value.tuple #[Value.agg #[Value.int IntKind.i64 (base + ↑i), Value.int IntKind.i64 ↑p], Value.bool true], v,
          Value.int IntKind.i64 off,
          Value.tuple #[Value.agg #[Value.int IntKind.i64 (base + ↑i), Value.int IntKind.i64 ↑p], Value.bool true],
          Value.agg #[Value.int IntKind.i64 (base + ↑i), Value.int IntKind.i64 ↑p], Value.bool true, Value.bool true,
          Value.bool false, undef, Value.string s, Value.pointer (some { block := w1.heap.size, off := 1 }),
          Value.int IntKind.i64 ↑p, Value.pointer (some { block := w1.heap.size, off := 0 }),
          Value.int IntKind.i64 (base + ↑i),
          Value.func (Fn.func 26) #[]
            #[Value.pointer (some { block := w1.heap.size + 1 + 1, off := 0 }),
              Value.pointer (some { block := w1.heap.size + 1 + 2, off := 0 }),
              Value.pointer (some { block := w1.heap.size + 1, off := 0 })],
          .agg #[.int .i64 x.1.1.a, .int .i64 x.1.1.t, .string x.1.1.d], .int .i64 (x.1.2 : Int), undef, undef, undef, undef, undef, undef] })
    (fun x a' _ X Y row hs hg hr => by obtain ⟨Bx, h1, h2, h3⟩ := hs; exact ⟨Bx, h1, row_kept h2 hg (fun r e => (hr r e).2), h3⟩)
    ?assign ?body ?done ?stop
  case assign =>
    rintro l pre ⟨⟨⟨ra, rt, rd⟩, q⟩, hx⟩ W K ⟨⟨hne, g1, g2, g3⟩, hB1⟩ hK
    have hlt2 := (Array.getElem?_eq_some_iff.1 g2).1
    have hK := Lib.hid (fun a' h => hK a' _ ((KeepsOthers.alloc W (.cells #[.int .i64 ra, .int .i64 rt, .string rd] 35)).from _) (kpC_below ((Below.refl _ W).alloc (Nat.le_refl _) _)) ⟨⟨hne, heap_old _ g1, heap_old _ g2, heap_old _ g3⟩, hB1.alloc hB1.size _⟩ ⟨W.heap.size, by omega, heap_alloc_new W _, h⟩)
    unfold itVals
    dsimp only
    gi_wp2
    exact hK.out _ rfl
  case body =>
    rintro l pre ⟨⟨⟨ra, rt, rd⟩, q⟩, hx⟩ a' W hl hr ⟨⟨hne, g1, g2, g3⟩, hB1⟩ ⟨Bx, hBx, gX, rfl⟩ hlt
    obtain ⟨x, hxe⟩ : ∃ x : It (base + i), x = ⟨⟨⟨ra, rt, rd⟩, q⟩, hx⟩ := ⟨_, rfl⟩
    have hxa : x.1.1.a = ra := by rw [hxe]
    have hxt : x.1.1.t = rt := by rw [hxe]
    have hxd : x.1.1.d = rd := by rw [hxe]
    rw [← hxe]
    obtain ⟨x0, x1, x2⟩ := cells3 gX
    obtain ⟨z0, z1, z2⟩ := cells3 g1
    obtain ⟨f0, f1, f2⟩ := frozenK g1
    have cO := Boxed.cell g3
    have cE := Boxed.cell g2
    have fE := Boxed.frozen g2
    have hlt2 := (Array.getElem?_eq_some_iff.1 g2).1
    by_cases ho : ra = off
    · have hoe : (ra == off) = true := by simpa using ho
      obtain ⟨W4, hW4, d0, d1, d2, d3, hko, hb4⟩ := four9 (cs := (_, _, _)) g1 g2 (by omega) (.int .i64 off) (.int .i64 rt) (.string rd) (.int .i64 0) hB1 (Nat.le_succ _) (by omega)
      have HW := Lib.hid hW4
      have HH := Lib.hid (show Hit9 off (w.heap.size + 1) (w.heap.size + 1 + 1) (pre ++ [x]) W4 from ⟨pre, x, rfl, hxa.trans ho, by rw [hxa, ho]; exact d0, by rw [hxt]; exact d1, by rw [hxd]; exact d2, d3⟩)
      have HR := Lib.hid (And.intro (hko.from (w1.heap.size + 4)) hb4)
      clear hxe hB1 hne g1 g2 g3 gX hW4 d0 d1 d2 d3 hko hb4
      dsimp only
      gi_wp2
      rw [HW.out]
      exact ⟨HR.out.1, ⟨rfl, HH.out⟩, HR.out.2⟩
    · have hoe : (ra == off) = false := by simpa using ho
      have HI := Lib.hid (show Miss9 off (pre ++ [x]) from fun y hy => by
        rw [List.mem_append, List.mem_singleton] at hy
        rcases hy with hy | rfl
        · exact hne y hy
        · rw [hxa]; exact ho)
      have HB := Lib.hid hB1
      have G1 := Lib.hid g1
      have G2 := Lib.hid g2
      have G3 := Lib.hid g3
      clear hxe hB1 hne g1 g2 g3 gX
      dsimp only
      gi_wp2
      exact ⟨KeepsFrom.refl _ _, fun o ho => ho, ⟨⟨HI.out, G1.out, G2.out, G3.out⟩, HB.out⟩⟩
  case done =>
    rintro D ys W hD hS ⟨⟨hne, g1, g2, g3⟩, hB1⟩ hK
    have HRD := Lib.hid (read_miss HG.out HPL.out hS hne HLE.out)
    obtain ⟨z0, z1, z2⟩ := cells3 g1
    obtain ⟨f0, f1, f2⟩ := frozenK g1
    have cE := Boxed.cell g2
    have fE := Boxed.frozen g2
    obtain ⟨W4, hW4, d0, d1, d2, d3, hko, hb4⟩ := four9 (cs := (_, _, _)) g1 g2 (by omega) (.int .i64 0) (.int .i64 0) (.string ⟨#[]⟩) (.int .i64 6) hB1 (Nat.le_succ _) (by omega)
    have HW := Lib.hid hW4
    have hlt2 := (Array.getElem?_eq_some_iff.1 g2).1
    have hK4 := hko.same D _ hK rfl
    have hs1 := hb4.size
    have HK := Lib.hid hK4
    have HB := Lib.hid (hb4.trans (belowK_b (w := w) (Nat.le_refl _) W4 D _ (.deferred none) (by omega) hK4 rfl rfl))
    have e0 := cell_kept d0 (grownBy_putObj' _ D (.deferred none)) (fun r e => by cases e; exact ⟨_, hK4, rfl⟩)
    have e1 := cell_kept d1 (grownBy_putObj' _ D (.deferred none)) (fun r e => by cases e; exact ⟨_, hK4, rfl⟩)
    have e2 := cell_kept d2 (grownBy_putObj' _ D (.deferred none)) (fun r e => by cases e; exact ⟨_, hK4, rfl⟩)
    have e3 := cell_kept d3 (grownBy_putObj' _ D (.deferred none)) (fun r e => by cases e; exact ⟨_, hK4, rfl⟩)
    have HE := Lib.hid (And.intro e0 (And.intro e1 (And.intro e2 e3)))
    clear hne g1 g2 g3 hB1 hS hK hW4 d0 d1 d2 d3 hko hb4 hK4 e0 e1 e2 e3
    gi_wp2
    rw [HW.out]
    refine ⟨by simp, .inl ⟨_, _, rfl, run_takeDeferred HK.out, ?_⟩⟩
    obtain ⟨e0, e1, e2, e3⟩ := HE.out
    refine ⟨.tuple #[.agg #[.int .i64 0, .int .i64 0, .string ⟨#[]⟩], .int .i64 6], by simp [results, Try.results14, go_sem, e0, e1, e2, e3], ?_, HB.out⟩
    unfold rdVal9
    rw [HRD.out]
    rfl
  case stop =>
    rintro D c pre W hD hS ⟨⟨rfl, pre0, x, rfl, hxa, c0, c1, c2, cE⟩, hB1⟩ hK
    have HRD := Lib.hid (read_hit HG.out HPL.out hS hxa)
    have hs1 := hB1.size
    have e0 := cell_kept c0 (grownBy_putObj' _ D (.deferred none)) (fun r e => by cases e; exact ⟨_, hK, rfl⟩)
    have e1 := cell_kept c1 (grownBy_putObj' _ D (.deferred none)) (fun r e => by cases e; exact ⟨_, hK, rfl⟩)
    have e2 := cell_kept c2 (grownBy_putObj' _ D (.deferred none)) (fun r e => by cases e; exact ⟨_, hK, rfl⟩)
    have e3 := cell_kept cE (grownBy_putObj' _ D (.deferred none)) (fun r e => by cases e; exact ⟨_, hK, rfl⟩)
    have HB := Lib.hid (hB1.trans (belowK_b (w := w) (Nat.le_refl _) W D _ (.deferred none) (by omega) hK rfl rfl))
    have HK := Lib.hid hK
    have HE := Lib.hid (And.intro e0 (And.intro e1 (And.intro e2 e3)))
    clear hB1 hS hK e0 e1 e2 e3 c0 c1 c2 cE
    gi_wp2
    refine ⟨by simp, .inl ⟨_, _, rfl, run_takeDeferred HK.out, ?_⟩⟩
    obtain ⟨e0, e1, e2, e3⟩ := HE.out
    refine ⟨.tuple #[.agg #[.int .i64 x.1.1.a, .int .i64 x.1.1.t, .string x.1.1.d], .int .i64 0], by simp [results, Try.results14, go_sem, e0, e1, e2, e3], ?_, HB.out⟩
    unfold rdVal9
    rw [HRD.out]
    rfl

theorem read9_any (s : ByteArray) (base every off : Int) (v : Value) (w : World) (hs : s.size ≤ 1000000000) (_ : -9223372036854775808 ≤ base) (_ : base ≤ 9223372036854775807) (_ : 1 ≤ every) (_ : every ≤ 9223372036854775807) (_ : -9223372036854775808 ≤ off) (_ : off ≤ 9223372036854775807)
    (hv : IsL ML w v (Gp.ix (Gp.full s.data.toList base).1 base every (Gp.full s.data.toList base).1.length)) :
    Calls Try.prog 14 #[.string s, .int .i64 base, v, .int .i64 off] w fun e w' => e = .returned (rdVal9 (Gp.full s.data.toList base).1 base off) ∧ Below w.heap.size w w' := by
  obtain ⟨ps, k, er, hF, hg, hin, _, _⟩ := Gp.full_good s.data.toList base
  rw [hF] at hv ⊢
  dsimp only at hv ⊢
  have HM : rd ps base off = (Rp.zero, 6) → rdVal9 ps base off = .tuple #[.agg #[.int .i64 0, .int .i64 0, .string ⟨#[]⟩], .int .i64 6] := fun h => by
    unfold rdVal9
    rw [h]
    rfl
  by_cases h0 : ps = []
  · subst h0
    rw [HM (rd_out (by rcases Int.lt_or_le off base with h | h; exact .inl h; exact .inr (by simpa using h)))]
    exact read9_none s base off v _ w hv ⟨Nat.zero_le _, fun j hj => absurd hj (Nat.not_lt_zero j), fun j _ hj => by simp [ix] at hj⟩
  · obtain ⟨hb0, hb1⟩ := Rp.inB_yes (hin h0)
    have hpos : 0 < ps.length := List.length_pos_iff.2 h0
    have hr := ix_right (every := every) hg hb0 ps.length (Nat.le_refl _)
    obtain ⟨n, hn⟩ := Mp.split_some hr off
    have hpl : pls (s.data.toList.drop 0) base 0 = (ps, k, er) := (Gp.full_in (Rp.inB_mk hb0 hb1)).symm.trans hF
    cases n with
    | zero =>
      obtain ⟨m, t, e1, e2⟩ := ix_head ps base every ps.length hpos
      have h1 := hn.2.2 0 (Nat.le_refl _) (by rw [e1]; simp)
      rw [e1] at h1
      have h2 : off < base := by rw [← e2]; exact h1
      rw [HM (rd_out (.inl h2))]
      exact read9_none s base off v _ w hv hn
    | succ n =>
      have hnl : n < (ix ps base every ps.length).length := hn.1
      have hmem : (ix ps base every ps.length).getD n Mp.zero ∈ ix ps base every ps.length := by rw [Mp.getD_mk hnl]; exact List.getElem_mem _
      obtain ⟨i, hi, hm⟩ := ix_mem hmem
      rw [getD_ps hi] at hm
      have h4 := (hg.lo i hi).2
      have hks : k ≤ s.size := by
        rcases hg.le with h | h
        · exact h
        · omega
      have h5 := hg.at_ i hi
      obtain ⟨_, h6, _⟩ := hg.ok _ (List.getElem_mem hi)
      exact read9_some s base off v _ i ps[i].2 k w hs (by omega) hb0 hb1 hv n hn hm (by rw [← h5]; exact h6) er ps hg (pls_from s.data.toList i base 0 ps k er hpl hi)

end Go.Proofs.Ytfodcgipdhppmaa
