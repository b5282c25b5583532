/-
  What record's Get answers; nothing that was there is changed.
-/
import Derived.Test.YtfodcgipdhppmaaRecGet
import Derived.Lib.Builder
namespace Go.Proofs.Ytfodcgipdhppmaa
open Go.RowKit

theorem made_func (fn : Fn) (first cap : Array Value) (w : World) : (Instr.makeFunc fn first cap).run Try.prog w = .ok (.func fn first cap) w := rfl
/-- What record's Get has laid: the text, the result's cells, the place. -/
structure GB (w : World) (s : ByteArray) (i : Int) (W : World) : Prop where
  h0 : W.heap[w.heap.size]? = some (.cells #[.string s] 9 (0, 0))
  h1 : W.heap[w.heap.size + 1]? = some (.cells #[.int .i64 0, .int .i64 0, .string ⟨#[]⟩] 35 (0, 0))
  h2 : W.heap[w.heap.size + 1 + 1]? = some (.cells #[.int .i64 i] 3 (0, 0))
  b : Below w.heap.size w W
theorem GB.lt {w W : World} {s : ByteArray} {i : Int} (h : GB w s i W) : w.heap.size + 1 + 1 < W.heap.size := by
  rcases Nat.lt_or_ge (w.heap.size + 1 + 1) W.heap.size with h' | h'
  · exact h'
  · have := h.h2
    simp [Array.getElem?_eq_none h'] at this
theorem heap_alloc_lt {w : World} {o : Obj} {k : Nat} {x : Obj} (h : w.heap[k]? = some x) : (w.alloc o).heap[k]? = some x := by
  rw [Lib.alloc_old w o k (by
    rcases Nat.lt_or_ge k w.heap.size with h' | h'
    · exact h'
    · simp [Array.getElem?_eq_none h'] at h)]
  exact h
theorem GB.new (w : World) (s : ByteArray) : GB w s 0 (((w.alloc (.cells #[.string s] 9)).alloc (.cells #[.int .i64 0, .int .i64 0, .string ⟨#[]⟩] 35)).alloc (.cells #[.int .i64 0] 3)) := by
  refine ⟨heap_alloc_lt (heap_alloc_lt (heap_alloc_new w _)), ?_, ?_, ((((Below.refl _ _).alloc (Nat.le_refl _) _).alloc (by simp) _).alloc (by simp; omega) _)⟩
  · refine heap_alloc_lt ?_
    have := heap_alloc_new (w.alloc (.cells #[.string s] 9)) (.cells #[.int .i64 0, .int .i64 0, .string ⟨#[]⟩] 35)
    simpa using this
  · have := heap_alloc_new ((w.alloc (.cells #[.string s] 9)).alloc (.cells #[.int .i64 0, .int .i64 0, .string ⟨#[]⟩] 35)) (.cells #[.int .i64 0] 3)
    simpa using this
theorem GB.step {w W : World} {s : ByteArray} {i : Int} (h : GB w s i W) (k : Nat) (x : Int) : GB w s x ((W.drewN k).setCell ⟨w.heap.size + 1 + 1, 0, none⟩ (.int .i64 x)) := by
  refine ⟨?_, ?_, heap_setCell_same (W.drewN k) (w.heap.size + 1 + 1) 0 #[.int .i64 i] 3 (.int .i64 x) h.h2, (h.b.trans ((below_drewN k).mono h.b.size)).setCell (p := ⟨w.heap.size + 1 + 1, 0, none⟩) (by show w.heap.size ≤ w.heap.size + 1 + 1; omega) _⟩
  · rw [heap_setCell_other _ _ _ _ (by show w.heap.size ≠ w.heap.size + 1 + 1; omega)]; exact h.h0
  · rw [heap_setCell_other _ _ _ _ (by show w.heap.size + 1 ≠ w.heap.size + 1 + 1; omega)]; exact h.h1
theorem GB.below {w W W' : World} {s : ByteArray} {i : Int} (h : GB w s i W) (b : Below W.heap.size W W') : GB w s i W' := by
  have hl := h.lt
  refine ⟨?_, ?_, ?_, h.b.trans (b.mono h.b.size)⟩
  · rw [b.block _ (by omega)]; exact h.h0
  · rw [b.block _ (by omega)]; exact h.h1
  · rw [b.block _ (by omega)]; exact h.h2
theorem GB.c0 {w W : World} {s : ByteArray} {i : Int} (h : GB w s i W) : W.cell? ⟨w.heap.size, 0, none⟩ = some (.string s) := by rw [Lib.cell_of_heap h.h0]; rfl
theorem GB.c2 {w W : World} {s : ByteArray} {i : Int} (h : GB w s i W) : W.cell? ⟨w.heap.size + 1 + 1, 0, none⟩ = some (.int .i64 i) := by rw [Lib.cell_of_heap h.h2]; rfl
theorem GB.f2 {w W : World} {s : ByteArray} {i : Int} (h : GB w s i W) : W.frozen? ⟨w.heap.size + 1 + 1, 0, none⟩ = false := Lib.frozen_of_heap h.h2 0
theorem GB.r {w W : World} {s : ByteArray} {i : Int} (h : GB w s i W) : W.cell? ⟨w.heap.size + 1, 0, none⟩ = some (.int .i64 0) ∧ W.cell? ⟨w.heap.size + 1, 1, none⟩ = some (.int .i64 0) ∧ W.cell? ⟨w.heap.size + 1, 2, none⟩ = some (.string ⟨#[]⟩) :=
  ⟨by rw [Lib.cell_of_heap h.h1]; rfl, by rw [Lib.cell_of_heap h.h1]; rfl, by rw [Lib.cell_of_heap h.h1]; rfl⟩
theorem GB.g {w W : World} {s : ByteArray} {i : Int} (h : GB w s i W) : W.frozen? ⟨w.heap.size + 1, 0, none⟩ = false ∧ W.frozen? ⟨w.heap.size + 1, 1, none⟩ = false ∧ W.frozen? ⟨w.heap.size + 1, 2, none⟩ = false :=
  ⟨Lib.frozen_of_heap h.h1 0, Lib.frozen_of_heap h.h1 1, Lib.frozen_of_heap h.h1 2⟩
theorem GB.set {w W : World} {s : ByteArray} {i : Int} (h : GB w s i W) (x y z : Value) : Below w.heap.size w (((W.setCell ⟨w.heap.size + 1, 0, none⟩ x).setCell ⟨w.heap.size + 1, 1, none⟩ y).setCell ⟨w.heap.size + 1, 2, none⟩ z) :=
  ((h.b.setCell (p := ⟨w.heap.size + 1, 0, none⟩) (Nat.le_succ _) _).setCell (p := ⟨w.heap.size + 1, 1, none⟩) (Nat.le_succ _) _).setCell (p := ⟨w.heap.size + 1, 2, none⟩) (Nat.le_succ _) _

set_option maxRecDepth 100000 in
set_option maxHeartbeats 1600000 in
/-- The closure: it reads the number at the place, and puts the place behind it. -/
theorem clo_any (s : ByteArray) (i n nx : Int) (ok : Bool) (b1 b2 : Nat) (w : World) (hs : s.size ≤ 9223372036854775807)
    (hr : rdAt s i = .tuple #[.int .i64 n, .int .i64 nx, .bool ok])
    (h1 : w.cell? ⟨b1, 0, none⟩ = some (.string s)) (h2 : w.cell? ⟨b2, 0, none⟩ = some (.int .i64 i)) (hf : w.frozen? ⟨b2, 0, none⟩ = false) :
    Calls Try.prog 41 #[.pointer (some ⟨b1, 0, none⟩), .pointer (some ⟨b2, 0, none⟩)] w fun e w' => e = .returned (.tuple #[.int .i64 n, .bool ok]) ∧ ∃ k, w' = (w.drewN k).setCell ⟨b2, 0, none⟩ (.int .i64 nx) := by
  have C := fun W : World => read_any s i W hs
  rw [hr] at C
  have C := Lib.hid C
  clear hr
  go_enter Try.func41, Try.ntmps41
  go_wp2_with fail
  refine (C.out _).mono ?_
  rintro e w1 ⟨rfl, k, rfl⟩
  go_wp2_with fail
  go_ret2
  exact ⟨rfl, k, rfl⟩

set_option maxRecDepth 100000 in
set_option maxHeartbeats 1600000 in
theorem get_none (s : ByteArray) (w : World) (hs : s.size ≤ 9223372036854775807) (ht : Vp.take s.data.toList = none) :
    Calls Try.prog 28 #[.string s] w fun e w' => e = .returned (getVal s.data.toList) ∧ Below w.heap.size w w' := by
  have C := fun b1 b2 (W : World) => clo_any s 0 0 0 false b1 b2 W hs (rdVal_none 0 ht)
  have C := Lib.hid C
  have HV := Lib.hid (getVal_no (Rp.get_none ht))
  have hmf := made_func
  clear ht
  go_enter Try.func28, Try.ntmps28
  go_wp2_with fail
  have G0 := GB.new w s
  refine (C.out _ _ _ G0.c0 G0.c2 G0.f2).mono ?_
  rintro e w1 ⟨rfl, k, rfl⟩
  have G1 := G0.step k 0
  generalize World.setCell _ _ _ = w1 at G1 ⊢
  have HG := Lib.hid G1
  obtain ⟨r0, r1, r2⟩ := G1.r
  obtain ⟨g0, g1, g2⟩ := G1.g
  clear G0 G1
  go_wp2_with fail
  exact bodyPost_ret (v := .tuple #[.agg #[.int .i64 0, .int .i64 0, .string ⟨#[]⟩], .int .i64 3]) (by simp [results, Try.results28, go_sem, r0, r1, r2]) rfl
    ⟨by rw [HV.out], HG.out.set _ _ _⟩

set_option maxRecDepth 100000 in
set_option maxHeartbeats 1600000 in
theorem get_half (s : ByteArray) (w : World) (hs : s.size ≤ 9223372036854775807) (n j : Nat) (ht : Vp.take s.data.toList = some (n, j)) (ht2 : Vp.take (s.data.toList.drop j) = none) :
    Calls Try.prog 28 #[.string s] w fun e w' => e = .returned (getVal s.data.toList) ∧ Below w.heap.size w w' := by
  have C := fun b1 b2 (W : World) => clo_any s 0 n j true b1 b2 W hs (rdAt_some (k := 0) ht (Nat.zero_add j))
  have C := Lib.hid C
  have D := fun b1 b2 (W : World) => clo_any s j 0 0 false b1 b2 W hs (rdAt_none ht2)
  have D := Lib.hid D
  have HV := Lib.hid (getVal_no (Rp.get_half ht ht2))
  have hmf := made_func
  clear ht ht2
  go_enter Try.func28, Try.ntmps28
  go_wp2_with fail
  have G0 := GB.new w s
  refine (C.out _ _ _ G0.c0 G0.c2 G0.f2).mono ?_
  rintro e w1 ⟨rfl, k, rfl⟩
  have G1 := G0.step k j
  generalize World.setCell _ _ _ = w1 at G1 ⊢
  clear G0
  have HG := Lib.hid G1
  clear G1
  go_wp2_with fail
  refine (D.out _ _ _ HG.out.c0 HG.out.c2 HG.out.f2).mono ?_
  rintro e w2 ⟨rfl, k2, rfl⟩
  have G2 := HG.out.step k2 0
  generalize World.setCell _ _ _ = w2 at G2 ⊢
  have HG2 := Lib.hid G2
  obtain ⟨r0, r1, r2⟩ := G2.r
  obtain ⟨g0, g1, g2⟩ := G2.g
  clear G2
  go_wp2_with fail
  exact bodyPost_ret (v := .tuple #[.agg #[.int .i64 0, .int .i64 0, .string ⟨#[]⟩], .int .i64 3]) (by simp [results, Try.results28, go_sem, r0, r1, r2]) rfl
    ⟨by rw [HV.out], HG2.out.set _ _ _⟩

set_option maxRecDepth 100000 in
set_option maxHeartbeats 1600000 in
theorem get_whole (s : ByteArray) (w : World) (hs : s.size ≤ 9223372036854775807) (n j m k : Nat) (ht : Vp.take s.data.toList = some (n, j)) (ht2 : Vp.take (s.data.toList.drop j) = some (m, k)) :
    Calls Try.prog 28 #[.string s] w fun e w' => e = .returned (getVal s.data.toList) ∧ Below w.heap.size w w' := by
  have C := fun b1 b2 (W : World) => clo_any s 0 n j true b1 b2 W hs (rdAt_some (k := 0) ht (Nat.zero_add j))
  have C := Lib.hid C
  obtain ⟨q, hq⟩ : ∃ q, j + k = q := ⟨_, rfl⟩
  have D := fun b1 b2 (W : World) => clo_any s j m q true b1 b2 W hs (rdAt_some ht2 hq)
  have D := Lib.hid D
  have hjl := (Vp.take_some ht).2.2.1
  have hkl := (Vp.take_some ht2).2.2.1
  rw [List.length_drop] at hkl
  rw [show s.data.toList.length = s.size from rfl] at hjl hkl
  have q0 : (0 : Int) ≤ (q : Int) := by omega
  have q1 : (q : Int) ≤ (s.size : Int) := by omega
  have E := fun W : World => fault_any ⟨(n : Int), (m : Int), s.extract q s.size⟩ W (by show (s.extract q s.size).size ≤ _; rw [ByteArray.size_extract]; omega)
  have hG := @Rp.get_bad s.data.toList n j m k ht ht2
  have hY := @Rp.get_yes s.data.toList n j m k ht ht2
  rw [hq, ext_drop] at hG hY
  clear ht ht2 hq hjl hkl
  unfold recVal at E
  dsimp only at E
  have hmf := made_func
  rcases Rp.fault_cases ⟨(n : Int), (m : Int), s.extract q s.size⟩ with ⟨hf0, _⟩ | ⟨_, hf0⟩
  · have HV := Lib.hid (getVal_yes (hY hf0))
    rw [hf0] at E
    have E := Lib.hid E
    clear hf0 hG hY
    go_enter Try.func28, Try.ntmps28
    go_wp2_with fail
    have G0 := GB.new w s
    refine (C.out _ _ _ G0.c0 G0.c2 G0.f2).mono ?_
    rintro e w1 ⟨rfl, k1, rfl⟩
    have G1 := G0.step k1 j
    generalize World.setCell _ _ _ = w1 at G1 ⊢
    clear G0
    have HG := Lib.hid G1
    clear G1
    go_wp2_with fail
    refine (D.out _ _ _ HG.out.c0 HG.out.c2 HG.out.f2).mono ?_
    rintro e w2 ⟨rfl, k2, rfl⟩
    have G2 := HG.out.step k2 q
    generalize World.setCell _ _ _ = w2 at G2 ⊢
    have HG2 := Lib.hid G2
    have x0 := G2.c0
    have x2 := G2.c2
    clear G2
    go_wp2_with fail
    refine (E.out _).mono ?_
    rintro e w3 ⟨rfl, b3⟩
    obtain ⟨y0, y1, y2, b23⟩ := box_keep (box_new w2 _ _ _ _) b3
    have G3 := HG2.out.below b23
    have HG3 := Lib.hid G3
    obtain ⟨r0, r1, r2⟩ := G3.r
    obtain ⟨g0, g1, g2⟩ := G3.g
    clear G3
    go_wp2_with fail
    exact bodyPost_ret (v := .tuple #[.agg #[.int .i64 (n : Int), .int .i64 (m : Int), .string (s.extract q s.size)], .int .i64 0]) (by simp [results, Try.results28, go_sem, r0, r1, r2]) rfl
      ⟨by rw [HV.out]; rfl, HG3.out.set _ _ _⟩
  · obtain ⟨e0, he0⟩ : ∃ e0, Rp.fault ⟨(n : Int), (m : Int), s.extract q s.size⟩ = e0 := ⟨_, rfl⟩
    rw [he0] at E hf0 hG
    have HV := Lib.hid (getVal_no (hG (by omega)))
    have E := Lib.hid E
    clear hG hY he0
    rcases hf0 with rfl | rfl
    all_goals
      go_enter Try.func28, Try.ntmps28
      go_wp2_with fail
      have G0 := GB.new w s
      refine (C.out _ _ _ G0.c0 G0.c2 G0.f2).mono ?_
      rintro e w1 ⟨rfl, k1, rfl⟩
      have G1 := G0.step k1 j
      generalize World.setCell _ _ _ = w1 at G1 ⊢
      clear G0
      have HG := Lib.hid G1
      clear G1
      go_wp2_with fail
      refine (D.out _ _ _ HG.out.c0 HG.out.c2 HG.out.f2).mono ?_
      rintro e w2 ⟨rfl, k2, rfl⟩
      have G2 := HG.out.step k2 q
      generalize World.setCell _ _ _ = w2 at G2 ⊢
      have HG2 := Lib.hid G2
      have x0 := G2.c0
      have x2 := G2.c2
      clear G2
      go_wp2_with fail
      refine (E.out _).mono ?_
      rintro e w3 ⟨rfl, b3⟩
      have G3 := HG2.out.below (bel_of_alloc b3)
      have HG3 := Lib.hid G3
      obtain ⟨r0, r1, r2⟩ := G3.r
      obtain ⟨g0, g1, g2⟩ := G3.g
      clear G3
      go_wp2_with fail
      refine bodyPost_ret (v := .tuple #[.agg #[.int .i64 0, .int .i64 0, .string ⟨#[]⟩], .int .i64 _]) (by simp [results, Try.results28, go_sem, r0, r1, r2]; rfl) rfl
        ⟨by rw [HV.out], HG3.out.set _ _ _⟩

/-- record's Get, at any body. -/
theorem get_any (s : ByteArray) (w : World) (hs : s.size ≤ 9223372036854775807) :
    Calls Try.prog 28 #[.string s] w fun e w' => e = .returned (getVal s.data.toList) ∧ Below w.heap.size w w' := by
  rcases ht : Vp.take s.data.toList with _ | ⟨n, j⟩
  · exact get_none s w hs ht
  rcases ht2 : Vp.take (s.data.toList.drop j) with _ | ⟨m, k⟩
  · exact get_half s w hs n j ht ht2
  · exact get_whole s w hs n j m k ht ht2
/-- The document's Get, at any body. -/
theorem rget_any (s : ByteArray) (w : World) (hs : s.size ≤ 9223372036854775807) :
    Calls Try.prog 30 #[.string s] w fun e w' => e = .returned (getVal s.data.toList) ∧ Below w.heap.size w w' := by
  rcases ht : Vp.take s.data.toList with _ | ⟨n, j⟩
  · exact rget_none s w hs ht
  rcases ht2 : Vp.take (s.data.toList.drop j) with _ | ⟨m, k⟩
  · exact rget_half s w hs n j ht ht2
  · exact rget_whole s w hs n j m k ht ht2

end Go.Proofs.Ytfodcgipdhppmaa
