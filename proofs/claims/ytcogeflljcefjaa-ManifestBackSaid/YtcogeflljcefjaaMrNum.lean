/-
  What the program's reader of layer 10 takes of a text: a number, a sum.
-/
import Derived.Test.YtcogeflljcefjaaMrPlain
import Derived.Test.YtcogeflljcefjaaManVal
import Derived.Test.YtcogeflljcefjaaVarRead
import Derived.Deep.Heap
import Derived.Laws.BitsAllLaws
namespace Go.Proofs.Ytcogeflljcefjaa.Mfs
open Go.RowKit Go.Proofs.Ytcogeflljcefjaa.Qm

/-- A reader in a box: what is left, is it bad. -/
def RD (r : Nat) (l : List UInt8) (b : Bool) (w : World) : Prop := w.heap[r]? = some (.cells #[.string ⟨l.toArray⟩, .bool b] 44 (0, 0))
theorem RD.cells {r : Nat} {l : List UInt8} {b : Bool} {w : World} (h : RD r l b w) : w.cell? ⟨r, 0, none⟩ = some (.string ⟨l.toArray⟩) ∧ w.cell? ⟨r, 1, none⟩ = some (.bool b) ∧ w.frozen? ⟨r, 0, none⟩ = false ∧ w.frozen? ⟨r, 1, none⟩ = false :=
  ⟨by rw [cell_of_row _ _ 0 _ _ _ h]; rfl, by rw [cell_of_row _ _ 1 _ _ _ h]; rfl, by unfold World.frozen?; rw [h]; rfl, by unfold World.frozen?; rw [h]; rfl⟩
theorem RD.lt {r : Nat} {l : List UInt8} {b : Bool} {w : World} (h : RD r l b w) : r < w.heap.size := (Array.getElem?_eq_some_iff.1 h).1
theorem RD.keep {r : Nat} {l : List UInt8} {b : Bool} {w w' : World} (h : RD r l b w) (k : Below w.heap.size w w') : RD r l b w' := (k.block r h.lt).trans h
theorem RD.rest {r : Nat} {l l' : List UInt8} {b : Bool} {w : World} (h : RD r l b w) : RD r l' b (w.setCell ⟨r, 0, none⟩ (.string ⟨l'.toArray⟩)) := heap_setCell_same w r 0 _ _ _ h
theorem RD.bad {r : Nat} {l : List UInt8} {b b' : Bool} {w : World} (h : RD r l b w) : RD r l b' (w.setCell ⟨r, 1, none⟩ (.bool b')) := heap_setCell_same w r 1 _ _ _ h
theorem grown_bel {w w1 : World} (r : Nat) (h : Below w.heap.size w w1) : w.grownBy w1 (some r) := ⟨h.os, h.tape, h.output, h.size, fun k hk _ => h.block k hk⟩
theorem grown_trans {w w1 w2 : World} {r : Nat} (h : w.grownBy w1 (some r)) (k : w1.grownBy w2 (some r)) : w.grownBy w2 (some r) :=
  ⟨k.os.trans h.os, k.tape.trans h.tape, k.output.trans h.output, Nat.le_trans h.size k.size, fun i hi hn => (k.block i (Nat.lt_of_lt_of_le hi h.size) hn).trans (h.block i hi hn)⟩
theorem grown_set (w : World) (r o : Nat) (u : Value) : w.grownBy (w.setCell ⟨r, o, none⟩ u) (some r) :=
  ⟨rfl, rfl, rfl, by simp, fun k _ hk => heap_setCell_other w ⟨r, o, none⟩ k u (fun e => hk (by simp [e]))⟩

/-- What a step of the reader leaves: a value, the reader behind it, all else as it was. -/
def RdOut (r : Nat) (v : Value) (l : List UInt8) (b : Bool) (w : World) (e : Ending) (w' : World) : Prop := e = .returned v ∧ RD r l b w' ∧ w.grownBy w' (some r)

theorem slice_rest (s : ByteArray) (q : Nat) (w : World) (h : q ≤ s.size) : (Instr.slice 9 (.string s) (some (.int .i64 (q : Int))) none none).run Try.prog w = .ok (.string (s.extract q s.size)) w := by
  have := run_slice_string_l (P := Try.prog) (t := 9) (w := w) (s := s) (ht := Try.underlying9) .i64 (q : Int) (by omega) (by omega)
  rw [this, Int.toNat_natCast]
theorem extract_drop (l : List UInt8) (j : Nat) : (⟨l.toArray⟩ : ByteArray).extract j (⟨l.toArray⟩ : ByteArray).size = ⟨(l.drop j).toArray⟩ := (ext_drop ⟨l.toArray⟩ j).symm

set_option maxRecDepth 100000 in
set_option maxHeartbeats 1600000 in
theorem number_any (r : Nat) (l : List UInt8) (b : Bool) (w : World) (h : RD r l b w) (hl : l.length ≤ 140737488351232) :
    Calls Try.prog 31 #[.pointer (some ⟨r, 0, none⟩)] w (RdOut r (.int .i64 (numR l b).1) (numR l b).2.1 (numR l b).2.2 w) := by
  obtain ⟨B, hB⟩ : ∃ B : ByteArray, (⟨l.toArray⟩ : ByteArray) = B := ⟨_, rfl⟩
  have hz : B.size = l.length := by rw [← hB]; exact size_mk_list l
  have R := fun W : World => read_any B ((0 : Nat) : Int) W (by omega)
  have hD : B.data.toList.drop 0 = l := by rw [← hB]; rfl
  obtain ⟨c0, c1, f0, f1⟩ := h.cells
  have H := Lib.hid h
  rw [hB] at c0
  rcases ht : Vp.take l with _ | ⟨n, j⟩
  · rw [rdAt_none (by rw [hD]; exact ht)] at R
    rw [numR_none ht]
    dsimp only
    replace R := Lib.hid R
    clear ht hD hB h
    go_enter Try.func31, Try.ntmps31
    go_wp2_with fail
    refine (R.out _).mono ?_
    rintro e w1 ⟨rfl, k, rfl⟩
    have K := Lib.hid (H.out.keep (bel_drewN k))
    obtain ⟨d0, d1, g0, g1⟩ := K.out.cells
    have G := Lib.hid (grown_bel r (bel_drewN (w := w) k))
    go_wp2_with fail
    go_ret
    exact ⟨rfl, K.out.bad, grown_trans G.out (grown_set _ _ _ _)⟩
  · obtain ⟨_, _, hj, _⟩ := Vp.take_some ht
    rw [rdAt_some (q := j) (by rw [hD]; exact ht) (Nat.zero_add j)] at R
    rw [numR_some ht]
    dsimp only
    have HX := Lib.hid (show B.extract j B.size = ⟨(l.drop j).toArray⟩ by rw [← hB]; exact extract_drop l j)
    replace R := Lib.hid R
    have h1 : (0 : Int) ≤ (j : Int) := by omega
    have h2 : (j : Int) ≤ (B.size : Int) := by omega
    have HB := Lib.hid hB
    have hs := fun W : World => slice_rest B j W (by omega)
    rw [HX.out] at hs
    clear ht hD hB h
    go_enter Try.func31, Try.ntmps31
    go_wp2_with fail
    refine (R.out _).mono ?_
    rintro e w1 ⟨rfl, k, rfl⟩
    have K := Lib.hid (H.out.keep (bel_drewN k))
    obtain ⟨d0, d1, g0, g1⟩ := K.out.cells
    rw [HB.out] at d0
    have G := Lib.hid (grown_bel r (bel_drewN (w := w) k))
    go_wp2_with fail
    go_ret
    exact ⟨rfl, K.out.rest, grown_trans G.out (grown_set _ _ _ _)⟩

/-- What four bytes come to, one after another. -/
def up4 (l : List UInt8) : Nat → Nat
  | 0 => 0
  | k + 1 => up4 l k + 256 ^ k * (l.getD k 0).toNat
theorem up4_all (l : List UInt8) : up4 l 4 = val4 l := by
  unfold val4
  show 0 + 256 ^ 0 * (l.getD 0 0).toNat + 256 ^ 1 * (l.getD 1 0).toNat + 256 ^ 2 * (l.getD 2 0).toNat + 256 ^ 3 * (l.getD 3 0).toNat = _
  omega
theorem up4_lt (l : List UInt8) : ∀ k, up4 l k < 256 ^ k
  | 0 => Nat.zero_lt_one
  | k + 1 => by
    have := up4_lt l k
    have := (l.getD k 0).toNat_lt
    show up4 l k + 256 ^ k * (l.getD k 0).toNat < 256 ^ (k + 1)
    rw [Nat.pow_succ]
    have h : 256 ^ k * (l.getD k 0).toNat ≤ 256 ^ k * 255 := Nat.mul_le_mul_left _ (by omega)
    omega

theorem or_up (a y k : Nat) (hk : k < 4) (ha : a < 256 ^ k) (hy : y < 256) : bits .or .u32 (a : Int) ((y * 256 ^ k : Nat) : Int) = ((a + 256 ^ k * y : Nat) : Int) := by
  have h1 : 256 ^ k * y ≤ 256 ^ k * 255 := Nat.mul_le_mul_left _ (by omega)
  have h2 : 256 ^ k ≤ 256 ^ 3 := Nat.pow_le_pow_right (by decide) (by omega)
  have e : (256 : Nat) ^ k = 2 ^ (8 * k) := by rw [Nat.pow_mul]
  rw [u32_or_nat a (y * 256 ^ k) (by omega) (by rw [Nat.mul_comm]; omega)]
  rw [e, Nat.or_comm, ← Nat.shiftLeft_eq, ← Nat.shiftLeft_add_eq_or_of_lt (by rw [← e]; exact ha), Nat.shiftLeft_eq]
  congr 1
  rw [Nat.mul_comm, Nat.add_comm]

set_option maxRecDepth 100000 in
set_option maxHeartbeats 1600000 in
theorem rsum_any10 (r : Nat) (l : List UInt8) (b : Bool) (w : World) (h : RD r l b w) (hl : l.length ≤ 140737488351232) :
    Calls Try.prog 33 #[.pointer (some ⟨r, 0, none⟩)] w (RdOut r (.int .u32 (sumR l b).1) (sumR l b).2.1 (sumR l b).2.2 w) := by
  obtain ⟨B, hB⟩ : ∃ B : ByteArray, (⟨l.toArray⟩ : ByteArray) = B := ⟨_, rfl⟩
  have hz : B.size = l.length := by rw [← hB]; exact size_mk_list l
  obtain ⟨c0, c1, f0, f1⟩ := h.cells
  have H := Lib.hid h
  rw [hB] at c0
  by_cases h4 : l.length < 4
  · unfold sumR
    rw [if_pos h4]
    dsimp only
    have h5 : (B.size : Int) < 4 := by omega
    clear hB h h4
    go_enter Try.func33, Try.ntmps33
    go_wp2_with fail
    go_ret
    exact ⟨rfl, H.out.bad, grown_set _ _ _ _⟩
  · unfold sumR
    rw [if_neg h4]
    dsimp only
    have h5 : decide ((B.size : Int) < 4) = false := by simp; omega
    have HX := Lib.hid (show B.extract 4 B.size = ⟨(l.drop 4).toArray⟩ by rw [← hB]; exact extract_drop l 4)
    have hs := fun W : World => slice_rest B 4 W (by omega)
    rw [HX.out] at hs
    have hB4 : 4 ≤ B.size := by omega
    have HG := Lib.hid (show ∀ k (hk : k < B.size), (B[k]'hk).toNat = (l.getD k 0).toNat from fun k hk => by
      subst hB
      have hk' : k < l.length := by rw [← size_mk_list l]; exact hk
      rw [List.getD_eq_getElem?_getD, List.getElem?_eq_getElem hk']
      rfl)
    have HB := Lib.hid hB
    clear hB h h4 hz
    go_enter Try.func33, Try.ntmps33
    go_wp2_with fail
    go_loop [3, 14] (fun s i => ∃ k : Nat, k ≤ 4 ∧ i = .int .i64 k ∧ s = .int .u32 (up4 l k : Nat)) (fun _ i => 4 - (intOf i).toNat)
    case atStart => exact ⟨0, by omega, rfl, rfl⟩
    case round =>
      obtain ⟨k, hk, rfl, rfl⟩ := hrel
      have hc : k = 4 ∨ k < 4 := by omega
      by_cases hlt : k < 4
      · have hkB : k < B.size := by omega
        have hg := HG.out k hkB
        have hy := (l.getD k 0).toNat_lt
        have hu := up4_lt l k
        have HU := Lib.hid (show up4 l (k + 1) = up4 l k + 256 ^ k * (l.getD k 0).toNat from rfl)
        generalize (l.getD k 0).toNat = y at *
        generalize up4 l k = a at *
        have hk4 : k = 0 ∨ k = 1 ∨ k = 2 ∨ k = 3 := by omega
        rcases hk4 with rfl | rfl | rfl | rfl
        · have HO := Lib.hid (or_up a y 0 (by decide) hu hy)
          go_wp2_with fail
          go_round
          case rel => exact ⟨1, by decide, rfl, congrArg (Value.int .u32) (by have h := HO.out; rw [Nat.pow_zero, Nat.mul_one] at h; rw [HU.out, Nat.pow_zero]; exact h)⟩
          case measure => simp [intOf]
        · have HO := Lib.hid (or_up a y 1 (by decide) hu hy)
          go_wp2_with fail
          go_round
          case rel => exact ⟨2, by decide, rfl, congrArg (Value.int .u32) (by rw [HU.out]; exact HO.out)⟩
          case measure => simp [intOf]
        · have HO := Lib.hid (or_up a y 2 (by decide) hu hy)
          go_wp2_with fail
          go_round
          case rel => exact ⟨3, by decide, rfl, congrArg (Value.int .u32) (by rw [HU.out]; exact HO.out)⟩
          case measure => simp [intOf]
        · have HO := Lib.hid (or_up a y 3 (by decide) hu hy)
          go_wp2_with fail
          go_round
          case rel => exact ⟨4, by decide, rfl, congrArg (Value.int .u32) (by rw [HU.out]; exact HO.out)⟩
          case measure => simp [intOf]
      · obtain rfl : k = 4 := by omega
        go_wp2_with fail
        go_ret
        refine ⟨?_, ?_, grown_set _ _ _ _⟩
        · rw [up4_all]; rfl
        · rw [HX.out]; exact H.out.rest

end Go.Proofs.Ytcogeflljcefjaa.Mfs
