/-
  What fold's pair answers; nothing that was there is changed.
-/
import Derived.Test.YtndfpbolneofmaaFoldVal
import Derived.Test.YtndfpbolneofmaaVarRead
import Derived.RegionTactic
namespace Go.Proofs.Ytndfpbolneofmaa
open Go.RowKit

/-- What pair answers at a place of a text. -/
def pairVal (l : List UInt8) (k : Nat) : Value :=
  match Fp.pairAt l with
  | none => .tuple #[.agg #[.int .u8 0, .string ⟨#[]⟩], .int .i64 0, .bool false]
  | some (p, j) => .tuple #[.agg #[.int .u8 (p.k.toNat : Int), .string p.v], .int .i64 ((k + j : Nat) : Int), .bool true]
theorem pairVal_none {l : List UInt8} (k : Nat) (h : Fp.pairAt l = none) : pairVal l k = .tuple #[.agg #[.int .u8 0, .string ⟨#[]⟩], .int .i64 0, .bool false] := by unfold pairVal; rw [h]
theorem pairVal_some {l : List UInt8} (k : Nat) {p : Fp.Pr} {j : Nat} (h : Fp.pairAt l = some (p, j)) : pairVal l k = .tuple #[.agg #[.int .u8 (p.k.toNat : Int), .string p.v], .int .i64 ((k + j : Nat) : Int), .bool true] := by unfold pairVal; rw [h]

/-- Where no number stands there is no pair. -/
theorem pairAt_no {s : ByteArray} {k : Nat} (h : Vp.take (s.data.toList.drop (k + 1)) = none) : Fp.pairAt (s.data.toList.drop k) = none := by
  rcases Nat.lt_or_ge k s.data.toList.length with h1 | h1
  · rw [List.drop_eq_getElem_cons h1, Fp.pairAt, h]
  · rw [List.drop_eq_nil_of_le h1, Fp.pairAt]
theorem take_nil : Vp.take [] = none := rfl
theorem pairAt_at {s : ByteArray} {k n j : Nat} (h : Vp.take (s.data.toList.drop (k + 1)) = some (n, j)) (hk : k < s.size) :
    Fp.pairAt (s.data.toList.drop k) = if s.size < k + 1 + j + n then none else some (⟨s[k], s.extract (k + 1 + j) (k + 1 + j + n)⟩, 1 + j + n) := by
  have hk' : k < s.data.toList.length := hk
  have hjl := (Vp.take_some h).2.2.1
  have e : s.data.toList.length = s.size := rfl
  rw [List.length_drop, e] at hjl
  rw [List.drop_eq_getElem_cons hk', Fp.pairAt, h]
  simp only [List.length_drop, e]
  rw [mk_ext]
  by_cases h1 : s.size < k + 1 + j + n
  · rw [if_pos h1, if_pos (by omega)]
  · rw [if_neg h1, if_neg (by omega)]
    rfl
theorem take_pos {s : ByteArray} {k n j : Nat} (h : Vp.take (s.data.toList.drop (k + 1)) = some (n, j)) : k < s.size ∧ k + 1 + j ≤ s.size ∧ n < 9223372036854775808 := by
  have h1 := Vp.take_some h
  have e : s.data.toList.length = s.size := rfl
  rw [List.length_drop, e] at h1
  omega

theorem read_bel (s : ByteArray) (i : Int) (w : World) (hs : s.size ≤ 9223372036854775807) :
    Calls Try.prog 24 #[.string s, .int .i64 i] w fun e w' => e = .returned (rdAt s i) ∧ Below w.heap.size w w' := by
  refine (read_any s i w hs).mono ?_
  rintro e w' ⟨he, n, rfl⟩
  exact ⟨he, bel_drewN n⟩

set_option maxRecDepth 100000 in
set_option maxHeartbeats 1600000 in
theorem pair_no (s : ByteArray) (k : Nat) (w : World) (hs : s.size ≤ 4611686018427387904) (hk : k ≤ s.size) (ht : Vp.take (s.data.toList.drop (k + 1)) = none) :
    Calls Try.prog 25 #[.string s, .int .i64 (k : Int)] w fun e w' => e = .returned (pairVal (s.data.toList.drop k) k) ∧ Below w.heap.size w w' := by
  have C := fun W : World => read_bel s ((k + 1 : Nat) : Int) W (by omega)
  rw [rdAt_none ht] at C
  have C : ∀ W : World, Calls Try.prog 24 #[.string s, .int .i64 ((k : Int) + 1)] W fun e w' => e = .returned (.tuple #[.int .i64 0, .int .i64 0, .bool false]) ∧ Below W.heap.size W w' := C
  have C := Lib.hid C
  have HV := Lib.hid (pairVal_none k (pairAt_no ht))
  clear ht
  go_enter Try.func25, Try.ntmps25
  go_wp2_with fail
  refine (C.out _).mono ?_
  rintro e w1 ⟨rfl, b1⟩
  obtain ⟨hc, hf⟩ := bcell b1
  have hb : Below w.heap.size w w1 := bel_of_alloc b1
  go_wp2_with fail
  exact bodyPost_ret (v := .tuple #[.agg #[.int .u8 0, .string ⟨#[]⟩], .int .i64 0, .bool false]) (by simp [results, Try.results25, go_sem, hc]) rfl
    ⟨by rw [HV.out], (hb.setCell (p := ⟨w.heap.size, 0, none⟩) (Nat.le_refl _) _).setCell (p := ⟨w.heap.size, 1, none⟩) (Nat.le_refl _) _⟩

set_option maxRecDepth 100000 in
set_option maxHeartbeats 1600000 in
theorem pair_long (s : ByteArray) (k n j : Nat) (w : World) (hs : s.size ≤ 4611686018427387904) (ht : Vp.take (s.data.toList.drop (k + 1)) = some (n, j)) (hn : s.size < k + 1 + j + n) :
    Calls Try.prog 25 #[.string s, .int .i64 (k : Int)] w fun e w' => e = .returned (pairVal (s.data.toList.drop k) k) ∧ Below w.heap.size w w' := by
  obtain ⟨hk, hj, hn2⟩ := take_pos ht
  have C := fun W : World => read_bel s ((k + 1 : Nat) : Int) W (by omega)
  obtain ⟨q, hq⟩ : ∃ q, k + 1 + j = q := ⟨_, rfl⟩
  rw [rdAt_some ht hq] at C
  have C : ∀ W : World, Calls Try.prog 24 #[.string s, .int .i64 ((k : Int) + 1)] W fun e w' => e = .returned (.tuple #[.int .i64 (n : Int), .int .i64 (q : Int), .bool true]) ∧ Below W.heap.size W w' := C
  have C := Lib.hid C
  have HV := Lib.hid (pairVal_none k (by rw [pairAt_at ht hk, if_pos hn]))
  have h1 : (s.size : Int) - (q : Int) < (n : Int) := by omega
  have h2 : (q : Int) ≤ (s.size : Int) := by omega
  clear ht hq hn hj
  go_enter Try.func25, Try.ntmps25
  go_wp2_with fail
  refine (C.out _).mono ?_
  rintro e w1 ⟨rfl, b1⟩
  obtain ⟨hc, hf⟩ := bcell b1
  have hb : Below w.heap.size w w1 := bel_of_alloc b1
  go_wp2_with fail
  exact bodyPost_ret (v := .tuple #[.agg #[.int .u8 0, .string ⟨#[]⟩], .int .i64 0, .bool false]) (by simp [results, Try.results25, go_sem, hc]) rfl
    ⟨by rw [HV.out], (hb.setCell (p := ⟨w.heap.size, 0, none⟩) (Nat.le_refl _) _).setCell (p := ⟨w.heap.size, 1, none⟩) (Nat.le_refl _) _⟩

set_option maxRecDepth 100000 in
set_option maxHeartbeats 1600000 in
theorem pair_yes (s : ByteArray) (k n j : Nat) (w : World) (hs : s.size ≤ 4611686018427387904) (ht : Vp.take (s.data.toList.drop (k + 1)) = some (n, j)) (hn : k + 1 + j + n ≤ s.size) :
    Calls Try.prog 25 #[.string s, .int .i64 (k : Int)] w fun e w' => e = .returned (pairVal (s.data.toList.drop k) k) ∧ Below w.heap.size w w' := by
  obtain ⟨hk, hj, hn2⟩ := take_pos ht
  have C := fun W : World => read_bel s ((k + 1 : Nat) : Int) W (by omega)
  obtain ⟨q, hq⟩ : ∃ q, k + 1 + j = q := ⟨_, rfl⟩
  rw [rdAt_some ht hq] at C
  have C : ∀ W : World, Calls Try.prog 24 #[.string s, .int .i64 ((k : Int) + 1)] W fun e w' => e = .returned (.tuple #[.int .i64 (n : Int), .int .i64 (q : Int), .bool true]) ∧ Below W.heap.size W w' := C
  have C := Lib.hid C
  have HV := Lib.hid (pairVal_some k (by rw [pairAt_at ht hk, if_neg (by omega)]))
  rw [hq, show k + (1 + j + n) = q + n by omega] at HV
  have h1 : (n : Int) ≤ (s.size : Int) - (q : Int) := by omega
  have h2 : (q : Int) ≤ (s.size : Int) := by omega
  have h3 : (q : Int) + (n : Int) ≤ (s.size : Int) := by omega
  have h4 : (q : Int) ≤ (q : Int) + (n : Int) := by omega
  have h5 : (k : Int) < (s.size : Int) := by omega
  clear ht hq hn hj
  go_enter Try.func25, Try.ntmps25
  go_wp2_with fail
  refine (C.out _).mono ?_
  rintro e w1 ⟨rfl, b1⟩
  obtain ⟨hc, hf⟩ := bcell b1
  have hb : Below w.heap.size w w1 := bel_of_alloc b1
  go_wp2_with fail
  go_region
  go_wp2_with fail
  exact bodyPost_ret (v := .tuple #[.agg #[.int .u8 (s[k].toNat : Int), .string (s.extract q (q + n))], .int .i64 ((q : Int) + (n : Int)), .bool true]) (by simp [results, Try.results25, go_sem, hc]) rfl
    ⟨by rw [HV.out]; rfl, ((hb.setCell (p := ⟨w.heap.size, 0, none⟩) (Nat.le_refl _) _).setCell (p := ⟨w.heap.size, 1, none⟩) (Nat.le_refl _) _).drew⟩

/-- fold's pair, at any place of a text. -/
theorem pair_any (s : ByteArray) (k : Nat) (w : World) (hs : s.size ≤ 4611686018427387904) (hk : k ≤ s.size) :
    Calls Try.prog 25 #[.string s, .int .i64 (k : Int)] w fun e w' => e = .returned (pairVal (s.data.toList.drop k) k) ∧ Below w.heap.size w w' := by
  rcases ht : Vp.take (s.data.toList.drop (k + 1)) with _ | ⟨n, j⟩
  · exact pair_no s k w hs hk ht
  · by_cases h : s.size < k + 1 + j + n
    · exact pair_long s k n j w hs ht h
    · exact pair_yes s k n j w hs ht (by omega)

end Go.Proofs.Ytndfpbolneofmaa
