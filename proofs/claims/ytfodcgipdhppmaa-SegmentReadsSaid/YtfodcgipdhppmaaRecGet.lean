/-
  What the document's Get and record's Get answer; nothing that was there is changed.
-/
import Derived.Test.YtfodcgipdhppmaaRecRef
namespace Go.Proofs.Ytfodcgipdhppmaa
open Go.RowKit

/-- What Get answers of a body. -/
def getVal (l : List UInt8) : Value := .tuple #[recVal (Rp.get l).1, .int .i64 (Rp.get l).2]
theorem getVal_no {l : List UInt8} {e : Int} (h : Rp.get l = (Rp.zero, e)) : getVal l = .tuple #[.agg #[.int .i64 0, .int .i64 0, .string ⟨#[]⟩], .int .i64 e] := by
  unfold getVal
  rw [h]
  rfl
theorem getVal_yes {l : List UInt8} {r : Rp.Rec} (h : Rp.get l = (r, 0)) : getVal l = .tuple #[recVal r, .int .i64 0] := by
  unfold getVal
  rw [h]
set_option maxRecDepth 100000 in
set_option maxHeartbeats 1600000 in
theorem rget_none (s : ByteArray) (w : World) (hs : s.size ≤ 9223372036854775807) (ht : Vp.take s.data.toList = none) :
    Calls Try.prog 30 #[.string s] w fun e w' => e = .returned (getVal s.data.toList) ∧ Below w.heap.size w w' := by
  have C := fun W : World => rread_any s 0 W hs
  rw [show rdAt s 0 = .tuple #[.int .i64 0, .int .i64 0, .bool false] from rdVal_none 0 ht] at C
  have C := Lib.hid C
  have HV := Lib.hid (getVal_no (Rp.get_none ht))
  clear ht
  go_enter Try.func30, Try.ntmps30
  go_wp2_with fail
  refine (C.out _).mono ?_
  rintro e w1 ⟨rfl, b1⟩
  obtain ⟨hc, hf⟩ := bcell b1
  go_wp2_with fail
  have hb : Below w.heap.size w w1 := bel_of_alloc b1
  exact bodyPost_ret (v := .tuple #[.agg #[.int .i64 0, .int .i64 0, .string ⟨#[]⟩], .int .i64 3]) (by simp [results, Try.results30, go_sem, hc]) rfl
    ⟨by rw [HV.out], ((hb.setCell (p := ⟨w.heap.size, 0, none⟩) (Nat.le_refl _) _).setCell (p := ⟨w.heap.size, 1, none⟩) (Nat.le_refl _) _).setCell (p := ⟨w.heap.size, 2, none⟩) (Nat.le_refl _) _⟩

set_option maxRecDepth 100000 in
set_option maxHeartbeats 1600000 in
theorem rget_half (s : ByteArray) (w : World) (hs : s.size ≤ 9223372036854775807) (n j : Nat) (ht : Vp.take s.data.toList = some (n, j)) (ht2 : Vp.take (s.data.toList.drop j) = none) :
    Calls Try.prog 30 #[.string s] w fun e w' => e = .returned (getVal s.data.toList) ∧ Below w.heap.size w w' := by
  have C := fun W : World => rread_any s ((0 : Nat) : Int) W hs
  rw [rdAt_some (k := 0) ht (Nat.zero_add j)] at C
  have C : ∀ W : World, Calls Try.prog 44 #[.string s, .int .i64 0] W fun e w' => e = .returned (.tuple #[.int .i64 (n : Int), .int .i64 (j : Int), .bool true]) ∧ Below W.heap.size W w' := C
  have C := Lib.hid C
  have D := fun W : World => rread_any s (j : Int) W hs
  rw [rdAt_none ht2] at D
  have D := Lib.hid D
  have HV := Lib.hid (getVal_no (Rp.get_half ht ht2))
  clear ht ht2
  go_enter Try.func30, Try.ntmps30
  go_wp2_with fail
  refine (C.out _).mono ?_
  rintro e w1 ⟨rfl, b1⟩
  go_wp2_with fail
  refine (D.out _).mono ?_
  rintro e w2 ⟨rfl, b2⟩
  have b12 := bel_trans2 b1 b2
  obtain ⟨hc, hf⟩ := bcell b12
  go_wp2_with fail
  have hb : Below w.heap.size w w2 := bel_of_alloc b12
  exact bodyPost_ret (v := .tuple #[.agg #[.int .i64 0, .int .i64 0, .string ⟨#[]⟩], .int .i64 3]) (by simp [results, Try.results30, go_sem, hc]) rfl
    ⟨by rw [HV.out], ((hb.setCell (p := ⟨w.heap.size, 0, none⟩) (Nat.le_refl _) _).setCell (p := ⟨w.heap.size, 1, none⟩) (Nat.le_refl _) _).setCell (p := ⟨w.heap.size, 2, none⟩) (Nat.le_refl _) _⟩

set_option maxRecDepth 100000 in
set_option maxHeartbeats 1600000 in
theorem rget_whole (s : ByteArray) (w : World) (hs : s.size ≤ 9223372036854775807) (n j m k : Nat) (ht : Vp.take s.data.toList = some (n, j)) (ht2 : Vp.take (s.data.toList.drop j) = some (m, k)) :
    Calls Try.prog 30 #[.string s] w fun e w' => e = .returned (getVal s.data.toList) ∧ Below w.heap.size w w' := by
  have C := fun W : World => rread_any s ((0 : Nat) : Int) W hs
  rw [rdAt_some (k := 0) ht (Nat.zero_add j)] at C
  have C : ∀ W : World, Calls Try.prog 44 #[.string s, .int .i64 0] W fun e w' => e = .returned (.tuple #[.int .i64 (n : Int), .int .i64 (j : Int), .bool true]) ∧ Below W.heap.size W w' := C
  have C := Lib.hid C
  obtain ⟨q, hq⟩ : ∃ q, j + k = q := ⟨_, rfl⟩
  have D := fun W : World => rread_any s (j : Int) W hs
  rw [rdAt_some ht2 hq] at D
  have D := Lib.hid D
  have hjl := (Vp.take_some ht).2.2.1
  have hkl := (Vp.take_some ht2).2.2.1
  rw [List.length_drop] at hkl
  rw [show s.data.toList.length = s.size from rfl] at hjl hkl
  have q0 : (0 : Int) ≤ (q : Int) := by omega
  have q1 : (q : Int) ≤ (s.size : Int) := by omega
  have E := fun W : World => why_any ⟨(n : Int), (m : Int), s.extract q s.size⟩ W (by show (s.extract q s.size).size ≤ _; rw [ByteArray.size_extract]; omega)
  have hG := @Rp.get_bad s.data.toList n j m k ht ht2
  have hY := @Rp.get_yes s.data.toList n j m k ht ht2
  rw [hq, ext_drop] at hG hY
  clear ht ht2 hq hjl hkl
  unfold recVal at E
  dsimp only at E
  rcases Rp.fault_cases ⟨(n : Int), (m : Int), s.extract q s.size⟩ with ⟨hf0, _⟩ | ⟨_, hf0⟩
  · have HV := Lib.hid (getVal_yes (hY hf0))
    rw [hf0] at E
    have E := Lib.hid E
    clear hf0 hG hY
    go_enter Try.func30, Try.ntmps30
    go_wp2_with fail
    refine (C.out _).mono ?_
    rintro e w1 ⟨rfl, b1⟩
    go_wp2_with fail
    refine (D.out _).mono ?_
    rintro e w2 ⟨rfl, b2⟩
    have b12 := bel_trans2 b1 b2
    go_wp2_with fail
    refine (E.out _).mono ?_
    rintro e w3 ⟨rfl, b3⟩
    obtain ⟨x0, x1, x2, b23⟩ := box_keep (box_new w2 _ _ _ _) b3
    have b123 := bel_trans2 b12 b23
    obtain ⟨hc, hf⟩ := bcell b123
    go_wp2_with fail
    have hb : Below w.heap.size w w3 := bel_of_alloc b123
    exact bodyPost_ret (v := .tuple #[.agg #[.int .i64 (n : Int), .int .i64 (m : Int), .string (s.extract q s.size)], .int .i64 0]) (by simp [results, Try.results30, go_sem, hc]) rfl
      ⟨by rw [HV.out]; rfl, ((hb.setCell (p := ⟨w.heap.size, 0, none⟩) (Nat.le_refl _) _).setCell (p := ⟨w.heap.size, 1, none⟩) (Nat.le_refl _) _).setCell (p := ⟨w.heap.size, 2, none⟩) (Nat.le_refl _) _⟩
  · obtain ⟨e0, he0⟩ : ∃ e0, Rp.fault ⟨(n : Int), (m : Int), s.extract q s.size⟩ = e0 := ⟨_, rfl⟩
    rw [he0] at E hf0 hG
    have HV := Lib.hid (getVal_no (hG (by omega)))
    have E := Lib.hid E
    clear hG hY he0
    rcases hf0 with rfl | rfl
    all_goals
      go_enter Try.func30, Try.ntmps30
      go_wp2_with fail
      refine (C.out _).mono ?_
      rintro e w1 ⟨rfl, b1⟩
      go_wp2_with fail
      refine (D.out _).mono ?_
      rintro e w2 ⟨rfl, b2⟩
      have b12 := bel_trans2 b1 b2
      go_wp2_with fail
      refine (E.out _).mono ?_
      rintro e w3 ⟨rfl, b3⟩
      have b123 := bel_trans2 b12 (bel_of_alloc b3)
      obtain ⟨hc, hf⟩ := bcell b123
      go_wp2_with fail
      have hb : Below w.heap.size w w3 := bel_of_alloc b123
      refine bodyPost_ret (v := .tuple #[.agg #[.int .i64 0, .int .i64 0, .string ⟨#[]⟩], .int .i64 _]) (by simp [results, Try.results30, go_sem, hc]; rfl) rfl
        ⟨by rw [HV.out], ((hb.setCell (p := ⟨w.heap.size, 0, none⟩) (Nat.le_refl _) _).setCell (p := ⟨w.heap.size, 1, none⟩) (Nat.le_refl _) _).setCell (p := ⟨w.heap.size, 2, none⟩) (Nat.le_refl _) _⟩

end Go.Proofs.Ytfodcgipdhppmaa
