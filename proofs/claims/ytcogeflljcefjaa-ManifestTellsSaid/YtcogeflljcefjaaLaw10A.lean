/-
  What the statements' example of layer 10 answers.
-/
import Derived.Test.YtcogeflljcefjaaManProg
namespace Go.Proofs.Ytcogeflljcefjaa.Mfs
open Go.RowKit Go.Proofs.Ytcogeflljcefjaa.Qm

/-- The example's manifest. -/
def aw10 : Mn := ⟨1, [0], 0, 0⟩
theorem aw10_ok : Ok aw10 := by
  refine ⟨by decide, by decide, by decide, by decide, fun i hi => ?_, .inl ⟨rfl, rfl, rfl⟩, ⟨by decide, by decide⟩⟩
  obtain rfl : i = 0 := by have : i < 1 := hi; omega
  exact ⟨by decide, by decide, fun h => absurd h (Nat.lt_irrefl 0)⟩
theorem aw10_body : body aw10 = [1, 1, 0, 0, 0, 0, 0, 0] := by rfl
theorem aw10_len : (Fr.fr (body aw10)).length = 13 := by rw [aw10_body, Fr.fr_len]; rfl
theorem aw10_drop : (Fr.fr (body aw10)).drop 5 = [1, 1, 0, 0, 0, 0, 0, 0] := by
  rw [aw10_body]
  unfold Fr.fr
  exact List.drop_left' rfl
theorem aw10_is (w : World) : IsL IL (w.alloc (.cells #[.int .i64 0] 3)) (.slice (some ⟨w.heap.size, 0, none⟩) 1 1) aw10.l := by
  refine ⟨_, 1, rfl, by decide, fun x hx => ?_, .inr ⟨w.heap.size, 0, rfl, fun j u hj => ?_⟩⟩
  · obtain rfl : x = 0 := by simpa [aw10] using hx
    exact ⟨by decide, by decide⟩
  · have hh := heap_alloc_new w (.cells #[.int .i64 0] 3)
    match j, hj with
    | 0, hj => rw [cell_of_row _ _ _ _ _ _ hh]; exact hj

set_option maxRecDepth 100000 in
set_option maxHeartbeats 1600000 in
theorem awake10 (w : World) : Calls Try.prog 6 #[] w fun e w' => e = .returned (.bool true) ∧ Below w.heap.size w w' := by
  have A0 := Lib.hid ((Below.refl w.heap.size w).alloc (Nat.le_refl _) (.cells #[.int .i64 0] 3))
  have PT := put10_any _ 1 1 aw10 _ (aw10_is w) ⟨by decide, by decide, by decide⟩
  unfold mnVal putVal10 at PT
  rw [putM_yes aw10_ok] at PT
  obtain ⟨A, hA⟩ : ∃ A : ByteArray, (⟨(Fr.fr (body aw10)).toArray⟩ : ByteArray) = A := ⟨_, rfl⟩
  have hz : A.size = 13 := by rw [← hA, size_mk_list]; exact aw10_len
  have hx : A.extract 5 13 = ⟨#[1, 1, 0, 0, 0, 0, 0, 0]⟩ := by
    have := mk_ext A 5 0 8
    rw [show 5 + 0 + 8 = 13 from rfl, show 5 + 0 = 5 from rfl] at this
    rw [this, ← hA]
    show (⟨(((Fr.fr (body aw10)).drop 5).drop 0 |>.take 8).toArray⟩ : ByteArray) = _
    rw [aw10_drop]
    rfl
  have GT := fun W : World => get10_any A W (by omega)
  rw [show A.data.toList = Fr.fr (body aw10) from by rw [← hA], getM_yes aw10_ok] at GT
  dsimp only at PT
  rw [hA] at PT
  replace PT := Lib.hid PT
  replace GT := Lib.hid GT
  clear hA
  unfold aw10 at PT
  dsimp only at PT
  go_enter Try.func6, Try.ntmps6
  go_wp2_with fail
  refine PT.out.mono ?_
  rintro e w1 ⟨rfl, b1⟩
  have B1 := Lib.hid (A0.out.trans (b1.mono A0.out.size))
  clear b1
  go_wp2_with fail
  refine (GT.out _).mono ?_
  rintro e w2 ⟨a, n, c, rfl, hv, b2⟩
  obtain rfl : n = 1 := hv.len.1
  have B2 := Lib.hid ((B1.out.trans (b2.mono B1.out.size)).alloc (Nat.le_trans B1.out.size b2.size) (.cells #[.int .i64 1, .slice a 1 c, .int .i64 0, .int .u32 0] 25))
  unfold mnVal aw10
  dsimp only
  clear b2 hv
  go_wp2_with fail
  go_ret
  exact ⟨by first | rfl | simp, B2.out⟩

end Go.Proofs.Ytcogeflljcefjaa.Mfs
