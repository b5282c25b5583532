/-
  What the statements' example of layer 9 answers.
-/
import Derived.Test.YtfodcgipdhppmaaSegProg
import Derived.Test.YtfodcgipdhppmaaRecRrow
import Derived.Laws.StructEq
namespace Go.Proofs.Ytfodcgipdhppmaa
open Go.RowKit Go.Proofs.Ytfodcgipdhppmaa.Mks

theorem ext_take (R : List UInt8) (n : Nat) : (⟨R.toArray⟩ : ByteArray).extract 0 n = ⟨(R.take n).toArray⟩ := by
  have := mk_ext ⟨R.toArray⟩ 0 0 n
  rw [Nat.zero_add, Nat.zero_add] at this
  rw [this]
  rfl
/-- The example's records. -/
def aw3 : Rp.Rec := ⟨3, 0, ⟨#[97]⟩⟩
def aw4 : Rp.Rec := ⟨4, 0, ⟨#[98]⟩⟩
theorem aw3_ok : Rp.Ok aw3 := ⟨by decide, by decide, by decide, by decide, by decide⟩
theorem aw4_ok : Rp.Ok aw4 := ⟨by decide, by decide, by decide, by decide, by decide⟩
theorem aw_all : ∀ r ∈ [aw3, aw4], Rp.Ok r := by
  intro r hr
  simp at hr
  rcases hr with rfl | rfl
  · exact aw3_ok
  · exact aw4_ok
theorem aw3_len : (Fr.fr (Rp.body aw3)).length = 8 := by
  rw [Rp.fr_le aw3_ok, Rp.body_len]
  show (Vp.put 3).length + (Vp.put 0).length + 1 + 5 = 8
  rw [Rp.put_one (by decide), Rp.put_one (by decide)]
theorem aw4_len : (Fr.fr (Rp.body aw4)).length = 8 := by
  rw [Rp.fr_le aw4_ok, Rp.body_len]
  show (Vp.put 4).length + (Vp.put 0).length + 1 + 5 = 8
  rw [Rp.put_one (by decide), Rp.put_one (by decide)]
theorem aw_row : Rp.rowB [aw3, aw4] = Fr.fr (Rp.body aw3) ++ Fr.fr (Rp.body aw4) := by
  rw [Rp.rowB_cons, Rp.rowB_cons, Rp.rowB_nil, List.append_nil]
theorem aw_len : (Rp.rowB [aw3, aw4]).length = 16 := by rw [aw_row, List.length_append, aw3_len, aw4_len]
theorem aw_full : Gp.full (Rp.rowB [aw3, aw4]) 3 = ([(aw3, 0), (aw4, 8)], 16, 0) := by
  rw [Gp.full_in (Rp.inB_mk (by decide) (by decide))]
  have := Gp.pls_rows [aw3, aw4] 3 0 [] 0 aw_all ⟨rfl, rfl, trivial⟩ (.inl ⟨rfl, rfl⟩)
  rw [List.append_nil, aw_len] at this
  show Gp.pls (Rp.rowB [aw3, aw4]) 3 0 = _
  rw [this]
  simp [Gp.withAt, aw3_len]
theorem aw_cut : Gp.full ((Rp.rowB [aw3, aw4]).take 15) 3 = ([(aw3, 0)], 8, 2) := by
  rw [Gp.full_in (Rp.inB_mk (by decide) (by decide))]
  have e : (Rp.rowB [aw3, aw4]).take 15 = Rp.rowB [aw3] ++ (Fr.fr (Rp.body aw4)).take 7 := by
    rw [aw_row, Rp.rowB_cons, Rp.rowB_nil, List.append_nil, List.take_append, aw3_len, List.take_of_length_le (by rw [aw3_len]; decide)]
  have h1 : (Rp.rowB [aw3]).length = 8 := by rw [Rp.rowB_cons, Rp.rowB_nil, List.append_nil, aw3_len]
  have := Gp.pls_rows [aw3] 3 0 ((Fr.fr (Rp.body aw4)).take 7) 2 (fun r hr => aw_all r (by simp at hr ⊢; exact .inl hr)) ⟨rfl, trivial⟩ (.inr ⟨fun h => by have := congrArg List.length h; rw [List.length_take, aw4_len] at this; simp at this, Gp.nxt_cut aw4_ok (by rw [aw4_len]; decide), by decide⟩)
  rw [← e, h1] at this
  show Gp.pls ((Rp.rowB [aw3, aw4]).take 15) 3 0 = _
  rw [this]
  rfl
theorem aw_recs (w : World) : IsRecs (w.alloc (.cells #[.int .i64 3, .int .i64 0, .string ⟨#[97]⟩, .int .i64 4, .int .i64 0, .string ⟨#[98]⟩] 35)) (.slice (some ⟨w.heap.size, 0, none⟩) 2 2) [aw3, aw4] := by
  refine ⟨_, 2, rfl, by decide, fun r hr => RecOk.of (aw_all r hr), .inr ⟨w.heap.size, 0, rfl, fun i hi => ?_⟩⟩
  have hh := heap_alloc_new w (.cells #[.int .i64 3, .int .i64 0, .string ⟨#[97]⟩, .int .i64 4, .int .i64 0, .string ⟨#[98]⟩] 35)
  match i, hi with
  | 0, _ => exact ⟨by rw [cell_of_row _ _ _ _ _ _ hh]; rfl, by rw [cell_of_row _ _ _ _ _ _ hh]; rfl, by rw [cell_of_row _ _ _ _ _ _ hh]; rfl⟩
  | 1, _ => exact ⟨by rw [cell_of_row _ _ _ _ _ _ hh]; rfl, by rw [cell_of_row _ _ _ _ _ _ hh]; rfl, by rw [cell_of_row _ _ _ _ _ _ hh]; rfl⟩

set_option maxRecDepth 100000 in
set_option maxHeartbeats 1600000 in
theorem awake09 (w : World) : Calls Try.prog 7 #[] w fun e w' => e = .returned (.bool true) ∧ Below w.heap.size w w' := by
  have A0 := Lib.hid ((Below.refl w.heap.size w).alloc (Nat.le_refl _) (.cells #[.int .i64 3, .int .i64 0, .string ⟨#[97]⟩, .int .i64 4, .int .i64 0, .string ⟨#[98]⟩] 35))
  have R1 := rrecrow_any _ _ _ (aw_recs w) (by decide)
  rw [rowVal_ok aw_all] at R1
  obtain ⟨S, hS⟩ : ∃ S : ByteArray, (⟨(Rp.rowB [aw3, aw4]).toArray⟩ : ByteArray) = S := ⟨_, rfl⟩
  have hz : S.size = 16 := by rw [← hS, size_mk_list]; exact aw_len
  have hl : S.data.toList = Rp.rowB [aw3, aw4] := by rw [← hS]
  have hcz : S.extract 0 15 = ⟨((Rp.rowB [aw3, aw4]).take 15).toArray⟩ := by rw [← hS]; exact ext_take _ _
  have SC := fun W : World => scan9_any (S.extract 0 15) 3 W (by rw [hcz, size_mk_list, List.length_take]; omega) (by decide) (by decide)
  have IX := fun W : World => index9_any S 3 1 W (by omega) (by decide) (by decide) (by decide) (by decide)
  have RD := fun (W : World) (v : Value) hv => read9_any S 3 1 4 v W (by omega) (by decide) (by decide) (by decide) (by decide) (by decide) (by decide) hv
  rw [show (S.extract 0 15).data.toList = (Rp.rowB [aw3, aw4]).take 15 from by rw [hcz], aw_cut] at SC
  rw [hl, aw_full] at IX RD
  have hrd : rdVal9 [(aw3, 0), (aw4, 8)] 3 4 = .tuple #[.agg #[.int .i64 4, .int .i64 0, .string ⟨#[98]⟩], .int .i64 0] := by
    unfold rdVal9
    rw [show (4 : Int) = 3 + ((1 : Nat) : Int) from rfl, Gp.rd_in _ _ (show 1 < [(aw3, 0), (aw4, 8)].length by decide)]
    rfl
  dsimp only at SC IX RD
  rw [hrd] at RD
  rw [hS] at R1
  replace R1 := Lib.hid R1
  replace SC := Lib.hid SC
  replace IX := Lib.hid IX
  replace RD := Lib.hid RD
  clear hS hl hcz hrd
  go_enter Try.func7, Try.ntmps7
  go_wp2_with fail
  refine R1.out.mono ?_
  rintro e w1 ⟨rfl, b1⟩
  have B1 := Lib.hid (A0.out.trans (b1.mono A0.out.size))
  clear b1
  go_wp2_with fail
  refine (SC.out _).mono ?_
  rintro e w2 ⟨v2, rfl, hv2, b2⟩
  obtain ⟨va, vn, vc, rfl⟩ : ∃ a n c, v2 = .slice a n c := by obtain ⟨a, c, h, _⟩ := hv2; exact ⟨a, _, c, h⟩
  obtain rfl : vn = 1 := (recs_len hv2).1
  have B2 := Lib.hid (B1.out.trans (b2.mono B1.out.size))
  clear b2 hv2
  dsimp only
  go_wp2_with fail
  refine (IX.out _).mono ?_
  rintro e w3 ⟨v3, rfl, hv3, b3⟩
  have B3 := Lib.hid (B2.out.trans (b3.mono B2.out.size))
  have RD3 := Lib.hid (RD.out _ _ hv3)
  clear b3 hv3
  go_wp2_with fail
  refine RD3.out.mono ?_
  rintro e w4 ⟨rfl, b4⟩
  have B4 := Lib.hid ((B3.out.trans (b4.mono B3.out.size)).alloc (Nat.le_trans B3.out.size b4.size) (.cells #[.int .i64 4, .int .i64 0, .string ⟨#[98]⟩] 35))
  clear b4
  go_wp2_with fail
  go_ret
  exact ⟨by first | rfl | simp, B4.out⟩

end Go.Proofs.Ytfodcgipdhppmaa
