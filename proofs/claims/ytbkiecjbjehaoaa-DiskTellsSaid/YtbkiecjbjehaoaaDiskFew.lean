/-
  What disk's Arm, Limit, Crash, Read, Names and Right answer.
-/
import Derived.Test.YtbkiecjbjehaoaaDiskAll
import Derived.Deep.RegionWith
namespace Go.Proofs.Ytbkiecjbjehaoaa.Dsk
open Go.RowKit Go.Proofs.Ytbkiecjbjehaoaa.Dp

/-- What a call answers that makes a disk. -/
def DkSet (w : World) (fv : Value) (l0 : List Fl) (R : Dk) (e : Ending) (w' : World) : Prop := ∃ v, e = .returned (dkVal v R) ∧ DkRes w fv l0 R v w'

set_option maxRecDepth 100000 in
theorem arm_val (fv : Value) (D : Dk) (k : Int) (w : World) (hv : IsL FL w fv D.f) :
    Calls Try.prog 29 #[dkVal fv D, .int .i64 k] w fun e w' => e = .returned (dkVal fv (arm D k)) ∧ Below w.heap.size w w' := by
  obtain ⟨fa, fn, fc, rfl⟩ : ∃ a n c, fv = .slice a n c := by obtain ⟨a, c, h, _⟩ := hv; exact ⟨a, _, c, h⟩
  clear hv
  unfold dkVal
  go_enter Try.func29, Try.ntmps29
  go_wp2_with fail
  refine bodyPost_ret (v := .agg #[.slice fa fn fc, .int .i64 D.c, .bool (decide (0 ≤ k)), .int .i64 (max k 0), .bool D.x]) (by simp [results, Try.results29, go_sem]) rfl ?_
  exact ⟨rfl, ((Below.refl _ _).alloc (Nat.le_refl _) _).alloc (by simp) _⟩
set_option maxRecDepth 100000 in
theorem limit_val (fv : Value) (D : Dk) (k : Int) (w : World) (hv : IsL FL w fv D.f) :
    Calls Try.prog 30 #[dkVal fv D, .int .i64 k] w fun e w' => e = .returned (dkVal fv (limit D k)) ∧ Below w.heap.size w w' := by
  obtain ⟨fa, fn, fc, rfl⟩ : ∃ a n c, fv = .slice a n c := by obtain ⟨a, c, h, _⟩ := hv; exact ⟨a, _, c, h⟩
  clear hv
  unfold dkVal
  go_enter Try.func30, Try.ntmps30
  go_wp2_with fail
  refine bodyPost_ret (v := .agg #[.slice fa fn fc, .int .i64 (max k 0), .bool D.a, .int .i64 D.l, .bool D.x]) (by simp [results, Try.results30, go_sem]) rfl ?_
  exact ⟨rfl, ((Below.refl _ _).alloc (Nat.le_refl _) _).alloc (by simp) _⟩
set_option maxRecDepth 100000 in
theorem rarm_val (fv : Value) (D : Dk) (k : Int) (w : World) (hv : IsL FL w fv D.f) :
    Calls Try.prog 37 #[dkVal fv D, .int .i64 k] w fun e w' => e = .returned (dkVal fv (arm D k)) ∧ Below w.heap.size w w' := by
  obtain ⟨fa, fn, fc, rfl⟩ : ∃ a n c, fv = .slice a n c := by obtain ⟨a, c, h, _⟩ := hv; exact ⟨a, _, c, h⟩
  clear hv
  unfold dkVal
  go_enter Try.func37, Try.ntmps37
  go_wp2_with fail
  refine bodyPost_ret (v := .agg #[.slice fa fn fc, .int .i64 D.c, .bool (decide (0 ≤ k)), .int .i64 (max k 0), .bool D.x]) (by simp [results, Try.results37, go_sem]) rfl ?_
  exact ⟨rfl, ((Below.refl _ _).alloc (Nat.le_refl _) _).alloc (by simp) _⟩
set_option maxRecDepth 100000 in
theorem rlimit_val (fv : Value) (D : Dk) (k : Int) (w : World) (hv : IsL FL w fv D.f) :
    Calls Try.prog 38 #[dkVal fv D, .int .i64 k] w fun e w' => e = .returned (dkVal fv (limit D k)) ∧ Below w.heap.size w w' := by
  obtain ⟨fa, fn, fc, rfl⟩ : ∃ a n c, fv = .slice a n c := by obtain ⟨a, c, h, _⟩ := hv; exact ⟨a, _, c, h⟩
  clear hv
  unfold dkVal
  go_enter Try.func38, Try.ntmps38
  go_wp2_with fail
  refine bodyPost_ret (v := .agg #[.slice fa fn fc, .int .i64 (max k 0), .bool D.a, .int .i64 D.l, .bool D.x]) (by simp [results, Try.results38, go_sem]) rfl ?_
  exact ⟨rfl, ((Below.refl _ _).alloc (Nat.le_refl _) _).alloc (by simp) _⟩

/-- What a reading of a file tells. -/
def readVal (l : List Fl) (n : ByteArray) : Value := match get l n with | none => .tuple #[.string ⟨#[]⟩, .int .i64 7] | some f => .tuple #[.string f.d, .int .i64 0]
theorem readVal_no {l : List Fl} {n : ByteArray} (h : get l n = none) : readVal l n = .tuple #[.string ⟨#[]⟩, .int .i64 7] := by unfold readVal; rw [h]
theorem readVal_yes {l : List Fl} {n : ByteArray} {f : Fl} (h : get l n = some f) : readVal l n = .tuple #[.string f.d, .int .i64 0] := by unfold readVal; rw [h]

set_option maxRecDepth 100000 in
set_option maxHeartbeats 1600000 in
theorem read_any (fv : Value) (D : Dk) (n : ByteArray) (w : World) (hv : IsL FL w fv D.f) (hu : Up D.f) (hl : D.f.length ≤ 1000000000) :
    Calls Try.prog 13 #[dkVal fv D, .string n] w fun e w' => e = .returned (readVal D.f n) ∧ Below w.heap.size w w' := by
  obtain ⟨fa, fn, fc, rfl⟩ : ∃ a n c, fv = .slice a n c := by obtain ⟨a, c, h, _⟩ := hv; exact ⟨a, _, c, h⟩
  have F := Lib.hid fun (W : World) (h : IsL FL W (.slice fa fn fc) D.f) => find_any _ D.f n W hu (by omega) h
  have HV := Lib.hid hv
  have G0 := Lib.hid (heap_alloc_new w (.cells #[.slice fa fn fc, .int .i64 D.c, .bool D.a, .int .i64 D.l, .bool D.x] 24))
  cases hg : get D.f n with
  | none =>
    rw [readVal_no hg]
    have HG := Lib.hid fun i b (h : FoundF D.f n i b) => found_no h hu hg
    clear hv hu hl hg
    unfold dkVal
    go_enter Try.func13, Try.ntmps13
    go_wp2_with fail
    refine (F.out _ (HV.out.keep ((Below.refl _ _).alloc (Nat.le_refl _) _))).mono ?_
    rintro e w1 ⟨i, b, rfl, hf, b1⟩
    obtain rfl := HG.out i b hf
    have HB := Lib.hid (bel_of_alloc b1)
    clear hf b1
    go_wp2_with fail
    go_ret2
    exact ⟨rfl, HB.out⟩
  | some f =>
    rw [readVal_yes hg]
    have HG := Lib.hid fun i b (h : FoundF D.f n i b) => found_yes h hu hg
    have HC := Lib.hid (show ∀ i, i < D.f.length → ∃ b off, fa = some ⟨b, off, none⟩ ∧ w.cell? ⟨b, off + i * 3 + 1, none⟩ = some (.string (D.f.getD i zero).d) from fun i hi => by
      have hv' := hv
      obtain ⟨a', cap', e, _, _, h3⟩ := hv
      injection e with e1 e2 e3
      rcases h3 with h3 | ⟨b, off, h4, _⟩
      · rw [h3] at hi; simp at hi
      · subst e1
        subst h4
        exact ⟨b, off, rfl, (at3 hv' (by omega)).2.1⟩)
    have HN := Lib.hid hv.len.1
    have hl' : (D.f.length : Int) ≤ 1000000000 := by omega
    clear hv hu hg
    unfold dkVal
    go_enter Try.func13, Try.ntmps13
    go_wp2_with fail
    refine (F.out _ (HV.out.keep ((Below.refl _ _).alloc (Nat.le_refl _) _))).mono ?_
    rintro e w1 ⟨i, b, rfl, hf, b1⟩
    obtain ⟨rfl, hi, hfe⟩ := HG.out i b hf
    have HB := bel_of_alloc b1
    obtain ⟨q0, q1, q2, q3, q4⟩ := cells5 (hkeep G0.out b1)
    obtain ⟨b', off, rfl, hc⟩ := HC.out i hi
    rw [hfe] at hc
    have x1 : w1.cell? ⟨b', off + i * 3 + 1, none⟩ = some (.string f.d) := by rw [HB.cell (p := ⟨b', off + i * 3 + 1, none⟩) (block_lt_of_cell hc)]; exact hc
    have hin : i < fn := by rw [HN.out]; exact hi
    have HB := Lib.hid HB
    clear hf b1 hc hfe
    go_wp2_with fail
    go_ret2
    exact ⟨rfl, HB.out⟩

/-- How many of a file's bytes that aren't sure are kept. -/
def keptI (f : Fl) (k : Int) : Int := max 0 (min k ((f.d.size : Int) - f.s))
set_option maxRecDepth 100000 in
theorem kept_any (f : Fl) (k : Int) (w : World) (hf : FOk f) (hd : f.d.size ≤ 9223372036854775807) :
    Calls Try.prog 43 #[.agg #[.string f.n, .string f.d, .int .i64 f.s], .int .i64 k] w fun e w' => e = .returned (.int .i64 (keptI f k)) ∧ Below w.heap.size w w' := by
  have h1 := hf.2.1
  have h2 := hf.2.2
  have e : min (max k 0) ((f.d.size : Int) - f.s) = keptI f k := by unfold keptI; omega
  rw [← e]
  clear e hf
  go_enter Try.func43, Try.ntmps43
  go_wp2_with fail
  go_ret
  exact ⟨rfl, (Below.refl _ _).alloc (Nat.le_refl _) _⟩

end Go.Proofs.Ytbkiecjbjehaoaa.Dsk
