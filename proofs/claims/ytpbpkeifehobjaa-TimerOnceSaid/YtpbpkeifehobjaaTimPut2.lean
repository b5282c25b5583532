/-
  What the program's put of layer 18 answers: an alarm in its place, in the row that came in.
-/
import Derived.Test.YtpbpkeifehobjaaTimPut
namespace Go.Proofs.Ytpbpkeifehobjaa.Aps
open Go.RowKit
variable {α : Type} {Y : Lay α}
/-- An element of a row of the call's own is written. -/
theorem own_cell {W : World} {B g n cap k : Nat} {l : List α} (h : OwnL Y W B (.slice (some ⟨g, 0, none⟩) n cap) l) (hk : k < l.length) (x : α) : OwnL Y (W.setCells g (k * Y.k) (Y.enc x)) B (.slice (some ⟨g, 0, none⟩) n cap) (l.set k x) := by
  rcases h.2 with ⟨e, _⟩ | ⟨g', cap', cur, e, h1, h2, h3, h4, h5, h6⟩
  · injection e with e; cases e
  · injection e with e1 e2 e3
    injection e1 with e1
    injection e1 with e1
    subst e1 e2 e3
    have hkk : k * Y.k + Y.k ≤ l.length * Y.k := by
      have := Nat.mul_le_mul_right Y.k (show k + 1 ≤ l.length from hk)
      rwa [Nat.add_mul, Nat.one_mul] at this
    have hnc := Nat.mul_le_mul_right Y.k h3
    have hf : k * Y.k + (Y.enc x).length ≤ cur.size := by rw [Y.len, h5]; omega
    have hl : (l.set k x).length = l.length := List.length_set
    refine ⟨by rw [Y.vals_len, hl], .inr ⟨g, cap, _, by rw [hl], h1, setCells_heap h2 hf, by rw [hl]; exact h3, h4, by rw [splice_size hf]; exact h5, ?_⟩⟩
    rw [hl]
    have ht : l.set k x = l.take k ++ [x] ++ l.drop (k + 1) := by rw [List.set_eq_take_append_cons_drop, if_pos hk]; simp
    rw [ht, Y.vals_append, Y.vals_append, Y.vals_one, ← Y.vals_take, ← Y.vals_drop, ← h6]
    unfold splice
    show (cur.toList.take (k * Y.k) ++ Y.enc x ++ cur.toList.drop (k * Y.k + (Y.enc x).length)).take (l.length * Y.k) = _
    rw [List.take_append, List.take_of_length_le (l := cur.toList.take (k * Y.k) ++ Y.enc x) (by simp only [List.length_append, List.length_take, Array.length_toList, Y.len]; omega)]
    congr 1
    · rw [List.take_take, Nat.min_eq_left (by omega)]
    · have hcl : cur.toList.length = cur.size := Array.length_toList
      rw [List.length_append, List.length_take, Y.len, Nat.min_eq_left (by omega), List.drop_take, Nat.add_mul, Nat.one_mul]
theorem app_where {t : TypeId} (AP : Ap Y t) {W : World} {base : Nat} {v : Value} {a : Addr} {m c : Nat} {l fs : List α} (ty : TypeId) (ho : OwnL Y W base v l) (hu : IsL Y W (.slice (some a) m c) fs) (h0 : 0 < m) (hb : base ≤ W.heap.size) (hn : l.length + fs.length ≤ 1000000) :
    ∃ v' w', (Builtin.append_ #[t, t] ty #[v, .slice (some a) m c]).run Try.prog W = .ok v' w' ∧ OwnL Y w' base v' (l ++ fs) ∧ W.grownBy w' v.ownBlock ∧ Moved W v v' := by
  obtain ⟨hut, i0, z0, hi, hz0, hz1, hz2, hzz⟩ := id AP
  have hu' := hu
  obtain ⟨a', cap, e, h1, h2, h3⟩ := hu
  injection e with e1 e2 e3
  subst e1 e2 e3
  obtain ⟨b, off, e, _⟩ := h3.resolve_left (List.ne_nil_of_length_pos h0)
  injection e with e
  subst e
  obtain ⟨v', w', hr, hown, hg, hm⟩ := run_append_where (P := Try.prog) W base t ty Y.T i0 z0 Y.k i0.bytes hut hi hz0 hz1 rfl hzz Y.pos v l.length _ ho ⟨b, off, none⟩ fs.length c (Y.vals fs) (Y.vals_len fs) hu'.news (Y.vals_cells fs) h0 (by unfold maxLen; omega) (bytes_ok hz2 (by omega)) hb
  exact ⟨v', w', hr, OwnL.more hown rfl rfl, hg, hm⟩
end Go.Proofs.Ytpbpkeifehobjaa.Aps
namespace Go.Proofs.Ytpbpkeifehobjaa.Tm
open Go.RowKit Go.Proofs.Ytpbpkeifehobjaa.Tp Go.Proofs.Ytpbpkeifehobjaa.Aps

theorem put_len {l : List Al} {x : Al} {k : Nat} (h : k ≤ l.length) : (l.take k ++ [x] ++ l.drop k).length = l.length + 1 := by simp; omega
theorem put_at {l : List Al} {x a : Al} {k : Nat} (h : k ≤ l.length) : (l.take k ++ [x] ++ l.drop k).set k a = l.take k ++ [a] ++ l.drop k := by
  rw [List.append_assoc, List.set_append, if_neg (by rw [List.length_take]; omega), List.length_take, Nat.min_eq_left h, Nat.sub_self, List.append_assoc]
  rfl
theorem put_get {l : List Al} {x : Al} {m : Nat} (h : m < l.length) : (l.take (m + 1) ++ [x] ++ l.drop (m + 1)).getD m azero = l.getD m azero := by
  rw [List.append_assoc, getD_lt h]
  simp [List.getD_eq_getElem?_getD, List.getElem?_append, List.length_take, show m < min (m + 1) l.length by omega]
theorem put_shift {l : List Al} {x : Al} {m : Nat} (h : m < l.length) : (l.take (m + 1) ++ [x] ++ l.drop (m + 1)).set (m + 1) (l.getD m azero) = l.take m ++ [l.getD m azero] ++ l.drop m := by
  rw [put_at (by omega), getD_lt h, List.take_succ_eq_append_getElem h, List.drop_eq_getElem_cons h]
  simp

theorem own_at {W : World} {B g n cap k : Nat} {l : List Al} (h : OwnL TL W B (.slice (some ⟨g, 0, none⟩) n cap) l) (hm : l.length ≤ 1000000) (hk : k < l.length) :
    W.cell? ⟨g, k * 2, none⟩ = some (.int .i64 (l.getD k azero).i) ∧ W.cell? ⟨g, k * 2 + 1, none⟩ = some (.int .i64 (l.getD k azero).t) ∧ W.frozen? ⟨g, k * 2, none⟩ = false ∧ W.frozen? ⟨g, k * 2 + 1, none⟩ = false := by
  have hi := h.is (by unfold maxLen; omega) (fun _ _ => trivial)
  have hn := hi.len.1
  obtain ⟨b, off, e, c0, c1⟩ := tl_at hi (i := k) (by omega)
  injection e with e
  injection e with e1 e2
  subst e1 e2
  rw [Nat.zero_add] at c0 c1
  refine ⟨c0, c1, ?_⟩
  rcases h.2 with ⟨e, _⟩ | ⟨g', cap', cur, e, h1, h2, _⟩
  · injection e with e; cases e
  · injection e with e1
    injection e1 with e1
    injection e1 with e1
    subst e1
    exact ⟨frozen_of_row W g _ _ _ h2, frozen_of_row W g _ _ _ h2⟩

set_option maxRecDepth 100000 in
set_option maxHeartbeats 3200000 in
theorem put18_any (a : Al) (B : Nat) (v : Value) (l : List Al) (w : World) (ho : OwnL TL w B v l) (hB : B ≤ w.heap.size) (hl : l.length ≤ 100000) (hr : l.Pairwise Lt) (hn : ∀ b ∈ l, b.i ≠ a.i) :
    Calls Try.prog 17 #[v, .agg #[.int .i64 a.i, .int .i64 a.t]] w (OutL TL w B (ins a l)) := by
  have mixed : Try.prog.follows Departure.mixedOrders = true := by kernel_rfl
  obtain ⟨va, vn, vc, rfl⟩ := own_slice ho
  have SO := Lib.hid fun (b c : Al) (W : World) => sooner18_any b c W
  have hbx := heap_alloc_new w (.cells #[.int .i64 a.i, .int .i64 a.t] 44)
  have HO := Lib.hid (ho.alloc (.cells #[.int .i64 a.i, .int .i64 a.t] 44))
  have HW := Lib.hid ((Below.refl B w).alloc hB (.cells #[.int .i64 a.i, .int .i64 a.t] 44))
  have hX : ∀ q, (Value.slice va vn vc).ownBlock = some q → q ≠ w.heap.size := fun q hq => by have := (ho.lt q hq).2; omega
  -- what the loop ends with
  have FIN := Lib.hid fun (k : Nat) (hk : k ≤ l.length) (h1 : ∀ j, k ≤ j → j < l.length → ¬ Lt (l.getD j azero) a) (h2 : 0 < k → ¬ Lt a (l.getD (k - 1) azero)) => (show ins a l = l.take k ++ [a] ++ l.drop k from by
    refine ins_at hk (fun j hj => ?_) (fun h => h1 k (Nat.le_refl _) h)
    have hm := h2 (by omega)
    have e : l.getD (k - 1) azero = l[k - 1] := getD_lt (by omega)
    rw [e] at hm
    have hkm : Lt l[k - 1] a := Lt.of_not hm (fun e => hn _ (List.getElem_mem _) e.symm)
    rw [getD_lt (show j < l.length by omega)]
    rcases Nat.lt_or_ge j (k - 1) with hj' | hj'
    · exact (List.pairwise_iff_getElem.1 hr j (k - 1) (by omega) (by omega) hj').trans hkm
    · obtain rfl : j = k - 1 := by omega
      exact hkm)
  obtain ⟨X, hXe⟩ : ∃ X, w.heap.size = X := ⟨_, rfl⟩
  obtain ⟨ai, at_⟩ := a
  dsimp only at hbx HO HW
  have FN := Lib.hid fun (W : World) (v' : Value) (h : OwnL TL W B v' (ins ⟨ai, at_⟩ l)) (hb : Below B w W) => OutL.mk h hb
  generalize hP : OutL TL w B (ins ⟨ai, at_⟩ l) = P at *
  clear hP ho
  have hu := isl_one (Y := TL) (W := w.alloc (.cells #[.int .i64 ai, .int .i64 at_] 44)) (x := ⟨ai, at_⟩) (cs := #[.int .i64 ai, .int .i64 at_]) rfl trivial
  have hz1 : (w.alloc (.cells #[.int .i64 ai, .int .i64 at_] 44)).heap.size = X + 1 := by simp [hXe]
  rw [hXe] at hX hbx
  go_enter Try.func17, Try.ntmps17
  generalize hw1 : w.alloc (.cells #[.int .i64 ai, .int .i64 at_] 44) = w1 at hu hz1 HO HW hbx
  have O2 := Lib.hid (HO.out.alloc (.cells #[.int .i64 ai, .int .i64 at_] 44))
  have HU := Lib.hid hu
  have x0 : w1.cell? ⟨X, 0, none⟩ = some (.int .i64 ai) := by rw [cell_of_row _ _ 0 _ _ _ hbx]; rfl
  have x1 : w1.cell? ⟨X, 1, none⟩ = some (.int .i64 at_) := by rw [cell_of_row _ _ 1 _ _ _ hbx]; rfl
  have HW1 := Lib.hid hw1
  have HZ1 := Lib.hid hz1
  have HBX := Lib.hid hbx
  have HX := Lib.hid hX
  have HXE := Lib.hid hXe
  clear hu hw1 hz1 hbx hX hXe
  have W2 := Lib.hid (HW.out.alloc (Nat.le_trans hB HW.out.size) (.cells #[.int .i64 ai, .int .i64 at_] 44))
  have HB2 := Lib.hid (show B ≤ (w1.alloc (.cells #[.int .i64 ai, .int .i64 at_] 44)).heap.size by have := HZ1.out; have := HXE.out; simp; omega)
  have HN := Lib.hid (show l.length + [(⟨ai, at_⟩ : Al)].length ≤ 1000000 by simp; omega)
  obtain ⟨N, hN⟩ : ∃ N, l.length + 1 = N := ⟨_, rfl⟩
  have APP := Lib.hid (show ∃ v' w', (Builtin.append_ #[24, 24] 24 #[.slice va vn vc, .slice (some ⟨w1.heap.size, 0, none⟩) 1 1]).run Try.prog (w1.alloc (.cells #[.int .i64 ai, .int .i64 at_] 44)) = .ok v' w' ∧
      (∃ g cap, v' = .slice (some ⟨g, 0, none⟩) N cap ∧ B ≤ g ∧ g ≠ X ∧ OwnL TL w' B (.slice (some ⟨g, 0, none⟩) N cap) (l.take l.length ++ [⟨ai, at_⟩] ++ l.drop l.length) ∧ w'.heap[X]? = some (.cells #[.int .i64 ai, .int .i64 at_] 44 (0, 0)) ∧ Below B w w') from by
    obtain ⟨v1, w3, hrun, O3, G3, M3⟩ := app_where ap_tl 24 O2.out HU.out (by decide) HB2.out HN.out
    refine ⟨v1, w3, hrun, ?_⟩
    rw [show l.take l.length ++ [(⟨ai, at_⟩ : Al)] ++ l.drop l.length = l ++ [⟨ai, at_⟩] by simp]
    have hz := HZ1.out
    have hb3 : w3.heap[X]? = some (.cells #[.int .i64 ai, .int .i64 at_] 44 (0, 0)) := by
      rw [G3.block X (by simp; omega) (fun e => HX.out X e.symm rfl), (((Below.refl w1.heap.size w1).alloc (Nat.le_refl _) _).block X (by omega))]
      exact HBX.out
    have W3 := W2.out.grown G3 HB2.out (fun q hq => (O2.out.lt q hq).1)
    rcases id O3.2 with ⟨_, h0⟩ | ⟨g, cap, cur, rfl, h1, h2, _⟩
    · simp at h0
    · rw [List.length_append, show [(⟨ai, at_⟩ : Al)].length = 1 from rfl, hN] at O3 ⊢
      refine ⟨g, cap, rfl, h1, ?_, O3, hb3, W3⟩
      rcases M3 with e | e
      · exact HX.out g e.symm
      · have := e g rfl
        simp at *
        omega)
  go_wp2_with (first | (rw [HW1.out, HXE.out]) | (at_builtin; refine wpl_run 24 (.tmp 6) (.tmp 8) _ _ rfl rfl rfl rfl _ APP.out ?_; rintro _ w3 ⟨g, cap, rfl, hBg, hgX, ho4, hb3, hw3⟩; have HO4 := Lib.hid ho4; have HB3 := Lib.hid hb3; have W3 := Lib.hid hw3; clear ho4 hb3 hw3) | fail)
  clear x0 x1
  go_loopw [5] (fun k' W => ∃ (k : Nat) (x : Al), k ≤ l.length ∧ k' = .int .i64 k ∧ OwnL TL W B (.slice (some ⟨g, 0, none⟩) N cap) (l.take k ++ [x] ++ l.drop k) ∧ W.heap[X]? = some (.cells #[.int .i64 ai, .int .i64 at_] 44 (0, 0)) ∧ Below B w W ∧ ∀ j, k ≤ j → j < l.length → ¬ Lt (l.getD j azero) ⟨ai, at_⟩) (fun i _ => (intOf i).toNat)
  case atStart => exact ⟨l.length, ⟨ai, at_⟩, Nat.le_refl _, by congr 1; omega, HO4.out, HB3.out, W3.out, fun j h1 h2 => absurd h2 (by omega)⟩
  case round =>
    obtain ⟨k, x, hk, rfl, ho, hb, hw, hall⟩ := hrel
    have HO := Lib.hid ho
    have HB := Lib.hid hb
    have HW := Lib.hid hw
    have HALL := Lib.hid hall
    clear ho hb hw hall
    have x0 : wr.cell? ⟨X, 0, none⟩ = some (.int .i64 ai) := by rw [cell_of_row _ _ 0 _ _ _ HB.out]; rfl
    have x1 : wr.cell? ⟨X, 1, none⟩ = some (.int .i64 at_) := by rw [cell_of_row _ _ 1 _ _ _ HB.out]; rfl
    rcases Nat.eq_zero_or_pos k with rfl | hk0
    · go_wp2_with fail
      have h0 : (fun _ : World => True) wr.drew := trivial
      refine region_any (by kernel_rfl) (fun _ : World => True) 11 rfl #[false, false, false, false, false, false, false, false, false, false, false] rfl ?_
      refine wpAnyH_take (i := 0) (v := .int .i64 (0 : Nat)) rfl (by kernel_rfl) (by kernel_rfl) (by kernel_rfl) (fun _ _ _ h => h) (Or.inl ⟨by kernel_rfl, fun W' hS => ?_⟩) h0 ?_
      · go_simp
      simp only [Act.put, List.setIfInBounds_toArray, List.set_cons_zero, List.set_cons_succ, List.getElem_toArray, List.getElem_cons_zero]
      refine wpAnyH_take (i := 1) (v := .bool false) rfl (by kernel_rfl) (by kernel_rfl) (by kernel_rfl) (fun _ _ _ h => h) (Or.inl ⟨by kernel_rfl, fun W' hS => ?_⟩) h0 ?_
      · go_simp
      simp only [Act.put, List.setIfInBounds_toArray, List.set_cons_zero, List.set_cons_succ, List.getElem_toArray, List.getElem_cons_succ, List.getElem_cons_zero]
      refine wpAnyH_take (i := 2) (v := .bool false) rfl (by kernel_rfl) (by kernel_rfl) (by kernel_rfl) (fun _ _ _ h => h) (Or.inl ⟨by kernel_rfl, fun W' hS => ?_⟩) h0 ?_
      · go_simp
      simp only [Act.put, List.setIfInBounds_toArray, List.set_cons_zero, List.set_cons_succ, List.getElem_toArray, List.getElem_cons_succ, List.getElem_cons_zero]
      refine wpAnyH_take (i := 3) (v := undef) rfl (by kernel_rfl) (by kernel_rfl) (by kernel_rfl) (fun _ _ _ h => h) (Or.inr ⟨by kernel_rfl, rfl⟩) h0 ?_
      simp only [Act.put, List.setIfInBounds_toArray, List.set_cons_zero, List.set_cons_succ, List.getElem_toArray, List.getElem_cons_succ, List.getElem_cons_zero]
      refine wpAnyH_take (i := 4) (v := undef) rfl (by kernel_rfl) (by kernel_rfl) (by kernel_rfl) (fun _ _ _ h => h) (Or.inr ⟨by kernel_rfl, rfl⟩) h0 ?_
      simp only [Act.put, List.setIfInBounds_toArray, List.set_cons_zero, List.set_cons_succ, List.getElem_toArray, List.getElem_cons_succ, List.getElem_cons_zero]
      refine wpAnyH_take (i := 5) (v := undef) rfl (by kernel_rfl) (by kernel_rfl) (by kernel_rfl) (fun _ _ _ h => h) (Or.inr ⟨by kernel_rfl, rfl⟩) h0 ?_
      simp only [Act.put, List.setIfInBounds_toArray, List.set_cons_zero, List.set_cons_succ, List.getElem_toArray, List.getElem_cons_succ, List.getElem_cons_zero]
      refine wpAnyH_take (i := 6) (v := undef) rfl (by kernel_rfl) (by kernel_rfl) (by kernel_rfl) (fun _ _ _ h => h) (Or.inr ⟨by kernel_rfl, rfl⟩) h0 ?_
      simp only [Act.put, List.setIfInBounds_toArray, List.set_cons_zero, List.set_cons_succ, List.getElem_toArray, List.getElem_cons_succ, List.getElem_cons_zero]
      refine wpAnyH_take (i := 7) (v := undef) rfl (by kernel_rfl) (by kernel_rfl) (by kernel_rfl) (fun _ _ _ h => h) (Or.inr ⟨by kernel_rfl, rfl⟩) h0 ?_
      simp only [Act.put, List.setIfInBounds_toArray, List.set_cons_zero, List.set_cons_succ, List.getElem_toArray, List.getElem_cons_succ, List.getElem_cons_zero]
      refine wpAnyH_take (i := 8) (v := undef) rfl (by kernel_rfl) (by kernel_rfl) (by kernel_rfl) (fun _ _ _ h => h) (Or.inr ⟨by kernel_rfl, rfl⟩) h0 ?_
      simp only [Act.put, List.setIfInBounds_toArray, List.set_cons_zero, List.set_cons_succ, List.getElem_toArray, List.getElem_cons_succ, List.getElem_cons_zero]
      refine wpAnyH_take (i := 9) (v := undef) rfl (by kernel_rfl) (by kernel_rfl) (by kernel_rfl) (fun _ _ _ h => h) (Or.inr ⟨by kernel_rfl, rfl⟩) h0 ?_
      simp only [Act.put, List.setIfInBounds_toArray, List.set_cons_zero, List.set_cons_succ, List.getElem_toArray, List.getElem_cons_succ, List.getElem_cons_zero]
      refine wpAnyH_take (i := 10) (v := .bool false) rfl (by kernel_rfl) (by kernel_rfl) (by kernel_rfl) (fun _ _ _ h => h) (Or.inl ⟨by kernel_rfl, fun W' hS => ?_⟩) h0 ?_
      · go_simp
      simp only [Act.put, List.setIfInBounds_toArray, List.set_cons_zero, List.set_cons_succ, List.getElem_toArray, List.getElem_cons_succ, List.getElem_cons_zero]
      refine wpAnyH_done (by kernel_rfl) ?_ _
      have OD := HO.out.keep (Below.refl wr.heap.size wr).drew
      have XD : wr.drew.heap[X]? = some (.cells #[.int .i64 ai, .int .i64 at_] 44 (0, 0)) := HB.out
      have WD := HW.out.drew
      generalize wr.drew = wd at OD XD WD ⊢
      clear x0 x1
      have HFI := Lib.hid (FIN.out (0) (by omega) HALL.out (fun h => absurd h (Nat.lt_irrefl _)))
      have HAT := own_at OD (by first | (simp; done) | (simp; omega)) (k := 0) (by first | (simp; done) | (simp; omega))
      obtain ⟨y0, y1, f0, f1⟩ := HAT
      simp only [Nat.zero_mul, Nat.zero_add] at y0 y1 f0 f1
      have x0 : wd.cell? ⟨X, 0, none⟩ = some (.int .i64 ai) := by rw [cell_of_row _ _ 0 _ _ _ XD]; rfl
      have x1 : wd.cell? ⟨X, 1, none⟩ = some (.int .i64 at_) := by rw [cell_of_row _ _ 1 _ _ _ XD]; rfl
      have OC := own_cell OD (k := 0) (by first | (simp; done) | (simp; omega)) (⟨ai, at_⟩ : Al)
      rw [put_at (by omega), ← HFI.out] at OC
      have OC2 := Lib.hid (show OwnL TL ((wd.setCell ⟨g, 0, none⟩ (.int .i64 ai)).setCell ⟨g, 1, none⟩ (.int .i64 at_)) B _ _ from OC)
      have BE := Lib.hid ((WD.setCell (p := ⟨g, 0, none⟩) hBg (.int .i64 ai)).setCell (p := ⟨g, 1, none⟩) hBg (.int .i64 at_))
      clear OC
      go_wp2_with fail
      exact FN.out _ _ OC2.out BE.out
    · obtain ⟨j, hj⟩ : ∃ j, k = j + 1 := ⟨k - 1, by omega⟩
      have hjl : j < l.length := by omega
      have HG := Lib.hid (show (l.take k ++ [x] ++ l.drop k).getD j azero = l.getD j azero by rw [hj]; exact put_get hjl)
      have HSH := Lib.hid (show ∀ y : Al, y = l.getD j azero → (l.take k ++ [x] ++ l.drop k).set k y = l.take j ++ [y] ++ l.drop j from fun y hy => by rw [hj, hy]; exact put_shift hjl)
      have HF2 := Lib.hid (show ∀ q, q = l.getD j azero → ¬ Lt ⟨ai, at_⟩ q → (0 < k → ¬ Lt ⟨ai, at_⟩ (l.getD (k - 1) azero)) from fun q hq h _ => by rw [hj, Nat.add_sub_cancel, ← hq]; exact h)
      have HA2 := Lib.hid (show ∀ q, q = l.getD j azero → Lt ⟨ai, at_⟩ q → ∀ m, j ≤ m → m < l.length → ¬ Lt (l.getD m azero) ⟨ai, at_⟩ from fun q hq h m h1 h2 => by
        rcases Nat.eq_or_lt_of_le h1 with rfl | h1
        · rw [← hq]; unfold Lt at *; omega
        · exact HALL.out m (by omega) h2)
      have hij : (k : Int) - 1 = (j : Int) := by omega
      have hj1 : j < k := by omega
      have hj2 : k ≤ j + 1 := by omega
      clear hj
      obtain ⟨q, hq⟩ : ∃ q, l.getD j azero = q := ⟨_, rfl⟩
      have HQ := Lib.hid hq.symm
      rw [hq] at HG
      clear hq
      go_wp2_with fail
      have OD := HO.out.keep (Below.refl wr.heap.size wr).drew
      have XD : wr.drew.heap[X]? = some (.cells #[.int .i64 ai, .int .i64 at_] 44 (0, 0)) := HB.out
      have WD := HW.out.drew
      have h0 : (fun W : World => Below wr.drew.heap.size wr.drew W) wr.drew := Below.refl _ _
      refine region_any (by kernel_rfl) (fun W : World => Below wr.drew.heap.size wr.drew W) 11 rfl #[false, false, false, false, false, false, false, false, false, false, false] rfl ?_
      generalize wr.drew = wd at OD XD WD h0 ⊢
      clear x0 x1
      obtain ⟨y0, y1, _⟩ := own_at OD (by first | (simp; done) | (simp; omega)) (k := j) (by first | (simp; done) | (simp; omega))
      rw [HG.out] at y0 y1
      have x0 : wd.cell? ⟨X, 0, none⟩ = some (.int .i64 ai) := by rw [cell_of_row _ _ 0 _ _ _ XD]; rfl
      have x1 : wd.cell? ⟨X, 1, none⟩ = some (.int .i64 at_) := by rw [cell_of_row _ _ 1 _ _ _ XD]; rfl
      have lx : X < wd.heap.size := (Array.getElem?_eq_some_iff.1 XD).1
      have lg : g < wd.heap.size := block_lt_of_cell y0
      have e1 : decide ((0 : Int) < (k : Int)) = true := by simp; omega
      have hwr : IntKind.i64.wrap (j : Int) = (j : Int) := by rw [IntKind.wrap_i64]; omega
      have e2 : (j : Int) < (N : Int) := by omega
      have e3 : j < N := by omega
      refine wpAnyH_take (i := 0) (v := .int .i64 k) rfl (by kernel_rfl) (by kernel_rfl) (by kernel_rfl) (fun _ _ _ h => h) (Or.inl ⟨by kernel_rfl, fun W' hS => ?_⟩) h0 ?_
      · go_simp
      simp only [Act.put, List.setIfInBounds_toArray, List.set_cons_zero, List.set_cons_succ, List.getElem_toArray, List.getElem_cons_zero]
      refine wpAnyH_take (i := 1) (v := .bool true) rfl (by kernel_rfl) (by kernel_rfl) (by kernel_rfl) (fun _ _ _ h => h) (Or.inl ⟨by kernel_rfl, fun W' hS => ?_⟩) h0 ?_
      · go_simp
      simp only [Act.put, List.setIfInBounds_toArray, List.set_cons_zero, List.set_cons_succ, List.getElem_toArray, List.getElem_cons_succ, List.getElem_cons_zero]
      refine wpAnyH_take (i := 2) (v := .bool true) rfl (by kernel_rfl) (by kernel_rfl) (by kernel_rfl) (fun _ _ _ h => h) (Or.inl ⟨by kernel_rfl, fun W' hS => ?_⟩) h0 ?_
      · go_simp
      simp only [Act.put, List.setIfInBounds_toArray, List.set_cons_zero, List.set_cons_succ, List.getElem_toArray, List.getElem_cons_succ, List.getElem_cons_zero]
      refine wpAnyH_take (i := 3) (v := .agg #[.int .i64 ai, .int .i64 at_]) rfl (by kernel_rfl) (by kernel_rfl) (by kernel_rfl) (fun _ _ _ h => h) (Or.inl ⟨by kernel_rfl, fun W' hS => ?_⟩) h0 ?_
      · have d0 := (hS.cell (p := ⟨X, 0, none⟩) lx).trans x0; have d1 := (hS.cell (p := ⟨X, 1, none⟩) lx).trans x1; go_simp
      simp only [Act.put, List.setIfInBounds_toArray, List.set_cons_zero, List.set_cons_succ, List.getElem_toArray, List.getElem_cons_succ, List.getElem_cons_zero]
      refine wpAnyH_take (i := 4) (v := .slice (some ⟨g, 0, none⟩) N cap) rfl (by kernel_rfl) (by kernel_rfl) (by kernel_rfl) (fun _ _ _ h => h) (Or.inl ⟨by kernel_rfl, fun W' hS => ?_⟩) h0 ?_
      · go_simp
      simp only [Act.put, List.setIfInBounds_toArray, List.set_cons_zero, List.set_cons_succ, List.getElem_toArray, List.getElem_cons_succ, List.getElem_cons_zero]
      refine wpAnyH_take (i := 5) (v := .int .i64 k) rfl (by kernel_rfl) (by kernel_rfl) (by kernel_rfl) (fun _ _ _ h => h) (Or.inl ⟨by kernel_rfl, fun W' hS => ?_⟩) h0 ?_
      · go_simp
      simp only [Act.put, List.setIfInBounds_toArray, List.set_cons_zero, List.set_cons_succ, List.getElem_toArray, List.getElem_cons_succ, List.getElem_cons_zero]
      refine wpAnyH_take (i := 6) (v := .int .i64 j) rfl (by kernel_rfl) (by kernel_rfl) (by kernel_rfl) (fun _ _ _ h => h) (Or.inl ⟨by kernel_rfl, fun W' hS => ?_⟩) h0 ?_
      · go_simp
      simp only [Act.put, List.setIfInBounds_toArray, List.set_cons_zero, List.set_cons_succ, List.getElem_toArray, List.getElem_cons_succ, List.getElem_cons_zero]
      refine wpAnyH_take (i := 7) (v := .pointer (some ⟨g, j * 2, none⟩)) rfl (by kernel_rfl) (by kernel_rfl) (by kernel_rfl) (fun _ _ _ h => h) (Or.inl ⟨by kernel_rfl, fun W' hS => ?_⟩) h0 ?_
      · go_simp
      simp only [Act.put, List.setIfInBounds_toArray, List.set_cons_zero, List.set_cons_succ, List.getElem_toArray, List.getElem_cons_succ, List.getElem_cons_zero]
      refine wpAnyH_take (i := 8) (v := .agg #[.int .i64 q.i, .int .i64 q.t]) rfl (by kernel_rfl) (by kernel_rfl) (by kernel_rfl) (fun _ _ _ h => h) (Or.inl ⟨by kernel_rfl, fun W' hS => ?_⟩) h0 ?_
      · have d0 := (hS.cell (p := ⟨g, j * 2, none⟩) lg).trans y0; have d1 := (hS.cell (p := ⟨g, j * 2 + 1, none⟩) lg).trans y1; go_simp
      simp only [Act.put, List.setIfInBounds_toArray, List.set_cons_zero, List.set_cons_succ, List.getElem_toArray, List.getElem_cons_succ, List.getElem_cons_zero]
      clear x0 x1 y0 y1
      refine wpAnyH_ready (rs := [9]) (by kernel_rfl) (by simp) (AllReadyH.cons rfl (fun K hK => ?_) AllReadyH.nil)
      replace hK := Lib.hid hK
      go_simp
      refine (SO.out ⟨ai, at_⟩ q wd).mono ?_
      rintro e w5 ⟨rfl, b5⟩
      dsimp only
      refine hK.out _ _ b5 (fun _ => ?_)
      clear hK K
      obtain ⟨r, hr9⟩ : ∃ r, decide (Lt ⟨ai, at_⟩ q) = r := ⟨_, rfl⟩
      rw [hr9]
      simp only [List.setIfInBounds_toArray, List.set_cons_zero, List.set_cons_succ]
      refine wpAnyH_take (i := 10) (v := .bool r) rfl (by kernel_rfl) (by kernel_rfl) (by kernel_rfl) (fun _ _ _ h => h) (Or.inl ⟨by kernel_rfl, fun W' hS => ?_⟩) b5 ?_
      · go_simp
      simp only [Act.put, List.setIfInBounds_toArray, List.set_cons_zero, List.set_cons_succ, List.getElem_toArray, List.getElem_cons_succ, List.getElem_cons_zero]
      refine wpAnyH_done (by kernel_rfl) ?_ _
      have O5 := OD.keep b5
      have X5 := (b5.block X lx).trans XD
      have W5 := WD.trans (b5.mono (by have := (OD.lt g rfl).1; omega))
      have HR9 := Lib.hid hr9
      clear OD XD WD b5 h0 hr9 lx lg HO HB HW
      cases r with
      | true =>
        have HLT : Lt ⟨ai, at_⟩ q := of_decide_eq_true HR9.out
        have HA3 := Lib.hid (HA2.out q HQ.out HLT)
        have HS5 := Lib.hid (HSH.out q HQ.out)
        obtain ⟨y0, y1, _⟩ := own_at O5 (by first | (simp; done) | (simp; omega)) (k := j) (by first | (simp; done) | (simp; omega))
        rw [HG.out] at y0 y1
        obtain ⟨z0, z1, f0, f1⟩ := own_at O5 (by first | (simp; done) | (simp; omega)) (k := k) (by first | (simp; done) | (simp; omega))
        have OC := own_cell O5 (k := k) (by first | (simp; done) | (simp; omega)) q
        rw [HS5.out] at OC
        have OC2 := Lib.hid (show OwnL TL ((w5.setCell ⟨g, k * 2, none⟩ (.int .i64 q.i)).setCell ⟨g, k * 2 + 1, none⟩ (.int .i64 q.t)) B _ _ from OC)
        have BE := Lib.hid ((W5.setCell (p := ⟨g, k * 2, none⟩) hBg (.int .i64 q.i)).setCell (p := ⟨g, k * 2 + 1, none⟩) hBg (.int .i64 q.t))
        have XE := Lib.hid ((Below.heap_setCell (w5.setCell ⟨g, k * 2, none⟩ (.int .i64 q.i)) ⟨g, k * 2 + 1, none⟩ (.int .i64 q.t) X (Ne.symm hgX)).trans ((Below.heap_setCell w5 ⟨g, k * 2, none⟩ (.int .i64 q.i) X (Ne.symm hgX)).trans X5))
        have e4 : (k : Int) < (N : Int) := by omega
        clear OC HLT
        go_wp2_with fail
        go_roundw
        case rel => exact ⟨j, q, by omega, by first | rfl | (congr 1; omega), OC2.out, XE.out, BE.out, HA3.out⟩
        case measure => simp [intOf]; omega
      | false =>
        have HNL : ¬ Lt ⟨ai, at_⟩ q := of_decide_eq_false HR9.out
        have e4 : (k : Int) < (N : Int) := by omega
        have HFI := Lib.hid (FIN.out (k) (by omega) HALL.out (HF2.out q HQ.out HNL))
        have HAT := own_at O5 (by first | (simp; done) | (simp; omega)) (k := k) (by first | (simp; done) | (simp; omega))
        obtain ⟨y0, y1, f0, f1⟩ := HAT
        have x0 : w5.cell? ⟨X, 0, none⟩ = some (.int .i64 ai) := by rw [cell_of_row _ _ 0 _ _ _ X5]; rfl
        have x1 : w5.cell? ⟨X, 1, none⟩ = some (.int .i64 at_) := by rw [cell_of_row _ _ 1 _ _ _ X5]; rfl
        have OC := own_cell O5 (k := k) (by first | (simp; done) | (simp; omega)) (⟨ai, at_⟩ : Al)
        rw [put_at (by omega), ← HFI.out] at OC
        have OC2 := Lib.hid (show OwnL TL ((w5.setCell ⟨g, k * 2, none⟩ (.int .i64 ai)).setCell ⟨g, k * 2 + 1, none⟩ (.int .i64 at_)) B _ _ from OC)
        have BE := Lib.hid ((W5.setCell (p := ⟨g, k * 2, none⟩) hBg (.int .i64 ai)).setCell (p := ⟨g, k * 2 + 1, none⟩) hBg (.int .i64 at_))
        clear OC
        go_wp2_with fail
        exact FN.out _ _ OC2.out BE.out

end Go.Proofs.Ytpbpkeifehobjaa.Tm
