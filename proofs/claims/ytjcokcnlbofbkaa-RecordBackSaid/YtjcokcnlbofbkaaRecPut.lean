/-
  What record's Right, Put and Size answer; nothing that was there is changed.
-/
import Derived.Test.YtjcokcnlbofbkaaRecVal
import Derived.Deep.QuietTactic
import Derived.BigQuiet
import Derived.IntWalk
namespace Go.Proofs.Ytjcokcnlbofbkaa
open Go.RowKit

/-- Is a record's fault none? -/
def okB (r : Rp.Rec) : Bool := decide (Rp.fault r = 0)
theorem okB_yes {r : Rp.Rec} (h : Rp.fault r = 0) : okB r = true := decide_eq_true h
theorem okB_no {r : Rp.Rec} (h : Rp.fault r ≠ 0) : okB r = false := decide_eq_false h

set_option maxRecDepth 100000 in
theorem right_any (r : Rp.Rec) (w : World) (hd : r.d.size ≤ 9223372036854775807) :
    Calls Try.prog 13 #[recVal r] w fun e w' => e = .returned (.bool (okB r)) ∧ Below w.heap.size w w' := by
  have C := fun W : World => fault_any r W hd
  rcases Rp.fault_cases r with ⟨h, _⟩ | ⟨_, h⟩
  · rw [okB_yes h]
    rw [h] at C
    have C := Lib.hid C
    clear h
    unfold recVal at C ⊢
    go_enter Try.func13, Try.ntmps13
    go_wp2_with fail
    refine (C.out _).mono ?_
    rintro e w' ⟨rfl, b1⟩
    go_wp2_with fail
    go_ret
    exact ⟨rfl, bel_of_alloc b1⟩
  · rw [okB_no (by omega)]
    rcases h with h | h
    all_goals
      rw [h] at C
      have C := Lib.hid C
      clear h
      unfold recVal at C ⊢
      go_enter Try.func13, Try.ntmps13
      go_wp2_with fail
      refine (C.out _).mono ?_
      rintro e w' ⟨rfl, b1⟩
      go_wp2_with fail
      go_ret
      exact ⟨rfl, bel_of_alloc b1⟩

/-- What Put answers of a record. -/
def putVal (r : Rp.Rec) : Value := .tuple #[.string ⟨(Rp.putB r).toArray⟩, .int .i64 (Rp.fault r)]
theorem putVal_no {r : Rp.Rec} {e : Int} (h : Rp.fault r = e) (he : e ≠ 0) : putVal r = .tuple #[.string ⟨#[]⟩, .int .i64 e] := by
  unfold putVal
  rw [Rp.putB_no (by omega), h]
theorem putVal_yes {r : Rp.Rec} (h : Rp.fault r = 0) : putVal r = .tuple #[.string ⟨(Fr.fr (Rp.body r)).toArray⟩, .int .i64 0] := by
  unfold putVal
  rw [Rp.putB_yes h, h]
theorem body_str (a b : List UInt8) (s : ByteArray) : (⟨a.toArray⟩ ++ ⟨b.toArray⟩ ++ s : ByteArray).data.toList = a ++ b ++ s.data.toList := by simp
theorem putI_pos {n : Int} (h : 0 ≤ n) : putI n = Vp.put n.toNat := by unfold putI; rw [if_neg (by omega)]

/-- What a world keeps of a boxed record: its three cells. -/
theorem box_keep {w w1 w2 : World} {x y z : Value} (h : w1.cell? ⟨w.heap.size, 0, none⟩ = some x ∧ w1.cell? ⟨w.heap.size, 1, none⟩ = some y ∧ w1.cell? ⟨w.heap.size, 2, none⟩ = some z ∧ Below w.heap.size w w1)
    (b : Below w1.heap.size w1 w2) : w2.cell? ⟨w.heap.size, 0, none⟩ = some x ∧ w2.cell? ⟨w.heap.size, 1, none⟩ = some y ∧ w2.cell? ⟨w.heap.size, 2, none⟩ = some z ∧ Below w.heap.size w w2 := by
  obtain ⟨h0, h1, h2, hb⟩ := h
  have hl := block_lt_of_cell h0
  exact ⟨(b.cell (p := ⟨w.heap.size, 0, none⟩) hl).trans h0, (b.cell (p := ⟨w.heap.size, 1, none⟩) hl).trans h1, (b.cell (p := ⟨w.heap.size, 2, none⟩) hl).trans h2, hb.trans (b.mono hb.size)⟩
theorem box_new (w : World) (x y z : Value) (T : TypeId) : (w.alloc (.cells #[x, y, z] T)).cell? ⟨w.heap.size, 0, none⟩ = some x ∧ (w.alloc (.cells #[x, y, z] T)).cell? ⟨w.heap.size, 1, none⟩ = some y ∧ (w.alloc (.cells #[x, y, z] T)).cell? ⟨w.heap.size, 2, none⟩ = some z ∧ Below w.heap.size w (w.alloc (.cells #[x, y, z] T)) :=
  ⟨by unfold World.cell?; rw [heap_alloc_new]; rfl, by unfold World.cell?; rw [heap_alloc_new]; rfl, by unfold World.cell?; rw [heap_alloc_new]; rfl, (Below.refl _ _).alloc (Nat.le_refl _) _⟩

set_option maxRecDepth 100000 in
set_option maxHeartbeats 1600000 in
theorem recput_yes (r : Rp.Rec) (w : World) (h : Rp.Ok r) :
    Calls Try.prog 9 #[recVal r] w fun e w' => e = .returned (putVal r) ∧ Below w.heap.size w w' := by
  have hf := Rp.fault_zero h
  have C := fun W : World => fault_any r W (by have := h.2.2.2.2; omega)
  rw [hf] at C
  have C := Lib.hid C
  have HV := Lib.hid (putVal_yes hf)
  have hb : (⟨(putI r.a).toArray⟩ ++ ⟨(putI r.t).toArray⟩ ++ r.d : ByteArray).data.toList = Rp.body r := by rw [body_str, putI_pos h.1, putI_pos h.2.2.1]; rfl
  have hs : (⟨(putI r.a).toArray⟩ ++ ⟨(putI r.t).toArray⟩ ++ r.d : ByteArray).size = (Rp.body r).length := by rw [← hb]; rfl
  have F := fun W : World => fput_yes (⟨(putI r.a).toArray⟩ ++ ⟨(putI r.t).toArray⟩ ++ r.d) W (by rw [hs]; exact Rp.body_may h)
  rw [hb] at F
  have F := Lib.hid F
  have l1 : (putI r.a).length ≤ 9 := putI_len_le _
  have l2 : (putI r.t).length ≤ 9 := putI_len_le _
  have l3 : r.d.size ≤ 64 := h.2.2.2.2
  have a0 := h.1
  have a1 := h.2.1
  have t0 := h.2.2.1
  have t1 := h.2.2.2.1
  clear hb hs hf h
  have s1 : ¬ 9223372036854775807 < (putI r.a).length + (putI r.t).length := by omega
  have s2 : ¬ 9223372036854775807 < (putI r.a).length + (putI r.t).length + r.d.size := by omega
  unfold recVal at C ⊢
  go_enter Try.func9, Try.ntmps9
  go_wp2_with fail
  refine (C.out _).mono ?_
  rintro e w1 ⟨rfl, b1⟩
  have hbox := box_keep (box_new w _ _ _ _) b1
  go_wp2_with fail
  go_region_held3 (fun w' => w'.cell? ⟨w.heap.size, 0, none⟩ = some (.int .i64 r.a) ∧ w'.cell? ⟨w.heap.size, 1, none⟩ = some (.int .i64 r.t) ∧ w'.cell? ⟨w.heap.size, 2, none⟩ = some (.string r.d) ∧ Below w.heap.size w w')
    (first | assumption | exact box_keep (by assumption) (Below.refl _ _).drew | exact box_keep (by assumption) (by assumption))
    (first | (go_at_call 25; refine (put_any _ _ (by omega) (by omega)).mono ?_; rintro e w4 ⟨rfl, b4⟩) | (go_at_call 24; refine (F.out _).mono ?_; rintro e w5 ⟨rfl, b5⟩))
  go_wp2_with fail
  go_ret2
  obtain ⟨_, _, _, hb⟩ := ‹_ ∧ _ ∧ _ ∧ Below w.heap.size w w5›
  exact ⟨by rw [HV.out]; rfl, hb⟩

theorem putVal_cases (r : Rp.Rec) : (Rp.Ok r ∧ putVal r = .tuple #[.string ⟨(Fr.fr (Rp.body r)).toArray⟩, .int .i64 0]) ∨ (¬ Rp.Ok r ∧ ∃ e, (e = 5 ∨ e = 6) ∧ Rp.fault r = e ∧ putVal r = .tuple #[.string ⟨#[]⟩, .int .i64 e]) := by
  rcases Rp.fault_cases r with ⟨h, hok⟩ | ⟨hno, h⟩
  · exact .inl ⟨hok, putVal_yes h⟩
  · exact .inr ⟨hno, _, h, rfl, putVal_no rfl (by omega)⟩

set_option maxRecDepth 100000 in
set_option maxHeartbeats 800000 in
theorem recput_no (r : Rp.Rec) (w : World) (hd : r.d.size ≤ 9223372036854775807) (h : ¬ Rp.Ok r) :
    Calls Try.prog 9 #[recVal r] w fun e w' => e = .returned (putVal r) ∧ Below w.heap.size w w' := by
  have C := fun W : World => fault_any r W hd
  rcases putVal_cases r with ⟨hok, _⟩ | ⟨_, e0, he, hf, hv⟩
  · exact absurd hok h
  rw [hf] at C
  have C := Lib.hid C
  have HV := Lib.hid hv
  clear hv hf h hd
  unfold recVal at C ⊢
  rcases he with rfl | rfl
  all_goals
    go_enter Try.func9, Try.ntmps9
    go_wp2_with fail
    refine (C.out _).mono ?_
    rintro e w1 ⟨rfl, b1⟩
    go_wp2_with fail
    go_ret2
    exact ⟨by rw [HV.out]; rfl, bel_of_alloc b1⟩

/-- Put, at any record. -/
theorem recput_any (r : Rp.Rec) (w : World) (hd : r.d.size ≤ 9223372036854775807) :
    Calls Try.prog 9 #[recVal r] w fun e w' => e = .returned (putVal r) ∧ Below w.heap.size w w' := by
  by_cases h : Rp.Ok r
  · exact recput_yes r w h
  · exact recput_no r w hd h

theorem size_sum {r : Rp.Rec} (h : Rp.Ok r) : sizeI (((putI r.a).length : Int) + ((putI r.t).length : Int) + (r.d.size : Int)) = ((Rp.putB r).length : Int) := by
  have e : (((putI r.a).length : Int) + ((putI r.t).length : Int) + (r.d.size : Int)) = ((Rp.body r).length : Int) := by
    rw [Rp.body_len, putI_pos h.1, putI_pos h.2.2.1]
    omega
  have hm := Rp.body_may h
  have h1 := hm.1
  have h2 := hm.2
  rw [e, sizeI_yes (by omega), Rp.putB_yes (Rp.fault_zero h), Fr.fr_len, putI_pos (by omega), Int.toNat_natCast]
  omega

set_option maxRecDepth 100000 in
set_option maxHeartbeats 800000 in
theorem recsize_any (r : Rp.Rec) (w : World) (hd : r.d.size ≤ 9223372036854775807) :
    Calls Try.prog 15 #[recVal r] w fun e w' => e = .returned (.int .i64 ((Rp.putB r).length : Int)) ∧ Below w.heap.size w w' := by
  have C := fun W : World => right_any r W hd
  by_cases h : Rp.Ok r
  · rw [okB_yes (Rp.fault_zero h)] at C
    have C := Lib.hid C
    have HS := Lib.hid (size_sum h)
    have l1 : (putI r.a).length ≤ 9 := putI_len_le _
    have l2 : (putI r.t).length ≤ 9 := putI_len_le _
    have l3 : r.d.size ≤ 64 := h.2.2.2.2
    have a0 := h.1
    have a1 := h.2.1
    have t0 := h.2.2.1
    have t1 := h.2.2.2.1
    have F := Lib.hid fun W : World => size_any (((putI r.a).length : Int) + ((putI r.t).length : Int) + (r.d.size : Int)) W (by omega) (by omega)
    have s1 : IntKind.i64.wrap (((putI r.a).length : Int) + ((putI r.t).length : Int)) = ((putI r.a).length : Int) + ((putI r.t).length : Int) := IntWalk.i64_in _ (by omega)
    have s2 : IntKind.i64.wrap (((putI r.a).length : Int) + ((putI r.t).length : Int) + (r.d.size : Int)) = ((putI r.a).length : Int) + ((putI r.t).length : Int) + (r.d.size : Int) := IntWalk.i64_in _ (by omega)
    clear h
    unfold recVal at C ⊢
    go_enter Try.func15, Try.ntmps15
    go_wp2_with fail
    refine (C.out _).mono ?_
    rintro e w1 ⟨rfl, b1⟩
    obtain ⟨x0, x1, x2, hb⟩ := box_keep (box_new w _ _ _ _) b1
    go_wp2_with fail
    go_quiet (first | (go_at_call 34; exact Calls.quiet_of_same ((len_any _ _ (by omega) (by omega)).mono fun _ _ ⟨he, hw⟩ => ⟨he, hw.symm⟩)) | (go_at_call 33; exact Calls.quiet_of_same ((F.out _).mono fun _ _ ⟨he, hw⟩ => ⟨he, hw.symm⟩)))
    go_wp2_with fail
    go_ret
    exact ⟨by rw [← HS.out]; rfl, hb.trans ((below_drewN _).mono hb.size)⟩
  · rw [okB_no (Rp.fault_pos h)] at C
    have C := Lib.hid C
    have HS := Lib.hid (show ((Rp.putB r).length : Int) = 0 by rw [Rp.putB_no (Rp.fault_pos h)]; rfl)
    clear h
    unfold recVal at C ⊢
    go_enter Try.func15, Try.ntmps15
    go_wp2_with fail
    refine (C.out _).mono ?_
    rintro e w1 ⟨rfl, b1⟩
    go_wp2_with fail
    go_ret
    exact ⟨by rw [HS.out]; rfl, bel_of_alloc b1⟩

end Go.Proofs.Ytjcokcnlbofbkaa
