/-
  What the document's why, Right, body, Put and Size answer: the same as record's.
-/
import Derived.Test.YtfodcgipdhppmaaRecPut
import Derived.Test.YtfodcgipdhppmaaFrameRef
namespace Go.Proofs.Ytfodcgipdhppmaa
open Go.RowKit

set_option maxRecDepth 100000 in
set_option maxHeartbeats 800000 in
theorem why_any (r : Rp.Rec) (w : World) (hd : r.d.size ≤ 9223372036854775807) :
    Calls Try.prog 33 #[recVal r] w fun e w' => e = .returned (.int .i64 (Rp.fault r)) ∧ Below w.heap.size w w' := by
  have C1 := Lib.hid fun W : World => rwithin_any r.a W
  have C2 := Lib.hid fun W : World => rwithin_any r.t W
  have F1 := Lib.hid (@Rp.fault_a r)
  have F2 := Lib.hid (@Rp.fault_t r)
  have F3 := Lib.hid (@Rp.fault_d r)
  have F4 := Lib.hid (@Rp.fault_ok r)
  unfold recVal
  rcases h1 : Rp.inB r.a with _ | _
  · rw [h1] at C1
    have HF := Lib.hid (F1.out h1)
    clear h1
    go_enter Try.func33, Try.ntmps33
    go_wp2_with fail
    refine (C1.out _).mono ?_
    rintro e w' ⟨rfl, rfl⟩
    go_wp2_with fail
    go_ret
    exact ⟨by rw [HF.out]; rfl, (Below.refl _ _).alloc (Nat.le_refl _) _⟩
  have H1 := Lib.hid h1
  rw [h1] at C1
  clear h1
  rcases h2 : Rp.inB r.t with _ | _
  · rw [h2] at C2
    have HF := Lib.hid (F2.out h2)
    clear h2
    go_enter Try.func33, Try.ntmps33
    go_wp2_with fail
    refine (C1.out _).mono ?_
    rintro e w' ⟨rfl, rfl⟩
    go_wp2_with fail
    refine (C2.out _).mono ?_
    rintro e w' ⟨rfl, rfl⟩
    go_wp2_with fail
    go_ret
    exact ⟨by rw [HF.out]; rfl, (Below.refl _ _).alloc (Nat.le_refl _) _⟩
  have H2 := Lib.hid h2
  rw [h2] at C2
  clear h2
  by_cases h3 : 64 < (r.d.size : Int)
  · have HF := Lib.hid (F3.out H1.out H2.out (by omega))
    go_enter Try.func33, Try.ntmps33
    go_wp2_with fail
    refine (C1.out _).mono ?_
    rintro e w' ⟨rfl, rfl⟩
    go_wp2_with fail
    refine (C2.out _).mono ?_
    rintro e w' ⟨rfl, rfl⟩
    go_wp2_with fail
    go_ret
    exact ⟨by rw [HF.out]; rfl, (Below.refl _ _).alloc (Nat.le_refl _) _⟩
  · have HF := Lib.hid (F4.out H1.out H2.out (by omega))
    go_enter Try.func33, Try.ntmps33
    go_wp2_with fail
    refine (C1.out _).mono ?_
    rintro e w' ⟨rfl, rfl⟩
    go_wp2_with fail
    refine (C2.out _).mono ?_
    rintro e w' ⟨rfl, rfl⟩
    go_wp2_with fail
    go_ret
    exact ⟨by rw [HF.out]; rfl, (Below.refl _ _).alloc (Nat.le_refl _) _⟩

theorem okB_six {r : Rp.Rec} (h : Rp.fault r = 6) : okB r = false := okB_no (by omega)
theorem okB_five {r : Rp.Rec} (h : Rp.fault r = 5) : okB r = false := okB_no (by omega)


set_option maxRecDepth 100000 in
set_option maxHeartbeats 1600000 in
theorem rbody_any (r : Rp.Rec) (w : World) (h : Rp.Ok r) :
    Calls Try.prog 35 #[recVal r] w fun e w' => e = .returned (.string (⟨(putI r.a).toArray⟩ ++ ⟨(putI r.t).toArray⟩ ++ r.d)) ∧ Below w.heap.size w w' := by
  have l1 : (putI r.a).length ≤ 9 := putI_len_le _
  have l2 : (putI r.t).length ≤ 9 := putI_len_le _
  have l3 : r.d.size ≤ 64 := h.2.2.2.2
  have a0 := h.1
  have a1 := h.2.1
  have t0 := h.2.2.1
  have t1 := h.2.2.2.1
  have s1 : ¬ 9223372036854775807 < (putI r.a).length + (putI r.t).length := by omega
  have s2 : ¬ 9223372036854775807 < (putI r.a).length + (putI r.t).length + r.d.size := by omega
  clear h
  unfold recVal
  go_enter Try.func35, Try.ntmps35
  go_wp2_with fail
  have hbox := box_new w (.int .i64 r.a) (.int .i64 r.t) (.string r.d) 35
  go_region_held3 (fun w' => w'.cell? ⟨w.heap.size, 0, none⟩ = some (.int .i64 r.a) ∧ w'.cell? ⟨w.heap.size, 1, none⟩ = some (.int .i64 r.t) ∧ w'.cell? ⟨w.heap.size, 2, none⟩ = some (.string r.d) ∧ Below w.heap.size w w')
    (first | assumption | exact box_keep (by assumption) (Below.refl _ _).drew | exact box_keep (by assumption) (by assumption))
    ((go_at_call 46; refine (rput_any _ _ (by omega) (by omega)).mono ?_; rintro e w4 ⟨rfl, b4⟩))
  go_wp2_with fail
  go_ret
  obtain ⟨_, _, _, hb⟩ := ‹_ ∧ _ ∧ _ ∧ Below w.heap.size w w4›
  exact ⟨rfl, hb⟩

set_option maxRecDepth 100000 in
set_option maxHeartbeats 1600000 in
theorem rrecput_yes (r : Rp.Rec) (w : World) (h : Rp.Ok r) :
    Calls Try.prog 25 #[recVal r] w fun e w' => e = .returned (putVal r) ∧ Below w.heap.size w w' := by
  have hf := Rp.fault_zero h
  have C := fun W : World => why_any r W (by have := h.2.2.2.2; omega)
  rw [hf] at C
  have C := Lib.hid C
  have HV := Lib.hid (putVal_yes hf)
  have hb : (⟨(putI r.a).toArray⟩ ++ ⟨(putI r.t).toArray⟩ ++ r.d : ByteArray).data.toList = Rp.body r := by rw [body_str, putI_pos h.1, putI_pos h.2.2.1]; rfl
  have hs : (⟨(putI r.a).toArray⟩ ++ ⟨(putI r.t).toArray⟩ ++ r.d : ByteArray).size = (Rp.body r).length := by rw [← hb]; rfl
  have F := fun W : World => rfput_yes (⟨(putI r.a).toArray⟩ ++ ⟨(putI r.t).toArray⟩ ++ r.d) W (by rw [hs]; exact Rp.body_may h)
  rw [hb] at F
  have D := fun W : World => rbody_any r W h
  generalize (⟨(putI r.a).toArray⟩ ++ ⟨(putI r.t).toArray⟩ ++ r.d : ByteArray) = B at *
  have F := Lib.hid F
  have D := Lib.hid D
  clear hb hs hf h
  unfold recVal at C D ⊢
  go_enter Try.func25, Try.ntmps25
  go_wp2_with fail
  refine (C.out _).mono ?_
  rintro e w1 ⟨rfl, b1⟩
  obtain ⟨x0, x1, x2, hb⟩ := box_keep (box_new w _ _ _ _) b1
  go_wp2_with fail
  refine (D.out _).mono ?_
  rintro e w2 ⟨rfl, b2⟩
  go_wp2_with fail
  refine (F.out _).mono ?_
  rintro e w3 ⟨rfl, b3⟩
  go_wp2_with fail
  go_ret2
  exact ⟨by rw [HV.out]; rfl, bel_trans2 (bel_trans2 hb b2) b3⟩

set_option maxRecDepth 100000 in
set_option maxHeartbeats 800000 in
theorem rrecput_no (r : Rp.Rec) (w : World) (hd : r.d.size ≤ 9223372036854775807) (h : ¬ Rp.Ok r) :
    Calls Try.prog 25 #[recVal r] w fun e w' => e = .returned (putVal r) ∧ Below w.heap.size w w' := by
  have C := fun W : World => why_any r W hd
  rcases putVal_cases r with ⟨hok, _⟩ | ⟨_, e0, he, hf, hv⟩
  · exact absurd hok h
  rw [hf] at C
  have C := Lib.hid C
  have HV := Lib.hid hv
  clear hv hf h hd
  unfold recVal at C ⊢
  rcases he with rfl | rfl
  all_goals
    go_enter Try.func25, Try.ntmps25
    go_wp2_with fail
    refine (C.out _).mono ?_
    rintro e w1 ⟨rfl, b1⟩
    go_wp2_with fail
    go_ret2
    exact ⟨by rw [HV.out]; rfl, bel_of_alloc b1⟩

/-- The document's Put, at any record. -/
theorem rrecput_any (r : Rp.Rec) (w : World) (hd : r.d.size ≤ 9223372036854775807) :
    Calls Try.prog 25 #[recVal r] w fun e w' => e = .returned (putVal r) ∧ Below w.heap.size w w' := by
  by_cases h : Rp.Ok r
  · exact rrecput_yes r w h
  · exact rrecput_no r w hd h


end Go.Proofs.Ytfodcgipdhppmaa
