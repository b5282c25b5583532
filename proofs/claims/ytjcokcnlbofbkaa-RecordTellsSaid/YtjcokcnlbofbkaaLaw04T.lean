/-
  What RecordTells answers: true, whatever it is given; nothing that was there is changed.
-/
import Derived.Test.YtjcokcnlbofbkaaLaw04O
namespace Go.Proofs.Ytjcokcnlbofbkaa
open Go.RowKit

set_option maxRecDepth 100000 in
set_option maxHeartbeats 800000 in
theorem tells4_long (r : Rp.Rec) (s : ByteArray) (w : World) (h : 300 < (r.d.size : Int) ∨ 300 < (s.size : Int)) :
    Calls Try.prog 3 #[recVal r, .string s] w fun e w' => e = .returned (.bool true) ∧ Below w.heap.size w w' := by
  unfold recVal
  by_cases h1 : 300 < (r.d.size : Int)
  · clear h
    go_enter Try.func3, Try.ntmps3
    go_wp2_with fail
    refine (awake04 _).mono ?_
    rintro e w3 ⟨rfl, hbel⟩
    go_wp2_with fail
    go_ret
    exact ⟨rfl, bel_of_alloc hbel⟩
  · have h2 : 300 < (s.size : Int) := by omega
    have h3 : decide (300 < (r.d.size : Int)) = false := by simpa using h1
    clear h h1
    go_enter Try.func3, Try.ntmps3
    go_wp2_with fail
    refine (awake04 _).mono ?_
    rintro e w3 ⟨rfl, hbel⟩
    go_wp2_with fail
    go_ret
    exact ⟨rfl, bel_of_alloc hbel⟩

theorem getVal_form (l : List UInt8) : ∃ (a t : Int) (d : ByteArray) (e : Int), getVal l = .tuple #[.agg #[.int .i64 a, .int .i64 t, .string d], .int .i64 e] := ⟨_, _, _, _, rfl⟩

theorem keep10 {w w1 w2 : World} {b c d : Nat} {x0 x1 x2 y0 y1 y2 z0 z1 z2 : Value}
    (h : w1.cell? ⟨b, 0, none⟩ = some x0 ∧ w1.cell? ⟨b, 1, none⟩ = some x1 ∧ w1.cell? ⟨b, 2, none⟩ = some x2 ∧ w1.cell? ⟨c, 0, none⟩ = some y0 ∧ w1.cell? ⟨c, 1, none⟩ = some y1 ∧ w1.cell? ⟨c, 2, none⟩ = some y2 ∧ w1.cell? ⟨d, 0, none⟩ = some z0 ∧ w1.cell? ⟨d, 1, none⟩ = some z1 ∧ w1.cell? ⟨d, 2, none⟩ = some z2 ∧ Below w.heap.size w w1)
    (hb : Below w1.heap.size w1 w2) :
    w2.cell? ⟨b, 0, none⟩ = some x0 ∧ w2.cell? ⟨b, 1, none⟩ = some x1 ∧ w2.cell? ⟨b, 2, none⟩ = some x2 ∧ w2.cell? ⟨c, 0, none⟩ = some y0 ∧ w2.cell? ⟨c, 1, none⟩ = some y1 ∧ w2.cell? ⟨c, 2, none⟩ = some y2 ∧ w2.cell? ⟨d, 0, none⟩ = some z0 ∧ w2.cell? ⟨d, 1, none⟩ = some z1 ∧ w2.cell? ⟨d, 2, none⟩ = some z2 ∧ Below w.heap.size w w2 := by
  obtain ⟨h0, h1, h2, h3, h4, h5, h6, h7, h8, h9⟩ := h
  exact ⟨keep1 h0 hb, keep1 h1 hb, keep1 h2 hb, keep1 h3 hb, keep1 h4 hb, keep1 h5 hb, keep1 h6 hb, keep1 h7 hb, keep1 h8 hb, h9.trans (hb.mono h9.size)⟩
theorem keep9 {w w1 w2 : World} {b c d : Nat} {x0 x1 x2 y0 y1 y2 z0 z1 z2 : Value}
    (h : w1.cell? ⟨b, 0, none⟩ = some x0 ∧ w1.cell? ⟨b, 1, none⟩ = some x1 ∧ w1.cell? ⟨b, 2, none⟩ = some x2 ∧ w1.cell? ⟨c, 0, none⟩ = some y0 ∧ w1.cell? ⟨c, 1, none⟩ = some y1 ∧ w1.cell? ⟨c, 2, none⟩ = some y2 ∧ Below w.heap.size w w1)
    (hb : Below w1.heap.size w1 w2) (hz : w2.cell? ⟨d, 0, none⟩ = some z0 ∧ w2.cell? ⟨d, 1, none⟩ = some z1 ∧ w2.cell? ⟨d, 2, none⟩ = some z2) :
    w2.cell? ⟨b, 0, none⟩ = some x0 ∧ w2.cell? ⟨b, 1, none⟩ = some x1 ∧ w2.cell? ⟨b, 2, none⟩ = some x2 ∧ w2.cell? ⟨c, 0, none⟩ = some y0 ∧ w2.cell? ⟨c, 1, none⟩ = some y1 ∧ w2.cell? ⟨c, 2, none⟩ = some y2 ∧ w2.cell? ⟨d, 0, none⟩ = some z0 ∧ w2.cell? ⟨d, 1, none⟩ = some z1 ∧ w2.cell? ⟨d, 2, none⟩ = some z2 ∧ Below w.heap.size w w2 := by
  obtain ⟨h0, h1, h2, h3, h4, h5, h9⟩ := h
  exact ⟨keep1 h0 hb, keep1 h1 hb, keep1 h2 hb, keep1 h3 hb, keep1 h4 hb, keep1 h5 hb, hz.1, hz.2.1, hz.2.2, h9.trans (hb.mono h9.size)⟩

set_option maxRecDepth 100000 in
set_option maxHeartbeats 3200000 in
theorem tells4_short (r : Rp.Rec) (s : ByteArray) (w : World) (h1 : (r.d.size : Int) ≤ 300) (h2 : (s.size : Int) ≤ 300) :
    Calls Try.prog 3 #[recVal r, .string s] w fun e w' => e = .returned (.bool true) ∧ Below w.heap.size w w' := by
  have P1 := fun W : World => recput_any r W (by omega)
  have P2 := fun W : World => rrecput_any r W (by omega)
  have G1 := fun W : World => get_any s W (by omega)
  have G2 := fun W : World => rget_any s W (by omega)
  have R1 := fun W : World => right_any r W (by omega)
  have R2 := fun W : World => rright_any r W (by omega)
  have S1 := fun W : World => recsize_any r W (by omega)
  have S2 := fun W : World => rrecsize_any r W (by omega)
  have h3 : decide (300 < (r.d.size : Int)) = false := by simp; omega
  have h4 : decide (300 < (s.size : Int)) = false := by simp; omega
  obtain ⟨a, t, d, e0, hg⟩ := getVal_form s.data.toList
  rw [hg] at G1 G2
  unfold putVal at P1 P2
  generalize Rp.putB r = B at *
  generalize Rp.fault r = f at *
  generalize okB r = o at *
  unfold recVal at *
  have P1 := Lib.hid P1
  have P2 := Lib.hid P2
  have G1 := Lib.hid G1
  have G2 := Lib.hid G2
  have R1 := Lib.hid R1
  have R2 := Lib.hid R2
  have S1 := Lib.hid S1
  have S2 := Lib.hid S2
  clear hg h1 h2
  go_enter Try.func3, Try.ntmps3
  go_wp2_with fail
  refine (P1.out _).mono ?_
  rintro e w1 ⟨rfl, b1⟩
  obtain ⟨x0, x1, x2, bb1⟩ := box_keep (box_new w _ _ _ _) b1
  go_wp2_with fail
  refine (P2.out _).mono ?_
  rintro e w2 ⟨rfl, b2⟩
  go_wp2_with fail
  refine (G1.out _).mono ?_
  rintro e w3 ⟨rfl, b3⟩
  go_wp2_with fail
  refine (G2.out _).mono ?_
  rintro e w4 ⟨rfl, b4⟩
  obtain ⟨y0, y1, y2, bb4⟩ := box_keep (box_new w3 _ _ _ _) b4
  have q := bel_trans2 (bel_trans2 b2 b3) bb4
  have u0 := keep1 x0 q
  have u1 := keep1 x1 q
  have u2 := keep1 x2 q
  have b04 := bel_trans2 bb1 q
  clear x0 x1 x2 b1 b2 b3 b4 bb1 bb4 q
  go_wp2_with fail
  obtain ⟨z0, z1, z2, bz⟩ := box_new w4 (.int .i64 a) (.int .i64 t) (.string d) 23
  have q := keep9 ⟨u0, u1, u2, y0, y1, y2, b04⟩ bz ⟨z0, z1, z2⟩
  generalize World.alloc w4 _ = w5 at q ⊢
  clear u0 u1 u2 y0 y1 y2 b04 z0 z1 z2 bz
  go_region_held3 (fun w' => w'.cell? ⟨w.heap.size, 0, none⟩ = some (.int .i64 r.a) ∧ w'.cell? ⟨w.heap.size, 1, none⟩ = some (.int .i64 r.t) ∧ w'.cell? ⟨w.heap.size, 2, none⟩ = some (.string r.d) ∧ w'.cell? ⟨w3.heap.size, 0, none⟩ = some (.int .i64 a) ∧ w'.cell? ⟨w3.heap.size, 1, none⟩ = some (.int .i64 t) ∧ w'.cell? ⟨w3.heap.size, 2, none⟩ = some (.string d) ∧ w'.cell? ⟨w4.heap.size, 0, none⟩ = some (.int .i64 a) ∧ w'.cell? ⟨w4.heap.size, 1, none⟩ = some (.int .i64 t) ∧ w'.cell? ⟨w4.heap.size, 2, none⟩ = some (.string d) ∧ Below w.heap.size w w')
    (first | assumption | exact keep10 (by assumption) (Below.refl _ _).drew | exact keep10 (by assumption) (by assumption))
    (first | (go_at_call 8; refine (awake04 _).mono ?_; rintro e w6 ⟨rfl, b6⟩) | (go_at_call 13; refine (R1.out _).mono ?_; rintro e w7 ⟨rfl, b7⟩) | (go_at_call 14; refine (R2.out _).mono ?_; rintro e w8 ⟨rfl, b8⟩) | (go_at_call 15; refine (S1.out _).mono ?_; rintro e w9 ⟨rfl, b9⟩) | (go_at_call 16; refine (S2.out _).mono ?_; rintro e w10 ⟨rfl, b10⟩))
  go_wp2_with fail
  go_ret
  rename_i q2
  exact ⟨rfl, q2.2.2.2.2.2.2.2.2.2⟩

theorem tells4 (r : Rp.Rec) (s : ByteArray) (w : World) :
    Calls Try.prog 3 #[recVal r, .string s] w fun e w' => e = .returned (.bool true) ∧ Below w.heap.size w w' := by
  by_cases h1 : 300 < (r.d.size : Int)
  · exact tells4_long r s w (.inl h1)
  · by_cases h2 : 300 < (s.size : Int)
    · exact tells4_long r s w (.inr h2)
    · exact tells4_short r s w (by omega) (by omega)

end Go.Proofs.Ytjcokcnlbofbkaa
