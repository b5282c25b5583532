/-
  What the statements' example of layer 4 answers, and what RecordOnce answers: true, whatever it is given; nothing that was there is changed.
-/
import Derived.Test.YtjcokcnlbofbkaaRecGetC
import Derived.Laws.StructEq
namespace Go.Proofs.Ytjcokcnlbofbkaa
open Go.RowKit

theorem keep1 {w1 w2 : World} {b o : Nat} {x : Value} (h : w1.cell? ⟨b, o, none⟩ = some x) (hb : Below w1.heap.size w1 w2) : w2.cell? ⟨b, o, none⟩ = some x :=
  (hb.cell (p := ⟨b, o, none⟩) (block_lt_of_cell h)).trans h
def awRec : Rp.Rec := ⟨5, 9, ⟨#[97, 98]⟩⟩
theorem aw_put : putVal awRec = .tuple #[.string ⟨(Fr.fr [5, 9, 97, 98]).toArray⟩, .int .i64 0] := putVal_yes rfl
theorem aw_fr : Fr.fr [5, 9, 97, 98] = [4, 145, 161, 131, 141, 5, 9, 97, 98] := by decide +kernel
theorem aw_get : getVal [5, 9, 97, 98] = .tuple #[.agg #[.int .i64 5, .int .i64 9, .string ⟨#[97, 98]⟩], .int .i64 0] := by
  have h := Rp.get_body (r := awRec) ⟨by decide, by decide, by decide, by decide, by decide⟩
  have e : Rp.body awRec = [5, 9, 97, 98] := by decide +kernel
  rw [e] at h
  exact getVal_yes h

set_option maxRecDepth 100000 in
set_option maxHeartbeats 800000 in
theorem awake04 (w : World) : Calls Try.prog 8 #[] w fun e w' => e = .returned (.bool true) ∧ Below w.heap.size w w' := by
  have c1 : ∀ W : World, Calls Try.prog 9 #[.agg #[.int .i64 5, .int .i64 9, .string ⟨#[97, 98]⟩]] W fun e w' => e = .returned (putVal awRec) ∧ Below W.heap.size W w' := fun W => recput_any awRec W (by decide)
  rw [aw_put, aw_fr] at c1
  have c2 : ∀ W : World, Calls Try.prog 11 #[.string ⟨#[5, 9, 97, 98]⟩] W fun e w' => e = .returned (getVal [5, 9, 97, 98]) ∧ Below W.heap.size W w' := fun W => get_any ⟨#[5, 9, 97, 98]⟩ W (by decide)
  rw [aw_get] at c2
  have C1 := Lib.hid c1
  have C2 := Lib.hid c2
  clear c1 c2
  have hx : (((⟨#[4, 145, 161, 131, 141, 5, 9, 97, 98]⟩ : ByteArray).extract 5 9).toList == [5, 9, 97, 98]) = true := by decide +kernel
  go_enter Try.func8, Try.ntmps8
  go_wp2_with fail
  refine (C1.out _).mono ?_
  rintro e w1 ⟨rfl, b1⟩
  go_wp2_with fail
  refine (C2.out _).mono ?_
  rintro e w2 ⟨rfl, b2⟩
  go_wp2_with fail
  go_ret
  exact ⟨rfl, (bel_trans2 b1 b2).alloc (by have := b1.size; have := b2.size; omega) _⟩

set_option maxRecDepth 100000 in
set_option maxHeartbeats 800000 in
theorem once4_long (s : ByteArray) (w : World) (h : 300 < (s.size : Int)) :
    Calls Try.prog 6 #[.string s] w fun e w' => e = .returned (.bool true) ∧ Below w.heap.size w w' := by
  go_enter Try.func6, Try.ntmps6
  go_wp2_with fail
  refine (awake04 _).mono ?_
  rintro e w3 ⟨rfl, hbel⟩
  go_wp2_with fail
  go_ret
  exact ⟨rfl, hbel⟩

set_option maxRecDepth 100000 in
set_option maxHeartbeats 800000 in
theorem once4_no (s : ByteArray) (w : World) (hl : (s.size : Int) ≤ 300) (e0 : Int) (he : e0 = 3 ∨ e0 = 5 ∨ e0 = 6) (hg : Rp.get s.data.toList = (Rp.zero, e0)) :
    Calls Try.prog 6 #[.string s] w fun e w' => e = .returned (.bool true) ∧ Below w.heap.size w w' := by
  have C1 := fun W : World => get_any s W (by omega)
  rw [getVal_no hg] at C1
  have C1 := Lib.hid C1
  clear hg
  rcases he with rfl | rfl | rfl
  all_goals
    go_enter Try.func6, Try.ntmps6
    go_wp2_with fail
    refine (C1.out _).mono ?_
    rintro e w1 ⟨rfl, b1⟩
    go_wp2_with fail
    refine (awake04 _).mono ?_
    rintro e w3 ⟨rfl, b3⟩
    obtain ⟨x0, x1, x2, b13⟩ := box_keep (box_new w1 _ _ _ _) b3
    go_wp2_with fail
    go_ret
    exact ⟨rfl, bel_trans2 b1 b13⟩

theorem fr_tail (b : List UInt8) : (Fr.fr b).drop ((Fr.fr b).length - b.length) = b := by
  unfold Fr.fr
  rw [List.length_append (bs := b), Nat.add_sub_cancel]
  exact List.drop_left' rfl

set_option maxRecDepth 100000 in
set_option maxHeartbeats 1600000 in
theorem once4_yes (s : ByteArray) (w : World) (hl : (s.size : Int) ≤ 300) (r : Rp.Rec) (hok : Rp.Ok r) (hb : Rp.body r = s.data.toList) (hg : Rp.get s.data.toList = (r, 0)) :
    Calls Try.prog 6 #[.string s] w fun e w' => e = .returned (.bool true) ∧ Below w.heap.size w w' := by
  have C1 := fun W : World => get_any s W (by omega)
  rw [getVal_yes hg] at C1
  have C2 := fun W : World => recput_any r W (by have := hok.2.2.2.2; omega)
  have hfl := Rp.fr_le hok
  rw [putVal_yes (Rp.fault_zero hok)] at C2
  rw [hb] at C2 hfl
  rw [show s.data.toList.length = s.size from rfl] at hfl
  have hfr := fr_tail s.data.toList
  rw [show s.data.toList.length = s.size from rfl] at hfr
  obtain ⟨F, hF⟩ : ∃ F, Fr.fr s.data.toList = F := ⟨_, rfl⟩
  rw [hF] at C2 hfl hfr
  have hx : (⟨F.toArray⟩ : ByteArray).extract (F.length - s.size) F.length = s := by
    have := ext_drop ⟨F.toArray⟩ (F.length - s.size)
    rw [show (⟨F.toArray⟩ : ByteArray).data.toList = F from rfl, hfr, size_mk_list F] at this
    exact this.symm.trans (Rp.mk_toList s)
  have hsl : ∀ W : World, (Instr.slice 9 (.string ⟨F.toArray⟩) (some (.int .i64 ((F.length : Int) - (s.size : Int)))) none none).run Try.prog W = .ok (.string s) W := by
    intro W
    rw [run_slice_string_l (P := Try.prog) W 9 ⟨F.toArray⟩ Try.underlying9 .i64 ((F.length : Int) - (s.size : Int)) (by omega) (by rw [size_mk_list F]; omega)]
    rw [size_mk_list F, show ((F.length : Int) - (s.size : Int)).toNat = F.length - s.size by omega, hx]
  have s1 : (0 : Int) ≤ (F.length : Int) - (s.size : Int) := by omega
  have s2 : (s.size : Int) < (F.length : Int) := by omega
  have s3 : (F.length : Int) ≤ 400 := by omega
  have C1 := Lib.hid C1
  have C2 := Lib.hid C2
  clear hF hfr hx hg hb hok hfl
  unfold recVal at C1 C2
  go_enter Try.func6, Try.ntmps6
  go_wp2_with fail
  refine (C1.out _).mono ?_
  rintro e w1 ⟨rfl, b1⟩
  go_wp2_with fail
  refine (C2.out _).mono ?_
  rintro e w2 ⟨rfl, b2⟩
  go_wp2_with fail
  refine (awake04 _).mono ?_
  rintro e w3 ⟨rfl, b3⟩
  go_wp2_with fail
  go_ret
  exact ⟨rfl, bel_trans2 b1 (bel_trans2 (bel_of_alloc b2) b3)⟩

theorem once4 (s : ByteArray) (w : World) :
    Calls Try.prog 6 #[.string s] w fun e w' => e = .returned (.bool true) ∧ Below w.heap.size w w' := by
  by_cases h : 300 < (s.size : Int)
  · exact once4_long s w h
  · rcases Rp.get_cases s.data.toList with ⟨e, hg, he⟩ | ⟨r, hg, hok, hb⟩
    · exact once4_no s w (by omega) e he hg
    · exact once4_yes s w (by omega) r hok hb hg

end Go.Proofs.Ytjcokcnlbofbkaa
