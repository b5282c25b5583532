/-
  What record's next answers; nothing that was there is changed.
-/
import Derived.Test.YtjcokcnlbofbkaaRecGetC
namespace Go.Proofs.Ytjcokcnlbofbkaa
open Go.RowKit

/-- What next answers. -/
def nextVal (s : ByteArray) (k : Nat) : Value :=
  .tuple #[recVal (Rp.nxt (s.data.toList.drop k)).1, .int .i64 (if (Rp.nxt (s.data.toList.drop k)).2.2 = 0 then ((k + (Rp.nxt (s.data.toList.drop k)).2.1 : Nat) : Int) else 0), .int .i64 (Rp.nxt (s.data.toList.drop k)).2.2]
theorem nextVal_no {s : ByteArray} {k : Nat} {e : Int} (h : Rp.nxt (s.data.toList.drop k) = (Rp.zero, 0, e)) (he : e ≠ 0) : nextVal s k = .tuple #[.agg #[.int .i64 0, .int .i64 0, .string ⟨#[]⟩], .int .i64 0, .int .i64 e] := by
  unfold nextVal
  rw [h]
  dsimp only
  rw [if_neg he]
  rfl
theorem nextVal_yes {s : ByteArray} {k j q : Nat} {r : Rp.Rec} (h : Rp.nxt (s.data.toList.drop k) = (r, j, 0)) (hq : k + j = q) : nextVal s k = .tuple #[recVal r, .int .i64 (q : Int), .int .i64 0] := by
  unfold nextVal
  rw [h]
  dsimp only
  rw [if_pos rfl, hq]

set_option maxRecDepth 100000 in
set_option maxHeartbeats 1600000 in
theorem next_none (s : ByteArray) (k : Nat) (w : World) (hs : s.size ≤ 140737488351232) (e0 : Nat) (he : e0 = 2 ∨ e0 = 3 ∨ e0 = 4) (hn : Fr.nx (s.data.toList.drop k) = (e0, 0, [])) :
    Calls Try.prog 37 #[.string s, .int .i64 k] w fun e w' => e = .returned (nextVal s k) ∧ Below w.heap.size w w' := by
  have C := fun W : World => fnext_any s (k : Int) W hs
  rw [nxAt_in, nxVal_no hn (by omega)] at C
  have HV := Lib.hid (nextVal_no (Rp.nxt_no hn (by omega)) (by omega))
  have C := Lib.hid C
  clear hn
  rcases he with rfl | rfl | rfl
  all_goals
    go_enter Try.func37, Try.ntmps37
    go_wp2_with fail
    refine (C.out _).mono ?_
    rintro e w1 ⟨rfl, b1⟩
    obtain ⟨hc, hf⟩ := bcell b1
    go_wp2_with fail
    have hb : Below w.heap.size w w1 := bel_of_alloc b1
    refine bodyPost_ret (v := .tuple #[.agg #[.int .i64 0, .int .i64 0, .string ⟨#[]⟩], .int .i64 0, .int .i64 _]) (by simp [results, Try.results37, go_sem, hc]; rfl) rfl
      ⟨by rw [HV.out]; rfl, ((hb.setCell (p := ⟨w.heap.size, 0, none⟩) (Nat.le_refl _) _).setCell (p := ⟨w.heap.size, 1, none⟩) (Nat.le_refl _) _).setCell (p := ⟨w.heap.size, 2, none⟩) (Nat.le_refl _) _⟩

set_option maxRecDepth 100000 in
set_option maxHeartbeats 1600000 in
theorem next_bad (s : ByteArray) (k j : Nat) (b : List UInt8) (w : World) (hs : s.size ≤ 140737488351232) (hbs : b.length ≤ 9223372036854775807) (e0 : Int) (he : e0 = 3 ∨ e0 = 5 ∨ e0 = 6) (hn : Fr.nx (s.data.toList.drop k) = (0, j, b)) (hg : Rp.get b = (Rp.zero, e0)) :
    Calls Try.prog 37 #[.string s, .int .i64 k] w fun e w' => e = .returned (nextVal s k) ∧ Below w.heap.size w w' := by
  have C := fun W : World => fnext_any s (k : Int) W hs
  rw [nxAt_in, nxVal_yes hn] at C
  have D := fun W : World => get_any ⟨b.toArray⟩ W (by rw [size_mk_list]; exact hbs)
  rw [show (⟨b.toArray⟩ : ByteArray).data.toList = b from rfl, getVal_no hg] at D
  have HV := Lib.hid (nextVal_no (Rp.nxt_bad hn hg (by omega)) (by omega))
  generalize k + j = q at *
  have C := Lib.hid C
  have D := Lib.hid D
  clear hn hg hbs
  rcases he with rfl | rfl | rfl
  all_goals
    go_enter Try.func37, Try.ntmps37
    go_wp2_with fail
    refine (C.out _).mono ?_
    rintro e w1 ⟨rfl, b1⟩
    go_wp2_with fail
    refine (D.out _).mono ?_
    rintro e w2 ⟨rfl, b2⟩
    have b12 := bel_trans2 b1 b2
    have hsz : w.heap.size < w2.heap.size := by have := b12.size; simp at this; omega
    obtain ⟨hc, hf⟩ := bcell b12
    go_wp2_with fail
    have hb : Below w.heap.size w w2 := bel_of_alloc b12
    refine bodyPost_ret (v := .tuple #[.agg #[.int .i64 0, .int .i64 0, .string ⟨#[]⟩], .int .i64 0, .int .i64 _]) (by simp [results, Try.results37, go_sem, hc, hsz]; rfl) rfl
      ⟨by rw [HV.out], (((hb.setCell (p := ⟨w.heap.size, 0, none⟩) (Nat.le_refl _) _).setCell (p := ⟨w.heap.size, 1, none⟩) (Nat.le_refl _) _).setCell (p := ⟨w.heap.size, 2, none⟩) (Nat.le_refl _) _).alloc (by simpa using hb.size) _⟩

set_option maxRecDepth 100000 in
set_option maxHeartbeats 1600000 in
theorem next_yes (s : ByteArray) (k j : Nat) (b : List UInt8) (w : World) (hs : s.size ≤ 140737488351232) (hbs : b.length ≤ 9223372036854775807) (r : Rp.Rec) (hn : Fr.nx (s.data.toList.drop k) = (0, j, b)) (hg : Rp.get b = (r, 0)) :
    Calls Try.prog 37 #[.string s, .int .i64 k] w fun e w' => e = .returned (nextVal s k) ∧ Below w.heap.size w w' := by
  have C := fun W : World => fnext_any s (k : Int) W hs
  rw [nxAt_in, nxVal_yes hn] at C
  have D := fun W : World => get_any ⟨b.toArray⟩ W (by rw [size_mk_list]; exact hbs)
  rw [show (⟨b.toArray⟩ : ByteArray).data.toList = b from rfl, getVal_yes hg] at D
  have HV := Lib.hid (nextVal_yes (Rp.nxt_yes hn hg) rfl)
  generalize k + j = q at *
  have C := Lib.hid C
  have D := Lib.hid D
  clear hn hg hbs
  unfold recVal at D HV
  go_enter Try.func37, Try.ntmps37
  go_wp2_with fail
  refine (C.out _).mono ?_
  rintro e w1 ⟨rfl, b1⟩
  go_wp2_with fail
  refine (D.out _).mono ?_
  rintro e w2 ⟨rfl, b2⟩
  have b12 := bel_trans2 b1 b2
  have hsz : w.heap.size < w2.heap.size := by have := b12.size; simp at this; omega
  obtain ⟨hc, hf⟩ := bcell b12
  go_wp2_with fail
  have hb : Below w.heap.size w w2 := bel_of_alloc b12
  refine bodyPost_ret (v := .tuple #[.agg #[.int .i64 r.a, .int .i64 r.t, .string r.d], .int .i64 (q : Int), .int .i64 0]) (by simp [results, Try.results37, go_sem, hc, hsz]) rfl
    ⟨by rw [HV.out], (((hb.setCell (p := ⟨w.heap.size, 0, none⟩) (Nat.le_refl _) _).setCell (p := ⟨w.heap.size, 1, none⟩) (Nat.le_refl _) _).setCell (p := ⟨w.heap.size, 2, none⟩) (Nat.le_refl _) _).alloc (by simpa using hb.size) _⟩

/-- record's next, at any place that isn't below 0. -/
theorem next_any (s : ByteArray) (k : Nat) (w : World) (hs : s.size ≤ 140737488351232) :
    Calls Try.prog 37 #[.string s, .int .i64 k] w fun e w' => e = .returned (nextVal s k) ∧ Below w.heap.size w w' := by
  rcases Fr.nx_cases (s.data.toList.drop k) with ⟨e, h, h3⟩ | ⟨j, b, h, h5, h6, h7, h8⟩
  · exact next_none s k w hs e h3 h
  · have hbl : b.length ≤ 9223372036854775807 := by have := h7.2; omega
    rcases Rp.get_cases b with ⟨e, hg, he⟩ | ⟨r, hg, hok, hb⟩
    · exact next_bad s k j b w hs hbl e he h hg
    · exact next_yes s k j b w hs hbl r h hg

end Go.Proofs.Ytjcokcnlbofbkaa
