/-
  What the program's next and mayBe answer (layer 9): the record that stands at a place, of an offset, and the place behind it, or why there is none.
-/
import Derived.Test.YtfodcgipdhppmaaSegRef2
import Derived.Test.YtfodcgipdhppmaaRecGetC
import Derived.Test.YtfodcgipdhppmaaFrameNext
namespace Go.Proofs.Ytfodcgipdhppmaa
open Go.RowKit

theorem heap_old {W : World} {k : Nat} {x : Obj} (o : Obj) (h : W.heap[k]? = some x) : (W.alloc o).heap[k]? = some x := (Below.heap_alloc _ _ _ (Array.getElem?_eq_some_iff.1 h).1).trans h

namespace Gp
/-- What stands at place k, of offset b. -/
def fd (l : List UInt8) (b : Int) (k : Nat) : Rp.Rec × Nat × Int :=
  if (Rp.nxt (l.drop k)).2.2 = 0 then (if (Rp.nxt (l.drop k)).1.a = b then ((Rp.nxt (l.drop k)).1, k + (Rp.nxt (l.drop k)).2.1, 0) else (Rp.zero, 0, 3)) else (Rp.zero, 0, (Rp.nxt (l.drop k)).2.2)
theorem fd_no {l : List UInt8} {b : Int} {k : Nat} {e : Int} (h : Rp.nxt (l.drop k) = (Rp.zero, 0, e)) (he : e ≠ 0) : fd l b k = (Rp.zero, 0, e) := by unfold fd; rw [h]; dsimp only; rw [if_neg he]
theorem fd_form {l : List UInt8} {b : Int} {k j : Nat} {r : Rp.Rec} (h : Rp.nxt (l.drop k) = (r, j, 0)) (ha : r.a ≠ b) : fd l b k = (Rp.zero, 0, 3) := by unfold fd; rw [h]; dsimp only; rw [if_pos rfl, if_neg ha]
theorem fd_yes {l : List UInt8} {b : Int} {k j : Nat} {r : Rp.Rec} (h : Rp.nxt (l.drop k) = (r, j, 0)) (ha : r.a = b) : fd l b k = (r, k + j, 0) := by unfold fd; rw [h]; dsimp only; rw [if_pos rfl, if_pos ha]
end Gp
def fdVal (x : Rp.Rec × Nat × Int) : Value := .tuple #[.agg #[.int .i64 x.1.a, .int .i64 x.1.t, .string x.1.d], .int .i64 (x.2.1 : Int), .int .i64 x.2.2]
theorem fdVal_no {l : List UInt8} {b : Int} {k : Nat} {e : Int} (h : Gp.fd l b k = (Rp.zero, 0, e)) : fdVal (Gp.fd l b k) = .tuple #[.agg #[.int .i64 0, .int .i64 0, .string ⟨#[]⟩], .int .i64 0, .int .i64 e] := by rw [h]; rfl

theorem maybe9_any (b : Int) (w : World) : Calls Try.prog 18 #[.int .i64 b] w fun e w' => e = .returned (.bool (Rp.inB b)) ∧ w = w' := by
  by_cases h0 : b < 0
  · rw [Rp.inB_no (.inl h0)]
    have e1 : decide (0 ≤ b) = false := by simp; omega
    go_enter Try.func18, Try.ntmps18
    go_wp2_with fail
    go_ret
    all_goals first | exact ⟨rfl, rfl⟩ | simp_all
  · by_cases h1 : b ≤ 1099511627776
    · rw [Rp.inB_mk (by omega) h1]
      have e1 : decide (0 ≤ b) = true := by simp; omega
      have e2 : decide (b ≤ 1099511627776) = true := by simp; omega
      go_enter Try.func18, Try.ntmps18
      go_wp2_with fail
      go_ret
      all_goals first | exact ⟨rfl, rfl⟩ | simp_all
    · rw [Rp.inB_no (.inr (by omega))]
      have e1 : decide (0 ≤ b) = true := by simp; omega
      have e2 : decide (b ≤ 1099511627776) = false := by simp; omega
      go_enter Try.func18, Try.ntmps18
      go_wp2_with fail
      go_ret
      all_goals first | exact ⟨rfl, rfl⟩ | simp_all

set_option maxRecDepth 100000 in
set_option maxHeartbeats 3200000 in
theorem next9_any (s : ByteArray) (k : Nat) (b : Int) (w : World) (hs : s.size ≤ 140737488351232) :
    Calls Try.prog 20 #[.string s, .int .i64 (k : Int), .int .i64 b] w fun e w' => e = .returned (fdVal (Gp.fd s.data.toList b k)) ∧ Below w.heap.size w w' := by
  have C := fun W : World => fnext_any s (k : Int) W hs
  rw [nxAt_in] at C
  have HA := Lib.hid ((Below.refl w.heap.size w).alloc (Nat.le_refl _) (.cells #[.int .i64 0, .int .i64 0, .string ⟨#[]⟩] 35))
  have G0 := Lib.hid (heap_alloc_new w (.cells #[.int .i64 0, .int .i64 0, .string ⟨#[]⟩] 35))
  rcases Fr.nx_cases (s.data.toList.drop k) with ⟨er, he, h3⟩ | ⟨j, bd, he, h5, h6, h7, h8⟩
  · rw [nxVal_no he (by omega)] at C
    have HV := Lib.hid (fdVal_no (Gp.fd_no (b := b) (Rp.nxt_no he (by omega)) (by omega)))
    replace C := Lib.hid C
    clear he
    rcases h3 with rfl | rfl | rfl
    all_goals
      go_enter Try.func20, Try.ntmps20
      go_wp2_with fail
      generalize World.alloc w _ = w0 at HA G0 ⊢
      refine (C.out _).mono ?_
      rintro e w1 ⟨rfl, b1⟩
      have HB := Lib.hid (HA.out.trans (b1.mono HA.out.size))
      have G1 := Lib.hid ((b1.block w.heap.size (Array.getElem?_eq_some_iff.1 G0.out).1).trans G0.out)
      have hwl := (Array.getElem?_eq_some_iff.1 G1.out).1
      obtain ⟨f0, f1, f2⟩ := frozenK G1.out
      obtain ⟨z0, z1, z2⟩ := cells3 G1.out
      clear b1 G0 HA
      go_wp2_with fail
      refine bodyPost_ret (v := .tuple #[.agg #[.int .i64 0, .int .i64 0, .string ⟨#[]⟩], .int .i64 0, .int .i64 _]) (by simp [results, Try.results20, go_sem, z0, z1, z2]; rfl) rfl ?_
      exact ⟨by rw [HV.out]; rfl, bel_st3 HB.out (Nat.le_refl _) _ _ _⟩
  · rw [nxVal_yes he] at C
    obtain ⟨q, hq⟩ : ∃ q, k + j = q := ⟨_, rfl⟩
    rw [hq] at C
    replace C := Lib.hid C
    have hbl : bd.length ≤ 9223372036854775807 := by have := h7.2; omega
    have D := fun W : World => get_any ⟨bd.toArray⟩ W (by rw [size_mk_list]; exact hbl)
    rw [show (⟨bd.toArray⟩ : ByteArray).data.toList = bd from rfl] at D
    rcases Rp.get_cases bd with ⟨er, hg, h3⟩ | ⟨r, hg, hok, hbd⟩
    · rw [getVal_no hg] at D
      have HV := Lib.hid (fdVal_no (Gp.fd_no (b := b) (Rp.nxt_bad he hg (by omega)) (by omega)))
      replace D := Lib.hid D
      clear he hg h5 h6 h7 h8 hq hbl
      rcases h3 with rfl | rfl | rfl
      all_goals
        go_enter Try.func20, Try.ntmps20
        go_wp2_with fail
        generalize World.alloc w _ = w0 at HA G0 ⊢
        refine (C.out _).mono ?_
        rintro e w1 ⟨rfl, b1⟩
        go_wp2_with fail
        refine (D.out _).mono ?_
        rintro e w2 ⟨rfl, b2⟩
        have HB12 := Lib.hid (bel_trans2 b1 b2)
        have HB := Lib.hid ((HA.out.trans (HB12.out.mono HA.out.size)).alloc (by have := HA.out.size; have := HB12.out.size; omega) (.cells #[.int .i64 0, .int .i64 0, .string ⟨#[]⟩] 35))
        have G1 := Lib.hid (heap_old (.cells #[.int .i64 0, .int .i64 0, .string ⟨#[]⟩] 35) ((HB12.out.block w.heap.size (Array.getElem?_eq_some_iff.1 G0.out).1).trans G0.out))
        have hwl := (Array.getElem?_eq_some_iff.1 G1.out).1
        obtain ⟨f0, f1, f2⟩ := frozenK G1.out
        obtain ⟨z0, z1, z2⟩ := cells3 G1.out
        clear b1 b2 G0 HA
        go_wp2_with fail
        refine bodyPost_ret (v := .tuple #[.agg #[.int .i64 0, .int .i64 0, .string ⟨#[]⟩], .int .i64 0, .int .i64 _]) (by simp [results, Try.results20, go_sem, z0, z1, z2]; rfl) rfl ?_
        exact ⟨by rw [HV.out], bel_st3 HB.out (Nat.le_refl _) _ _ _⟩
    · rw [getVal_yes hg] at D
      have hnx := Rp.nxt_yes he hg
      have HV := Lib.hid (show (r.a = b → fdVal (Gp.fd s.data.toList b k) = .tuple #[.agg #[.int .i64 b, .int .i64 r.t, .string r.d], .int .i64 (q : Int), .int .i64 0]) ∧ (r.a ≠ b → fdVal (Gp.fd s.data.toList b k) = .tuple #[.agg #[.int .i64 0, .int .i64 0, .string ⟨#[]⟩], .int .i64 0, .int .i64 3]) from
        ⟨fun h => by rw [Gp.fd_yes hnx h, hq]; subst h; rfl, fun h => fdVal_no (Gp.fd_form hnx h)⟩)
      unfold recVal at D
      replace D := Lib.hid D
      clear he hg hok hnx h5 h6 h7 h8 hq hbl hbd
      generalize fdVal (Gp.fd s.data.toList b k) = V at *
      by_cases ha : r.a = b
      · have HV2 := Lib.hid (HV.out.1 ha)
        have hae : (r.a != b) = false := by simpa using ha
        clear HV
        obtain ⟨ra, rt, rd⟩ := r
        dsimp only at ha HV2 D hae
        subst ha
        go_enter Try.func20, Try.ntmps20
        go_wp2_with fail
        generalize World.alloc w _ = w0 at HA G0 ⊢
        refine (C.out _).mono ?_
        rintro e w1 ⟨rfl, b1⟩
        go_wp2_with fail
        refine (D.out _).mono ?_
        rintro e w2 ⟨rfl, b2⟩
        have HB12 := Lib.hid (bel_trans2 b1 b2)
        have HB := Lib.hid ((HA.out.trans (HB12.out.mono HA.out.size)).alloc (by have := HA.out.size; have := HB12.out.size; omega) (.cells #[.int .i64 ra, .int .i64 rt, .string rd] 35))
        have G1 := Lib.hid (heap_old (.cells #[.int .i64 ra, .int .i64 rt, .string rd] 35) ((HB12.out.block w.heap.size (Array.getElem?_eq_some_iff.1 G0.out).1).trans G0.out))
        have hwl := (Array.getElem?_eq_some_iff.1 G1.out).1
        obtain ⟨f0, f1, f2⟩ := frozenK G1.out
        obtain ⟨z0, z1, z2⟩ := cells3 G1.out
        clear b1 b2 G0 HA
        go_wp2_with fail
        refine bodyPost_ret (v := .tuple #[.agg #[.int .i64 ra, .int .i64 rt, .string rd], .int .i64 q, .int .i64 0]) (by simp [results, Try.results20, go_sem, z0, z1, z2]) rfl ?_
        exact ⟨by rw [HV2.out], bel_st3 HB.out (Nat.le_refl _) _ _ _⟩
      · have HV2 := Lib.hid (HV.out.2 ha)
        have hae : (r.a != b) = true := by simpa using ha
        clear HV
        obtain ⟨ra, rt, rd⟩ := r
        dsimp only at ha HV2 D hae
        go_enter Try.func20, Try.ntmps20
        go_wp2_with fail
        generalize World.alloc w _ = w0 at HA G0 ⊢
        refine (C.out _).mono ?_
        rintro e w1 ⟨rfl, b1⟩
        go_wp2_with fail
        refine (D.out _).mono ?_
        rintro e w2 ⟨rfl, b2⟩
        have HB12 := Lib.hid (bel_trans2 b1 b2)
        have HB := Lib.hid ((HA.out.trans (HB12.out.mono HA.out.size)).alloc (by have := HA.out.size; have := HB12.out.size; omega) (.cells #[.int .i64 ra, .int .i64 rt, .string rd] 35))
        have G1 := Lib.hid (heap_old (.cells #[.int .i64 ra, .int .i64 rt, .string rd] 35) ((HB12.out.block w.heap.size (Array.getElem?_eq_some_iff.1 G0.out).1).trans G0.out))
        have hwl := (Array.getElem?_eq_some_iff.1 G1.out).1
        obtain ⟨f0, f1, f2⟩ := frozenK G1.out
        obtain ⟨z0, z1, z2⟩ := cells3 G1.out
        clear b1 b2 G0 HA
        go_wp2_with fail
        refine bodyPost_ret (v := .tuple #[.agg #[.int .i64 0, .int .i64 0, .string ⟨#[]⟩], .int .i64 0, .int .i64 3]) (by simp [results, Try.results20, go_sem, z0, z1, z2]) rfl ?_
        exact ⟨by rw [HV2.out], bel_st3 HB.out (Nat.le_refl _) _ _ _⟩

end Go.Proofs.Ytfodcgipdhppmaa
