/-
  What the program's next and mayBe answer (layer 9): the record that stands at a place, of an offset, and the place behind it, or why there is none.
  The program's iterator of layer 9: what it hands to a loop, one record behind the other, each with the place behind it.
-/
import Derived.Test.YtfodcgipdhppmaaSegRef
import Derived.Test.YtfodcgipdhppmaaRecGetC
import Derived.Test.YtfodcgipdhppmaaFrameNext
import Derived.RangeFuncNested
import Derived.RangeFuncBound
import Derived.RangeFuncCalls
import Derived.RangeFuncLeaves
import Derived.Shelf.Abstract
import Derived.Shelf.RegionOpen
import Derived.WalkKit
import Derived.OwnWalkIn
import Derived.TacticsInMore
import Derived.LoopNIn
import Derived.LoopIn
namespace Go.Proofs.Ytfodcgipdhppmaa
open Go.RowKit

theorem heap_old {W : World} {k : Nat} {x : Obj} (o : Obj) (h : W.heap[k]? = some x) : (W.alloc o).heap[k]? = some x := (Below.heap_alloc _ _ _ (Array.getElem?_eq_some_iff.1 h).1).trans h

namespace Gp
/-- What stands at place k, of offset b. -/
def fd (l : List UInt8) (b : Int) (k : Nat) : Rp.Rec × Nat × Int :=
  if (Rp.nxt (l.drop k)).2.2 = 0 then (if (Rp.nxt (l.drop k)).1.a = b then ((Rp.nxt (l.drop k)).1, k + (Rp.nxt (l.drop k)).2.1, 0) else (Rp.zero, 0, 3)) else (Rp.zero, 0, (Rp.nxt (l.drop k)).2.2)
theorem fd_no {l : List UInt8} {b : Int} {k : Nat} {e : Int} (h : Rp.nxt (l.drop k) = (Rp.zero, 0, e)) (he : e ≠ 0) : fd l b k = (Rp.zero, 0, e) := by unfold fd; rw [h]; dsimp only; rw [if_neg he]
theorem fd_form {l : List UInt8} {b : Int} {k j : Nat} {r : Rp.Rec} (h : Rp.nxt (l.drop k) = (r, j, 0)) (ha : r.a ≠ b) : fd l b k = (Rp.zero, 0, 3) := by unfold fd; rw [h]; dsimp only; rw [if_pos rfl, if_neg ha]
theorem fd_yes {l : List UInt8} {b : Int} {k j : Nat} {r : Rp.Rec} (h : Rp.nxt (l.drop k) = (r, j, 0)) (ha : r.a = b) : fd l b k = (r, k + j, 0) := by unfold fd; rw [h]; dsimp only; rw [if_pos rfl, if_pos ha]
end Gp
def fdVal (x : Rp.Rec × Nat × Int) : Value := .tuple #[.agg #[.int .i64 x.1.a, .int .i64 x.1.t, .string x.1.d], .int .i64 (x.2.1 : Int), .int .i64 x.2.2]
theorem fdVal_no {l : List UInt8} {b : Int} {k : Nat} {e : Int} (h : Gp.fd l b k = (Rp.zero, 0, e)) : fdVal (Gp.fd l b k) = .tuple #[.agg #[.int .i64 0, .int .i64 0, .string ⟨#[]⟩], .int .i64 0, .int .i64 e] := by rw [h]; rfl

theorem maybe9_any (b : Int) (w : World) : Calls Try.prog 18 #[.int .i64 b] w fun e w' => e = .returned (.bool (Rp.inB b)) ∧ w = w' := by
  by_cases h0 : b < 0
  · rw [Rp.inB_no (.inl h0)]
    have e1 : decide (0 ≤ b) = false := by simp; omega
    go_enter Try.func18, Try.ntmps18
    go_wp2_with fail
    go_ret
    all_goals first | exact ⟨rfl, rfl⟩ | simp_all
  · by_cases h1 : b ≤ 1099511627776
    · rw [Rp.inB_mk (by omega) h1]
      have e1 : decide (0 ≤ b) = true := by simp; omega
      have e2 : decide (b ≤ 1099511627776) = true := by simp; omega
      go_enter Try.func18, Try.ntmps18
      go_wp2_with fail
      go_ret
      all_goals first | exact ⟨rfl, rfl⟩ | simp_all
    · rw [Rp.inB_no (.inr (by omega))]
      have e1 : decide (0 ≤ b) = true := by simp; omega
      have e2 : decide (b ≤ 1099511627776) = false := by simp; omega
      go_enter Try.func18, Try.ntmps18
      go_wp2_with fail
      go_ret
      all_goals first | exact ⟨rfl, rfl⟩ | simp_all

set_option maxRecDepth 100000 in
set_option maxHeartbeats 3200000 in
theorem next9_any (s : ByteArray) (k : Nat) (b : Int) (w : World) (hs : s.size ≤ 140737488351232) :
    Calls Try.prog 20 #[.string s, .int .i64 (k : Int), .int .i64 b] w fun e w' => e = .returned (fdVal (Gp.fd s.data.toList b k)) ∧ Below w.heap.size w w' := by
  have C := fun W : World => fnext_any s (k : Int) W hs
  rw [nxAt_in] at C
  have HA := Lib.hid ((Below.refl w.heap.size w).alloc (Nat.le_refl _) (.cells #[.int .i64 0, .int .i64 0, .string ⟨#[]⟩] 35))
  have G0 := Lib.hid (heap_alloc_new w (.cells #[.int .i64 0, .int .i64 0, .string ⟨#[]⟩] 35))
  rcases Fr.nx_cases (s.data.toList.drop k) with ⟨er, he, h3⟩ | ⟨j, bd, he, h5, h6, h7, h8⟩
  · rw [nxVal_no he (by omega)] at C
    have HV := Lib.hid (fdVal_no (Gp.fd_no (b := b) (Rp.nxt_no he (by omega)) (by omega)))
    replace C := Lib.hid C
    clear he
    rcases h3 with rfl | rfl | rfl
    all_goals
      go_enter Try.func20, Try.ntmps20
      go_wp2_with fail
      generalize World.alloc w _ = w0 at HA G0 ⊢
      refine (C.out _).mono ?_
      rintro e w1 ⟨rfl, b1⟩
      have HB := Lib.hid (HA.out.trans (b1.mono HA.out.size))
      have G1 := Lib.hid ((b1.block w.heap.size (Array.getElem?_eq_some_iff.1 G0.out).1).trans G0.out)
      have hwl := (Array.getElem?_eq_some_iff.1 G1.out).1
      obtain ⟨f0, f1, f2⟩ := frozenK G1.out
      obtain ⟨z0, z1, z2⟩ := cells3 G1.out
      clear b1 G0 HA
      go_wp2_with fail
      refine bodyPost_ret (v := .tuple #[.agg #[.int .i64 0, .int .i64 0, .string ⟨#[]⟩], .int .i64 0, .int .i64 _]) (by simp [results, Try.results20, go_sem, z0, z1, z2]; rfl) rfl ?_
      exact ⟨by rw [HV.out]; rfl, bel_st3 HB.out (Nat.le_refl _) _ _ _⟩
  · rw [nxVal_yes he] at C
    obtain ⟨q, hq⟩ : ∃ q, k + j = q := ⟨_, rfl⟩
    rw [hq] at C
    replace C := Lib.hid C
    have hbl : bd.length ≤ 9223372036854775807 := by have := h7.2; omega
    have D := fun W : World => get_any ⟨bd.toArray⟩ W (by rw [size_mk_list]; exact hbl)
    rw [show (⟨bd.toArray⟩ : ByteArray).data.toList = bd from rfl] at D
    rcases Rp.get_cases bd with ⟨er, hg, h3⟩ | ⟨r, hg, hok, hbd⟩
    · rw [getVal_no hg] at D
      have HV := Lib.hid (fdVal_no (Gp.fd_no (b := b) (Rp.nxt_bad he hg (by omega)) (by omega)))
      replace D := Lib.hid D
      clear he hg h5 h6 h7 h8 hq hbl
      rcases h3 with rfl | rfl | rfl
      all_goals
        go_enter Try.func20, Try.ntmps20
        go_wp2_with fail
        generalize World.alloc w _ = w0 at HA G0 ⊢
        refine (C.out _).mono ?_
        rintro e w1 ⟨rfl, b1⟩
        go_wp2_with fail
        refine (D.out _).mono ?_
        rintro e w2 ⟨rfl, b2⟩
        have HB12 := Lib.hid (bel_trans2 b1 b2)
        have HB := Lib.hid ((HA.out.trans (HB12.out.mono HA.out.size)).alloc (by have := HA.out.size; have := HB12.out.size; omega) (.cells #[.int .i64 0, .int .i64 0, .string ⟨#[]⟩] 35))
        have G1 := Lib.hid (heap_old (.cells #[.int .i64 0, .int .i64 0, .string ⟨#[]⟩] 35) ((HB12.out.block w.heap.size (Array.getElem?_eq_some_iff.1 G0.out).1).trans G0.out))
        have hwl := (Array.getElem?_eq_some_iff.1 G1.out).1
        obtain ⟨f0, f1, f2⟩ := frozenK G1.out
        obtain ⟨z0, z1, z2⟩ := cells3 G1.out
        clear b1 b2 G0 HA
        go_wp2_with fail
        refine bodyPost_ret (v := .tuple #[.agg #[.int .i64 0, .int .i64 0, .string ⟨#[]⟩], .int .i64 0, .int .i64 _]) (by simp [results, Try.results20, go_sem, z0, z1, z2]; rfl) rfl ?_
        exact ⟨by rw [HV.out], bel_st3 HB.out (Nat.le_refl _) _ _ _⟩
    · rw [getVal_yes hg] at D
      have hnx := Rp.nxt_yes he hg
      have HV := Lib.hid (show (r.a = b → fdVal (Gp.fd s.data.toList b k) = .tuple #[.agg #[.int .i64 b, .int .i64 r.t, .string r.d], .int .i64 (q : Int), .int .i64 0]) ∧ (r.a ≠ b → fdVal (Gp.fd s.data.toList b k) = .tuple #[.agg #[.int .i64 0, .int .i64 0, .string ⟨#[]⟩], .int .i64 0, .int .i64 3]) from
        ⟨fun h => by rw [Gp.fd_yes hnx h, hq]; subst h; rfl, fun h => fdVal_no (Gp.fd_form hnx h)⟩)
      unfold recVal at D
      replace D := Lib.hid D
      clear he hg hok hnx h5 h6 h7 h8 hq hbl hbd
      generalize fdVal (Gp.fd s.data.toList b k) = V at *
      by_cases ha : r.a = b
      · have HV2 := Lib.hid (HV.out.1 ha)
        have hae : (r.a != b) = false := by simpa using ha
        clear HV
        obtain ⟨ra, rt, rd⟩ := r
        dsimp only at ha HV2 D hae
        subst ha
        go_enter Try.func20, Try.ntmps20
        go_wp2_with fail
        generalize World.alloc w _ = w0 at HA G0 ⊢
        refine (C.out _).mono ?_
        rintro e w1 ⟨rfl, b1⟩
        go_wp2_with fail
        refine (D.out _).mono ?_
        rintro e w2 ⟨rfl, b2⟩
        have HB12 := Lib.hid (bel_trans2 b1 b2)
        have HB := Lib.hid ((HA.out.trans (HB12.out.mono HA.out.size)).alloc (by have := HA.out.size; have := HB12.out.size; omega) (.cells #[.int .i64 ra, .int .i64 rt, .string rd] 35))
        have G1 := Lib.hid (heap_old (.cells #[.int .i64 ra, .int .i64 rt, .string rd] 35) ((HB12.out.block w.heap.size (Array.getElem?_eq_some_iff.1 G0.out).1).trans G0.out))
        have hwl := (Array.getElem?_eq_some_iff.1 G1.out).1
        obtain ⟨f0, f1, f2⟩ := frozenK G1.out
        obtain ⟨z0, z1, z2⟩ := cells3 G1.out
        clear b1 b2 G0 HA
        go_wp2_with fail
        refine bodyPost_ret (v := .tuple #[.agg #[.int .i64 ra, .int .i64 rt, .string rd], .int .i64 q, .int .i64 0]) (by simp [results, Try.results20, go_sem, z0, z1, z2]) rfl ?_
        exact ⟨by rw [HV2.out], bel_st3 HB.out (Nat.le_refl _) _ _ _⟩
      · have HV2 := Lib.hid (HV.out.2 ha)
        have hae : (r.a != b) = true := by simpa using ha
        clear HV
        obtain ⟨ra, rt, rd⟩ := r
        dsimp only at ha HV2 D hae
        go_enter Try.func20, Try.ntmps20
        go_wp2_with fail
        generalize World.alloc w _ = w0 at HA G0 ⊢
        refine (C.out _).mono ?_
        rintro e w1 ⟨rfl, b1⟩
        go_wp2_with fail
        refine (D.out _).mono ?_
        rintro e w2 ⟨rfl, b2⟩
        have HB12 := Lib.hid (bel_trans2 b1 b2)
        have HB := Lib.hid ((HA.out.trans (HB12.out.mono HA.out.size)).alloc (by have := HA.out.size; have := HB12.out.size; omega) (.cells #[.int .i64 ra, .int .i64 rt, .string rd] 35))
        have G1 := Lib.hid (heap_old (.cells #[.int .i64 ra, .int .i64 rt, .string rd] 35) ((HB12.out.block w.heap.size (Array.getElem?_eq_some_iff.1 G0.out).1).trans G0.out))
        have hwl := (Array.getElem?_eq_some_iff.1 G1.out).1
        obtain ⟨f0, f1, f2⟩ := frozenK G1.out
        obtain ⟨z0, z1, z2⟩ := cells3 G1.out
        clear b1 b2 G0 HA
        go_wp2_with fail
        refine bodyPost_ret (v := .tuple #[.agg #[.int .i64 0, .int .i64 0, .string ⟨#[]⟩], .int .i64 0, .int .i64 3]) (by simp [results, Try.results20, go_sem, z0, z1, z2]) rfl ?_
        exact ⟨by rw [HV2.out], bel_st3 HB.out (Nat.le_refl _) _ _ _⟩

end Go.Proofs.Ytfodcgipdhppmaa

namespace Go.Proofs.Ytfodcgipdhppmaa
open Go.RowKit Go.Shelf Go.Proofs.Ytfodcgipdhppmaa.Mks

attribute [local go_sem] Oper.semAt_some

namespace Gp
/-- What may be handed to a loop: a record of an offset from b on, and a place. -/
def ItOk (b : Int) (x : Rp.Rec × Nat) : Prop := Rp.Ok x.1 ∧ x.2 ≤ 140737488351232 ∧ b ≤ x.1.a
abbrev It (b : Int) := { x : Rp.Rec × Nat // ItOk b x }
/-- The places behind, of records with their places. -/
inductive Zp (b : Int) (k0 : Nat) : List (It b) → List (Rp.Rec × Nat) → Nat → Prop
  | nil : Zp b k0 [] [] k0
  | snoc {xs : List (It b)} {ps : List (Rp.Rec × Nat)} {k : Nat} (x : It b) : Zp b k0 xs ps k → x.1.1.a = b + ps.length → Zp b k0 (xs ++ [x]) (ps ++ [(x.1.1, k)]) x.1.2
theorem Zp.len {b : Int} {k0 k : Nat} {xs : List (It b)} {ps : List (Rp.Rec × Nat)} (h : Zp b k0 xs ps k) : xs.length = ps.length := by
  induction h with
  | nil => rfl
  | snoc x h _ ih => simp [ih]
theorem Zp.recs {b : Int} {k0 k : Nat} {xs : List (It b)} {ps : List (Rp.Rec × Nat)} (h : Zp b k0 xs ps k) : xs.map (fun x => x.1.1) = ps.map Prod.fst := by
  induction h with
  | nil => rfl
  | snoc x h _ ih => simp [ih]
/-- The place behind the last one. -/
def lastAt {b : Int} (k0 : Nat) (xs : List (It b)) : Nat := xs.foldl (fun _ x => x.1.2) k0
theorem Zp.last {b : Int} {k0 k : Nat} {xs : List (It b)} {ps : List (Rp.Rec × Nat)} (h : Zp b k0 xs ps k) : lastAt k0 xs = k := by
  cases h with
  | nil => rfl
  | snoc x h _ => simp [lastAt]
theorem lastAt_snoc {b : Int} (k0 : Nat) (xs : List (It b)) (x : It b) : lastAt k0 (xs ++ [x]) = x.1.2 := by simp [lastAt]
/-- All have come. -/
def AllCame (l : List UInt8) (b : Int) (k0 : Nat) (xs : List (It b)) : Prop := ∃ ps k e, pls (l.drop k0) b k0 = (ps, k, e) ∧ Good l b k0 ps k ∧ Zp b k0 xs ps k ∧ (fd l (b + ps.length) k).2.2 ≠ 0 ∧ (k < l.length → e = (fd l (b + ps.length) k).2.2) ∧ (l.length ≤ k → e = 0)
/-- The first ones have come. -/
def SomeCame (l : List UInt8) (b : Int) (k0 : Nat) (xs : List (It b)) : Prop := ∃ ps k, PRel l b k0 ps k ∧ Good l b k0 ps k ∧ Zp b k0 xs ps k
theorem fd_cases (l : List UInt8) (b : Int) (k : Nat) : (∃ e, fd l b k = (Rp.zero, 0, e) ∧ e ≠ 0 ∧ 0 ≤ e ∧ e ≤ 6 ∧ (k < l.length → (Rp.nxt (l.drop k) = (Rp.zero, 0, e) ∨ ∃ r j, Rp.nxt (l.drop k) = (r, j, 0) ∧ r.a ≠ b ∧ e = 3))) ∨
    ∃ r j, fd l b k = (r, k + j, 0) ∧ Rp.nxt (l.drop k) = (r, j, 0) ∧ r.a = b ∧ Rp.Ok r ∧ 7 ≤ j ∧ j ≤ (l.drop k).length := by
  rcases Rp.nxt_cases (l.drop k) with ⟨e, he, h3⟩ | ⟨r, j, he, hok, h5, h6, _⟩
  · exact .inl ⟨e, fd_no he (by omega), by omega, by omega, by omega, fun _ => .inl he⟩
  · by_cases ha : r.a = b
    · exact .inr ⟨r, j, fd_yes he ha, he, ha, hok, h5, h6⟩
    · exact .inl ⟨3, fd_form he ha, by decide, by decide, by decide, fun _ => .inr ⟨r, j, he, ha, rfl⟩⟩
theorem all_came {l : List UInt8} {b : Int} {k0 k : Nat} {xs : List (It b)} {ps : List (Rp.Rec × Nat)} {e : Int} (hr : PRel l b k0 ps k) (hg : Good l b k0 ps k) (hz : Zp b k0 xs ps k)
    (he : fd l (b + ps.length) k = (Rp.zero, 0, e)) (h0 : e ≠ 0) (h : k < l.length → (Rp.nxt (l.drop k) = (Rp.zero, 0, e) ∨ ∃ r j, Rp.nxt (l.drop k) = (r, j, 0) ∧ r.a ≠ b + ps.length ∧ e = 3)) : AllCame l b k0 xs := by
  by_cases hk : k < l.length
  · rcases h hk with h1 | ⟨r, j, h1, h2, rfl⟩
    · exact ⟨ps, k, e, hr.stop hk h1 h0, hg, hz, by rw [he]; exact h0, fun _ => by rw [he], fun h => absurd hk (by omega)⟩
    · exact ⟨ps, k, 3, hr.form hk h1 h2, hg, hz, by rw [he]; exact h0, fun _ => by rw [he], fun h => absurd hk (by omega)⟩
  · exact ⟨ps, k, 0, hr.done (by omega), hg, hz, by rw [he]; exact h0, fun h => absurd h hk, fun _ => rfl⟩
end Gp
open Gp

/-- How an item is handed over. -/
def itVals {b : Int} (x : It b) : Array Value := #[.agg #[.int .i64 x.1.1.a, .int .i64 x.1.1.t, .string x.1.1.d], .int .i64 (x.1.2 : Int)]

theorem grown_of_below {w w' : World} (h : Below w.heap.size w w') : w.grownBy w' none := ⟨h.os, h.tape, h.output, h.size, fun k hk _ => h.block k hk⟩

/-- What a round keeps: block C. -/
def KpC (C : Nat) (A B : World) : Prop := ∀ o : Obj, A.heap[C]? = some o → B.heap[C]? = some o
theorem kpC_t {C : Nat} {X Y Z : World} (h : KpC C X Y) (k : KpC C Y Z) : KpC C X Z := fun o ho => k o (h o ho)
theorem kpC_b {C n : Nat} (hC : C < n) (W : World) (l : Nat) (o o' : Obj) (hl : n ≤ l) (_ : W.heap[l]? = some o) (_ : o.isCells = false) (_ : o.isWalk = false) : KpC C W (W.putObj l o') :=
  fun x hx => (World.putObj_heap_other (by omega)).trans hx
theorem kpC_below {C : Nat} {A B : World} (h : Below A.heap.size A B) : KpC C A B := fun _ ho => (h.block C (Array.getElem?_eq_some_iff.1 ho).1).trans ho
theorem cell_row1 {W : World} {k : Nat} {v : Value} {T : TypeId} (h : W.heap[k]? = some (.cells #[v] T (0, 0))) : W.cell? ⟨k, 0, none⟩ = some v := by rw [cell_of_row _ _ 0 _ _ _ h]; rfl

set_option maxRecDepth 100000 in
set_option maxHeartbeats 1600000 in
theorem iter9_in (s : ByteArray) (b : Int) (k0 A O C l : Nat) (n : Nat) (TC : TypeId) (hn : 1 ≤ n) (hs : s.size ≤ 4398046511104) (hb0 : 0 ≤ b) (hb1 : b ≤ 1099511627776) (hk0 : k0 ≤ s.size)
    (J Jx : List (It b) → World → Prop) (W : World) (hJ : AbidesFrom W.heap.size J)
    (hY : ∀ pre x W1, J pre W1 → pre.length < s.size + 1 → YieldAt Fence.wide (n - 1) Try.prog l (itVals x) W1 fun e W' =>
      (e = .returned (.bool true) ∧ J (pre ++ [x]) W' ∧ KpC C W1 W') ∨ (e = .returned (.bool false) ∧ Jx (pre ++ [x]) W'))
    (cA : W.cell? ⟨A, 0, none⟩ = some (.int .i64 (k0 : Int))) (cO : W.cell? ⟨O, 0, none⟩ = some (.int .i64 b)) (gC : W.heap[C]? = some (.cells #[.string s] TC (0, 0))) (h0 : J [] W) :
    CallsIn Fence.wide n Try.prog 26 #[.func (.yield l) #[] #[], .pointer (some ⟨A, 0, none⟩), .pointer (some ⟨O, 0, none⟩), .pointer (some ⟨C, 0, none⟩)] W fun e W' => (∃ v, e = .returned v) ∧
      ((∃ ys, AllCame s.data.toList b k0 ys ∧ J ys W') ∨ (∃ pre, SomeCame s.data.toList b k0 pre ∧ Jx pre W')) := by
  have HJ := Lib.hid hJ
  have HY := Lib.hid hY
  have HL := Lib.hid (show s.data.toList.length = s.size from rfl)
  clear hJ hY
  refine callsIn_of_wp Try.func26 rfl trivial ?_ rfl
  simp only [Try.ntmps26, List.size_toArray, List.length_cons, List.length_nil, Nat.reduceAdd, Nat.reduceSub, Array.replicate_succ, Array.replicate_zero, List.push_toArray, List.append_toArray, List.nil_append, List.cons_append]
  gi_wp2
  gi_region
  all_goals gi_wp2
  gi_loopw [5, 6] (fun p q wr => ∃ (pre : List (It b)) (ps : List (Rp.Rec × Nat)) (k : Nat), p = .int .i64 (k : Int) ∧ q = .int .i64 (b + (ps.length : Int)) ∧ J pre wr ∧ wr.heap[C]? = some (.cells #[.string s] TC (0, 0)) ∧ Gp.PRel s.data.toList b k0 ps k ∧ Gp.Good s.data.toList b k0 ps k ∧ Zp b k0 pre ps k)
    (fun p _ _ => s.size - (intOf p).toNat)
  case atStart =>
    refine ⟨[], [], k0, rfl, by simp, ?_, gC, Gp.PRel.start _ _ _, Gp.Good.start _ _ _, Zp.nil⟩
    exact HJ.out _ _ _ none h0 (grown_of_below ((Below.refl _ W).drew)) (fun r e => by cases e)
  case round =>
    obtain ⟨pre, ps, k, rfl, rfl, hJs, hB, hPR, hG, hZ⟩ := hrel
    have HPR := Lib.hid hPR
    have HG := Lib.hid hG
    have HZ := Lib.hid hZ
    have HB := Lib.hid hB
    have cC1 := cell_row1 hB
    have hln := hZ.len
    have hfew := hG.few
    have hks : k ≤ s.size := by
      rcases hG.le with h | h
      · rw [HL.out] at h; exact h
      · omega
    have HJS := Lib.hid hJs
    obtain ⟨m, hm⟩ : ∃ m, ps.length = m := ⟨_, rfl⟩
    have NX := fun W1 : World => next9_any s k (b + (m : Int)) W1 (by omega)
    have hlt : pre.length < s.size + 1 := by omega
    clear hPR hG hZ hJs hB
    rcases fd_cases s.data.toList (b + (m : Int)) k with ⟨e, he, hne, he0, he6, hwhy⟩ | ⟨r, j, he, hnx, ha, hok, h7, h8⟩
    · rw [he] at NX
      have HD := Lib.hid (all_came HPR.out HG.out HZ.out (by rw [hm]; exact he) hne (by rw [hm]; exact hwhy))
      have hnb : (e != 0) = true := by simpa using hne
      unfold fdVal Rp.zero at NX
      dsimp only at NX
      replace NX := Lib.hid NX
      clear he hwhy
      rw [hm]
      gi_wp2_with (refine ⟨trivial, ?_⟩; gi_at_call 20; refine (callsIn_wide.2 (NX.out _)).mono ?_; rintro e1 w1 ⟨rfl, b1⟩; have B2 := Lib.hid (b1.alloc (Below.size b1) (Obj.cells #[.int .i64 0, .int .i64 0, .string ByteArray.empty] 35)); have J2 := Lib.hid (HJ.out _ _ _ none HJS.out (grown_of_below B2.out) (fun r e => by cases e)); clear b1)
      refine ⟨fun _ h => (by cases h), ?_⟩
      gi_wp2
      refine bodyPost_ret (results_none rfl _ _ _) rfl ?_
      exact ⟨⟨_, rfl⟩, .inl ⟨_, HD.out, J2.out⟩⟩
    · obtain ⟨q, hq⟩ : ∃ q, k + j = q := ⟨_, rfl⟩
      rw [List.length_drop, HL.out] at h8
      have hq1 : k + 7 ≤ q := by omega
      have hq2 : q ≤ s.size := by omega
      rw [he, hq] at NX
      obtain ⟨x, hx⟩ : ∃ x : It b, x = ⟨(r, q), hok, by show q ≤ _; omega, by show b ≤ r.a; omega⟩ := ⟨_, rfl⟩
      have HX := Lib.hid (show itVals x = #[.agg #[.int .i64 r.a, .int .i64 r.t, .string r.d], .int .i64 (q : Int)] by rw [hx]; rfl)
      have HST := Lib.hid (show Gp.PRel s.data.toList b k0 (ps ++ [(r, k)]) q ∧ Gp.Good s.data.toList b k0 (ps ++ [(r, k)]) q ∧ Zp b k0 (pre ++ [x]) (ps ++ [(r, k)]) q from by
        rw [← hm] at ha
        have hj : j ≤ (s.data.toList.drop k).length := by rw [List.length_drop, HL.out]; exact h8
        refine ⟨?_, ?_, ?_⟩
        · rw [← hq]; exact HPR.out.step hnx (by omega) hj ha
        · rw [← hq]; exact HG.out.step hok ha h7 hj
        · subst hx; exact Zp.snoc _ HZ.out ha)
      have HPL := Lib.hid (show (ps ++ [(r, k)]).length = m + 1 by simp [hm])
      unfold fdVal at NX
      dsimp only at NX
      replace NX := Lib.hid NX
      clear he hnx hok ha hx
      rw [hm]
      gi_wp2_with (refine ⟨trivial, ?_⟩; gi_at_call 20; refine (callsIn_wide.2 (NX.out _)).mono ?_; rintro e1 w1 ⟨rfl, b1⟩; have B2 := Lib.hid (b1.alloc (Below.size b1) (Obj.cells #[.int .i64 r.a, .int .i64 r.t, .string r.d] 35)); obtain ⟨fn, tmps, assign, body, hy, hR⟩ := HY.out pre x _ (HJ.out _ _ _ none HJS.out (grown_of_below B2.out) (fun r e => by cases e)) hlt; rw [HX.out] at hy; have HR := Lib.hid hR; clear hR b1)
      refine HR.out.mono ?_
      rintro e W3 (⟨rfl, hJ3, hk3⟩ | ⟨rfl, hJx3⟩)
      · have HJ3 := Lib.hid hJ3
        have B3 := Lib.hid (hk3 _ ((B2.out.block C (Array.getElem?_eq_some_iff.1 HB.out).1).trans HB.out))
        clear hJ3 hk3
        gi_wp2
        go_roundw
        case rel => exact ⟨pre ++ [x], ps ++ [(r, k)], q, rfl, by rw [HPL.out]; exact congrArg (Value.int .i64) (by omega), HJ3.out, B3.out, HST.out.1, HST.out.2.1, HST.out.2.2⟩
        case measure => simp [intOf]; omega
      · have HJX := Lib.hid hJx3
        clear hJx3
        gi_wp2
        refine bodyPost_ret (results_none rfl _ _ _) rfl ?_
        exact ⟨⟨_, rfl⟩, .inr ⟨_, ⟨_, _, HST.out.1, HST.out.2.1, HST.out.2.2⟩, HJX.out⟩⟩

/-- The iterator's contract, for the law on such loops. -/
theorem iter9_stops (s : ByteArray) (b : Int) (k0 A O C : Nat) (n : Nat) (TC : TypeId) (hn : 1 ≤ n) (hs : s.size ≤ 4398046511104) (hb0 : 0 ≤ b) (hb1 : b ≤ 1099511627776) (hk0 : k0 ≤ s.size) (w : World)
    (hA : A < w.heap.size) (hO : O < w.heap.size) (hC : C < w.heap.size)
    (cA : w.cell? ⟨A, 0, none⟩ = some (.int .i64 (k0 : Int))) (cO : w.cell? ⟨O, 0, none⟩ = some (.int .i64 b)) (gC : w.heap[C]? = some (.cells #[.string s] TC (0, 0))) :
    SeqStopsK Fence.wide n Try.prog 26 #[.pointer (some ⟨A, 0, none⟩), .pointer (some ⟨O, 0, none⟩), .pointer (some ⟨C, 0, none⟩)] (itVals (b := b)) (KpC C)
      (AllCame s.data.toList b k0) (SomeCame s.data.toList b k0) (s.size + 1) w := fun l J Jx W hW hJ _ hY h0 =>
  iter9_in s b k0 A O C l n TC hn hs hb0 hb1 hk0 J Jx W hJ hY ((hW.cell (p := ⟨A, 0, none⟩) hA).trans cA) ((hW.cell (p := ⟨O, 0, none⟩) hO).trans cO) ((hW.block C hC).trans gC) h0

set_option maxRecDepth 100000 in
/-- What makes the iterator. -/
theorem records9_any (s : ByteArray) (k0 : Nat) (b : Int) (w : World) :
    Calls Try.prog 19 #[.string s, .int .i64 (k0 : Int), .int .i64 b] w fun e w' =>
      e = .returned (.func (.func 26) #[] #[.pointer (some ⟨w.heap.size + 1, 0, none⟩), .pointer (some ⟨w.heap.size + 2, 0, none⟩), .pointer (some ⟨w.heap.size, 0, none⟩)]) ∧
      w' = ((w.alloc (.cells #[.string s] 9)).alloc (.cells #[.int .i64 (k0 : Int)] 3)).alloc (.cells #[.int .i64 b] 3) := by
  go_enter Try.func19, Try.ntmps19
  go_wp2_with fail
  go_ret
  exact ⟨rfl, rfl⟩

end Go.Proofs.Ytfodcgipdhppmaa
