/-
  Parts of what the laws of this seat stand on: SegIter, SegProg.
-/
import Derived.Test.YtooipogbmfkeeaaGreatQt1
import Derived.Deep.RegionHeld
import Derived.LoopIn
import Derived.LoopNIn
import Derived.Maps.AppendAt
import Derived.OrdersIn
import Derived.OwnWalkIn
import Derived.RangeFuncBound
import Derived.RangeFuncBox
import Derived.RangeFuncCalls
import Derived.RangeFuncLeaves
import Derived.RangeFuncNested
import Derived.Shelf.Abstract
import Derived.Shelf.RegionOpen
import Derived.TacticsInMore
import Derived.Test.YtooipogbmfkeeaaGreatQt16
import Derived.Test.YtooipogbmfkeeaaGreatQt23
import Derived.Test.YtooipogbmfkeeaaGreatQt24
import Derived.WalkKit
set_option maxRecDepth 100000
set_option maxHeartbeats 6400000
namespace Go.Proofs.YtooipogbmfkeeaaGreat
section
open Go.RowKit
theorem heap_old {W : World} {k : Nat} {x : Obj} (o : Obj) (h : W.heap[k]? = some x) : (W.alloc o).heap[k]? = some x := (Below.heap_alloc _ _ _ (Array.getElem?_eq_some_iff.1 h).1).trans h
namespace Gp
def fd (l : List UInt8) (b : Int) (k : Nat) : Rp.Rec × Nat × Int :=
 if (Rp.nxt (l.drop k)).2.2 = 0 then (if (Rp.nxt (l.drop k)).1.a = b then ((Rp.nxt (l.drop k)).1, k + (Rp.nxt (l.drop k)).2.1, 0) else (Rp.zero, 0, 3)) else (Rp.zero, 0, (Rp.nxt (l.drop k)).2.2)
theorem fd_no {l : List UInt8} {b : Int} {k : Nat} {e : Int} (h : Rp.nxt (l.drop k) = (Rp.zero, 0, e)) (he : e ≠ 0) : fd l b k = (Rp.zero, 0, e) := by unfold fd; rw [h]; dsimp only; rw [if_neg he]
theorem fd_form {l : List UInt8} {b : Int} {k j : Nat} {r : Rp.Rec} (h : Rp.nxt (l.drop k) = (r, j, 0)) (ha : r.a ≠ b) : fd l b k = (Rp.zero, 0, 3) := by unfold fd; rw [h]; dsimp only; rw [if_pos rfl, if_neg ha]
theorem fd_yes {l : List UInt8} {b : Int} {k j : Nat} {r : Rp.Rec} (h : Rp.nxt (l.drop k) = (r, j, 0)) (ha : r.a = b) : fd l b k = (r, k + j, 0) := by unfold fd; rw [h]; dsimp only; rw [if_pos rfl, if_pos ha]
end Gp
def fdVal (x : Rp.Rec × Nat × Int) : Value := .tuple #[.agg #[.int .i64 x.1.a, .int .i64 x.1.t, .string x.1.d], .int .i64 (x.2.1 : Int), .int .i64 x.2.2]
theorem fdVal_no {l : List UInt8} {b : Int} {k : Nat} {e : Int} (h : Gp.fd l b k = (Rp.zero, 0, e)) : fdVal (Gp.fd l b k) = .tuple #[.agg #[.int .i64 0, .int .i64 0, .string ⟨#[]⟩], .int .i64 0, .int .i64 e] := by rw [h]; rfl
theorem maybe9_any (b : Int) (w : World) : Calls Tryz.prog 129 #[.int .i64 b] w fun e w' => e = .returned (.bool (Rp.inB b)) ∧ w = w' := by
 by_cases h0 : b < 0
 · rw [Rp.inB_no (.inl h0)]
   have e1 : decide (0 ≤ b) = false := by simp; omega
   go_enter Tryz.func129, Tryz.ntmps129
   go_wp2_with fail
   go_ret
   all_goals first | exact ⟨rfl, rfl⟩ | simp_all
 · by_cases h1 : b ≤ 1099511627776
   · rw [Rp.inB_mk (by omega) h1]
     have e1 : decide (0 ≤ b) = true := by simp; omega
     have e2 : decide (b ≤ 1099511627776) = true := by simp; omega
     go_enter Tryz.func129, Tryz.ntmps129
     go_wp2_with fail
     go_ret
     all_goals first | exact ⟨rfl, rfl⟩ | simp_all
   · rw [Rp.inB_no (.inr (by omega))]
     have e1 : decide (0 ≤ b) = true := by simp; omega
     have e2 : decide (b ≤ 1099511627776) = false := by simp; omega
     go_enter Tryz.func129, Tryz.ntmps129
     go_wp2_with fail
     go_ret
     all_goals first | exact ⟨rfl, rfl⟩ | simp_all
theorem next9_any (s : ByteArray) (k : Nat) (b : Int) (w : World) (hs : s.size ≤ 140737488351232) :
 Calls Tryz.prog 131 #[.string s, .int .i64 (k : Int), .int .i64 b] w fun e w' => e = .returned (fdVal (Gp.fd s.data.toList b k)) ∧ Below w.heap.size w w' := by
 have C := fun W : World => fnext_any s (k : Int) W hs
 rw [nxAt_in] at C
 have HA := zid ((Below.refl w.heap.size w).alloc (Nat.le_refl _) (.cells #[.int .i64 0, .int .i64 0, .string ⟨#[]⟩] 49))
 have G0 := zid (heap_alloc_new w (.cells #[.int .i64 0, .int .i64 0, .string ⟨#[]⟩] 49))
 rcases Fr.nx_cases (s.data.toList.drop k) with ⟨er, he, h3⟩ | ⟨j, bd, he, h5, h6, h7, h8⟩
 · rw [nxVal_no he (by omega)] at C
   have HV := zid (fdVal_no (Gp.fd_no (b := b) (Rp.nxt_no he (by omega)) (by omega)))
   replace C := zid C
   clear he
   rcases h3 with rfl | rfl | rfl
   all_goals
    go_enter Tryz.func131, Tryz.ntmps131
    go_wp2_with fail
    generalize World.alloc w _ = w0 at HA G0 ⊢
    refine (C.out _).mono ?_
    rintro e w1 ⟨rfl, b1⟩
    have HB := zid (HA.out.trans (b1.mono HA.out.size))
    have G1 := zid ((b1.block w.heap.size (Array.getElem?_eq_some_iff.1 G0.out).1).trans G0.out)
    have hwl := (Array.getElem?_eq_some_iff.1 G1.out).1
    obtain ⟨f0, f1, f2⟩ := frozenK G1.out
    obtain ⟨z0, z1, z2⟩ := cells3 G1.out
    clear b1 G0 HA
    go_wp2_with fail
    refine bodyPost_ret (v := .tuple #[.agg #[.int .i64 0, .int .i64 0, .string ⟨#[]⟩], .int .i64 0, .int .i64 _]) (by simp [results, Tryz.results131, go_sem, z0, z1, z2]; rfl) rfl ?_
    exact ⟨by rw [HV.out]; rfl, bel_st3 HB.out (Nat.le_refl _) _ _ _⟩
 · rw [nxVal_yes he] at C
   obtain ⟨q, hq⟩ : ∃ q, k + j = q := ⟨_, rfl⟩
   rw [hq] at C
   replace C := zid C
   have hbl : bd.length ≤ 9223372036854775807 := by have := h7.2; omega
   have D := fun W : World => get_any ⟨bd.toArray⟩ W (by rw [size_mk_list]; exact hbl)
   rw [show (⟨bd.toArray⟩ : ByteArray).data.toList = bd from rfl] at D
   rcases Rp.get_cases bd with ⟨er, hg, h3⟩ | ⟨r, hg, hok, hbd⟩
   · rw [getVal_no hg] at D
     have HV := zid (fdVal_no (Gp.fd_no (b := b) (Rp.nxt_bad he hg (by omega)) (by omega)))
     replace D := zid D
     clear he hg h5 h6 h7 h8 hq hbl
     rcases h3 with rfl | rfl | rfl
     all_goals
      go_enter Tryz.func131, Tryz.ntmps131
      go_wp2_with fail
      generalize World.alloc w _ = w0 at HA G0 ⊢
      refine (C.out _).mono ?_
      rintro e w1 ⟨rfl, b1⟩
      go_wp2_with fail
      refine (D.out _).mono ?_
      rintro e w2 ⟨rfl, b2⟩
      have HB12 := zid (bel_trans2 b1 b2)
      have HB := zid ((HA.out.trans (HB12.out.mono HA.out.size)).alloc (by have := HA.out.size; have := HB12.out.size; omega) (.cells #[.int .i64 0, .int .i64 0, .string ⟨#[]⟩] 49))
      have G1 := zid (heap_old (.cells #[.int .i64 0, .int .i64 0, .string ⟨#[]⟩] 49) ((HB12.out.block w.heap.size (Array.getElem?_eq_some_iff.1 G0.out).1).trans G0.out))
      have hwl := (Array.getElem?_eq_some_iff.1 G1.out).1
      obtain ⟨f0, f1, f2⟩ := frozenK G1.out
      obtain ⟨z0, z1, z2⟩ := cells3 G1.out
      clear b1 b2 G0 HA
      go_wp2_with fail
      refine bodyPost_ret (v := .tuple #[.agg #[.int .i64 0, .int .i64 0, .string ⟨#[]⟩], .int .i64 0, .int .i64 _]) (by simp [results, Tryz.results131, go_sem, z0, z1, z2]; rfl) rfl ?_
      exact ⟨by rw [HV.out], bel_st3 HB.out (Nat.le_refl _) _ _ _⟩
   · rw [getVal_yes hg] at D
     have hnx := Rp.nxt_yes he hg
     have HV := zid (show (r.a = b → fdVal (Gp.fd s.data.toList b k) = .tuple #[.agg #[.int .i64 b, .int .i64 r.t, .string r.d], .int .i64 (q : Int), .int .i64 0]) ∧ (r.a ≠ b → fdVal (Gp.fd s.data.toList b k) = .tuple #[.agg #[.int .i64 0, .int .i64 0, .string ⟨#[]⟩], .int .i64 0, .int .i64 3]) from
      ⟨fun h => by rw [Gp.fd_yes hnx h, hq]; subst h; rfl, fun h => fdVal_no (Gp.fd_form hnx h)⟩)
     unfold recVal at D
     replace D := zid D
     clear he hg hok hnx h5 h6 h7 h8 hq hbl hbd
     generalize fdVal (Gp.fd s.data.toList b k) = V at *
     by_cases ha : r.a = b
     · have HV2 := zid (HV.out.1 ha)
       have hae : (r.a != b) = false := by simpa using ha
       clear HV
       obtain ⟨ra, rt, rd⟩ := r
       dsimp only at ha HV2 D hae
       subst ha
       go_enter Tryz.func131, Tryz.ntmps131
       go_wp2_with fail
       generalize World.alloc w _ = w0 at HA G0 ⊢
       refine (C.out _).mono ?_
       rintro e w1 ⟨rfl, b1⟩
       go_wp2_with fail
       refine (D.out _).mono ?_
       rintro e w2 ⟨rfl, b2⟩
       have HB12 := zid (bel_trans2 b1 b2)
       have HB := zid ((HA.out.trans (HB12.out.mono HA.out.size)).alloc (by have := HA.out.size; have := HB12.out.size; omega) (.cells #[.int .i64 ra, .int .i64 rt, .string rd] 49))
       have G1 := zid (heap_old (.cells #[.int .i64 ra, .int .i64 rt, .string rd] 49) ((HB12.out.block w.heap.size (Array.getElem?_eq_some_iff.1 G0.out).1).trans G0.out))
       have hwl := (Array.getElem?_eq_some_iff.1 G1.out).1
       obtain ⟨f0, f1, f2⟩ := frozenK G1.out
       obtain ⟨z0, z1, z2⟩ := cells3 G1.out
       clear b1 b2 G0 HA
       go_wp2_with fail
       refine bodyPost_ret (v := .tuple #[.agg #[.int .i64 ra, .int .i64 rt, .string rd], .int .i64 q, .int .i64 0]) (by simp [results, Tryz.results131, go_sem, z0, z1, z2]) rfl ?_
       exact ⟨by rw [HV2.out], bel_st3 HB.out (Nat.le_refl _) _ _ _⟩
     · have HV2 := zid (HV.out.2 ha)
       have hae : (r.a != b) = true := by simpa using ha
       clear HV
       obtain ⟨ra, rt, rd⟩ := r
       dsimp only at ha HV2 D hae
       go_enter Tryz.func131, Tryz.ntmps131
       go_wp2_with fail
       generalize World.alloc w _ = w0 at HA G0 ⊢
       refine (C.out _).mono ?_
       rintro e w1 ⟨rfl, b1⟩
       go_wp2_with fail
       refine (D.out _).mono ?_
       rintro e w2 ⟨rfl, b2⟩
       have HB12 := zid (bel_trans2 b1 b2)
       have HB := zid ((HA.out.trans (HB12.out.mono HA.out.size)).alloc (by have := HA.out.size; have := HB12.out.size; omega) (.cells #[.int .i64 ra, .int .i64 rt, .string rd] 49))
       have G1 := zid (heap_old (.cells #[.int .i64 ra, .int .i64 rt, .string rd] 49) ((HB12.out.block w.heap.size (Array.getElem?_eq_some_iff.1 G0.out).1).trans G0.out))
       have hwl := (Array.getElem?_eq_some_iff.1 G1.out).1
       obtain ⟨f0, f1, f2⟩ := frozenK G1.out
       obtain ⟨z0, z1, z2⟩ := cells3 G1.out
       clear b1 b2 G0 HA
       go_wp2_with fail
       refine bodyPost_ret (v := .tuple #[.agg #[.int .i64 0, .int .i64 0, .string ⟨#[]⟩], .int .i64 0, .int .i64 3]) (by simp [results, Tryz.results131, go_sem, z0, z1, z2]) rfl ?_
       exact ⟨by rw [HV2.out], bel_st3 HB.out (Nat.le_refl _) _ _ _⟩
end
section
open Go.RowKit Go.Shelf
attribute [local go_sem] Oper.semAt_some
namespace Gp
def ItOk (b : Int) (x : Rp.Rec × Nat) : Prop := Rp.Ok x.1 ∧ x.2 ≤ 140737488351232 ∧ b ≤ x.1.a
abbrev It (b : Int) := { x : Rp.Rec × Nat // ItOk b x }
inductive Zp (b : Int) (k0 : Nat) : List (It b) → List (Rp.Rec × Nat) → Nat → Prop
 | nil : Zp b k0 [] [] k0
 | snoc {xs : List (It b)} {ps : List (Rp.Rec × Nat)} {k : Nat} (x : It b) : Zp b k0 xs ps k → x.1.1.a = b + ps.length → Zp b k0 (xs ++ [x]) (ps ++ [(x.1.1, k)]) x.1.2
theorem Zp.len {b : Int} {k0 k : Nat} {xs : List (It b)} {ps : List (Rp.Rec × Nat)} (h : Zp b k0 xs ps k) : xs.length = ps.length := by
 induction h with
 | nil => rfl
 | snoc x h _ ih => simp [ih]
theorem Zp.recs {b : Int} {k0 k : Nat} {xs : List (It b)} {ps : List (Rp.Rec × Nat)} (h : Zp b k0 xs ps k) : xs.map (fun x => x.1.1) = ps.map Prod.fst := by
 induction h with
 | nil => rfl
 | snoc x h _ ih => simp [ih]
def lastAt {b : Int} (k0 : Nat) (xs : List (It b)) : Nat := xs.foldl (fun _ x => x.1.2) k0
theorem Zp.last {b : Int} {k0 k : Nat} {xs : List (It b)} {ps : List (Rp.Rec × Nat)} (h : Zp b k0 xs ps k) : lastAt k0 xs = k := by
 cases h with
 | nil => rfl
 | snoc x h _ => simp [lastAt]
theorem lastAt_snoc {b : Int} (k0 : Nat) (xs : List (It b)) (x : It b) : lastAt k0 (xs ++ [x]) = x.1.2 := by simp [lastAt]
def AllCame (l : List UInt8) (b : Int) (k0 : Nat) (xs : List (It b)) : Prop := ∃ ps k e, pls (l.drop k0) b k0 = (ps, k, e) ∧ Good l b k0 ps k ∧ Zp b k0 xs ps k ∧ (fd l (b + ps.length) k).2.2 ≠ 0 ∧ (k < l.length → e = (fd l (b + ps.length) k).2.2) ∧ (l.length ≤ k → e = 0)
def SomeCame (l : List UInt8) (b : Int) (k0 : Nat) (xs : List (It b)) : Prop := ∃ ps k, PRel l b k0 ps k ∧ Good l b k0 ps k ∧ Zp b k0 xs ps k
theorem fd_cases (l : List UInt8) (b : Int) (k : Nat) : (∃ e, fd l b k = (Rp.zero, 0, e) ∧ e ≠ 0 ∧ 0 ≤ e ∧ e ≤ 6 ∧ (k < l.length → (Rp.nxt (l.drop k) = (Rp.zero, 0, e) ∨ ∃ r j, Rp.nxt (l.drop k) = (r, j, 0) ∧ r.a ≠ b ∧ e = 3))) ∨
 ∃ r j, fd l b k = (r, k + j, 0) ∧ Rp.nxt (l.drop k) = (r, j, 0) ∧ r.a = b ∧ Rp.Ok r ∧ 7 ≤ j ∧ j ≤ (l.drop k).length := by
 rcases Rp.nxt_cases (l.drop k) with ⟨e, he, h3⟩ | ⟨r, j, he, hok, h5, h6, _⟩
 · exact .inl ⟨e, fd_no he (by omega), by omega, by omega, by omega, fun _ => .inl he⟩
 · by_cases ha : r.a = b
   · exact .inr ⟨r, j, fd_yes he ha, he, ha, hok, h5, h6⟩
   · exact .inl ⟨3, fd_form he ha, by decide, by decide, by decide, fun _ => .inr ⟨r, j, he, ha, rfl⟩⟩
theorem all_came {l : List UInt8} {b : Int} {k0 k : Nat} {xs : List (It b)} {ps : List (Rp.Rec × Nat)} {e : Int} (hr : PRel l b k0 ps k) (hg : Good l b k0 ps k) (hz : Zp b k0 xs ps k)
 (he : fd l (b + ps.length) k = (Rp.zero, 0, e)) (h0 : e ≠ 0) (h : k < l.length → (Rp.nxt (l.drop k) = (Rp.zero, 0, e) ∨ ∃ r j, Rp.nxt (l.drop k) = (r, j, 0) ∧ r.a ≠ b + ps.length ∧ e = 3)) : AllCame l b k0 xs := by
 by_cases hk : k < l.length
 · rcases h hk with h1 | ⟨r, j, h1, h2, rfl⟩
   · exact ⟨ps, k, e, hr.stop hk h1 h0, hg, hz, by rw [he]; exact h0, fun _ => by rw [he], fun h => absurd hk (by omega)⟩
   · exact ⟨ps, k, 3, hr.form hk h1 h2, hg, hz, by rw [he]; exact h0, fun _ => by rw [he], fun h => absurd hk (by omega)⟩
 · exact ⟨ps, k, 0, hr.done (by omega), hg, hz, by rw [he]; exact h0, fun h => absurd h hk, fun _ => rfl⟩
end Gp
open Gp
def itVals {b : Int} (x : It b) : Array Value := #[.agg #[.int .i64 x.1.1.a, .int .i64 x.1.1.t, .string x.1.1.d], .int .i64 (x.1.2 : Int)]
theorem grown_of_below {w w' : World} (h : Below w.heap.size w w') : w.grownBy w' none := ⟨h.os, h.tape, h.output, h.size, fun k hk _ => h.block k hk⟩
def KpC (C : Nat) (A B : World) : Prop := ∀ o : Obj, A.heap[C]? = some o → B.heap[C]? = some o
theorem kpC_t {C : Nat} {X Y Z : World} (h : KpC C X Y) (k : KpC C Y Z) : KpC C X Z := fun o ho => k o (h o ho)
theorem kpC_b {C n : Nat} (hC : C < n) (W : World) (l : Nat) (o o' : Obj) (hl : n ≤ l) (_ : W.heap[l]? = some o) (_ : o.isCells = false) (_ : o.isWalk = false) : KpC C W (W.putObj l o') :=
 fun x hx => (World.putObj_heap_other (by omega)).trans hx
theorem kpC_below {C : Nat} {A B : World} (h : Below A.heap.size A B) : KpC C A B := fun _ ho => (h.block C (Array.getElem?_eq_some_iff.1 ho).1).trans ho
theorem cell_row1 {W : World} {k : Nat} {v : Value} {T : TypeId} (h : W.heap[k]? = some (.cells #[v] T (0, 0))) : W.cell? ⟨k, 0, none⟩ = some v := by rw [cell_of_row _ _ 0 _ _ _ h]; rfl
theorem iter9_in (s : ByteArray) (b : Int) (k0 A O C l : Nat) (n : Nat) (TC : TypeId) (hn : 1 ≤ n) (hs : s.size ≤ 4398046511104) (hb0 : 0 ≤ b) (hb1 : b ≤ 1099511627776) (hk0 : k0 ≤ s.size)
 (J Jx : List (It b) → World → Prop) (W : World) (hJ : AbidesFrom W.heap.size J)
 (hY : ∀ pre x W1, J pre W1 → pre.length < s.size + 1 → YieldAt Fence.wide (n - 1) Tryz.prog l (itVals x) W1 fun e W' =>
  (e = .returned (.bool true) ∧ J (pre ++ [x]) W' ∧ KpC C W1 W') ∨ (e = .returned (.bool false) ∧ Jx (pre ++ [x]) W'))
 (cA : W.cell? ⟨A, 0, none⟩ = some (.int .i64 (k0 : Int))) (cO : W.cell? ⟨O, 0, none⟩ = some (.int .i64 b)) (gC : W.heap[C]? = some (.cells #[.string s] TC (0, 0))) (h0 : J [] W) :
 CallsIn Fence.wide n Tryz.prog 150 #[.func (.yield l) #[] #[], .pointer (some ⟨A, 0, none⟩), .pointer (some ⟨O, 0, none⟩), .pointer (some ⟨C, 0, none⟩)] W fun e W' => (∃ v, e = .returned v) ∧
  ((∃ ys, AllCame s.data.toList b k0 ys ∧ J ys W') ∨ (∃ pre, SomeCame s.data.toList b k0 pre ∧ Jx pre W')) := by
 have HJ := zid hJ
 have HY := zid hY
 have HL := zid (show s.data.toList.length = s.size from rfl)
 clear hJ hY
 refine callsIn_of_wp Tryz.func150 rfl trivial ?_ rfl
 simp only [Tryz.ntmps150, List.size_toArray, List.length_cons, List.length_nil, Nat.reduceAdd, Nat.reduceSub, Array.replicate_succ, Array.replicate_zero, List.push_toArray, List.append_toArray, List.nil_append, List.cons_append]
 gi_wp2
 gi_region
 all_goals gi_wp2
 gi_loopw [5, 6] (fun p q wr => ∃ (pre : List (It b)) (ps : List (Rp.Rec × Nat)) (k : Nat), p = .int .i64 (k : Int) ∧ q = .int .i64 (b + (ps.length : Int)) ∧ J pre wr ∧ wr.heap[C]? = some (.cells #[.string s] TC (0, 0)) ∧ Gp.PRel s.data.toList b k0 ps k ∧ Gp.Good s.data.toList b k0 ps k ∧ Zp b k0 pre ps k)
  (fun p _ _ => s.size - (intOf p).toNat)
 case atStart =>
  refine ⟨[], [], k0, rfl, by simp, ?_, gC, Gp.PRel.start _ _ _, Gp.Good.start _ _ _, Zp.nil⟩
  exact HJ.out _ _ _ none h0 (grown_of_below ((Below.refl _ W).drew)) (fun r e => by cases e)
 case round =>
  obtain ⟨pre, ps, k, rfl, rfl, hJs, hB, hPR, hG, hZ⟩ := hrel
  have HPR := zid hPR
  have HG := zid hG
  have HZ := zid hZ
  have HB := zid hB
  have cC1 := cell_row1 hB
  have hln := hZ.len
  have hfew := hG.few
  have hks : k ≤ s.size := by
   rcases hG.le with h | h
   · rw [HL.out] at h; exact h
   · omega
  have HJS := zid hJs
  obtain ⟨m, hm⟩ : ∃ m, ps.length = m := ⟨_, rfl⟩
  have NX := fun W1 : World => next9_any s k (b + (m : Int)) W1 (by omega)
  have hlt : pre.length < s.size + 1 := by omega
  clear hPR hG hZ hJs hB
  rcases fd_cases s.data.toList (b + (m : Int)) k with ⟨e, he, hne, he0, he6, hwhy⟩ | ⟨r, j, he, hnx, ha, hok, h7, h8⟩
  · rw [he] at NX
    have HD := zid (all_came HPR.out HG.out HZ.out (by rw [hm]; exact he) hne (by rw [hm]; exact hwhy))
    have hnb : (e != 0) = true := by simpa using hne
    unfold fdVal Rp.zero at NX
    dsimp only at NX
    replace NX := zid NX
    clear he hwhy
    rw [hm]
    gi_wp2_with (refine ⟨trivial, ?_⟩; gi_at_call 131; refine (callsIn_wide.2 (NX.out _)).mono ?_; rintro e1 w1 ⟨rfl, b1⟩; have B2 := zid (b1.alloc (Below.size b1) (Obj.cells #[.int .i64 0, .int .i64 0, .string ByteArray.empty] 49)); have J2 := zid (HJ.out _ _ _ none HJS.out (grown_of_below B2.out) (fun r e => by cases e)); clear b1)
    refine ⟨fun _ h => (by cases h), ?_⟩
    gi_wp2
    refine bodyPost_ret (results_none rfl _ _ _) rfl ?_
    exact ⟨⟨_, rfl⟩, .inl ⟨_, HD.out, J2.out⟩⟩
  · obtain ⟨q, hq⟩ : ∃ q, k + j = q := ⟨_, rfl⟩
    rw [List.length_drop, HL.out] at h8
    have hq1 : k + 7 ≤ q := by omega
    have hq2 : q ≤ s.size := by omega
    rw [he, hq] at NX
    obtain ⟨x, hx⟩ : ∃ x : It b, x = ⟨(r, q), hok, by show q ≤ _; omega, by show b ≤ r.a; omega⟩ := ⟨_, rfl⟩
    have HX := zid (show itVals x = #[.agg #[.int .i64 r.a, .int .i64 r.t, .string r.d], .int .i64 (q : Int)] by rw [hx]; rfl)
    have HST := zid (show Gp.PRel s.data.toList b k0 (ps ++ [(r, k)]) q ∧ Gp.Good s.data.toList b k0 (ps ++ [(r, k)]) q ∧ Zp b k0 (pre ++ [x]) (ps ++ [(r, k)]) q from by
     rw [← hm] at ha
     have hj : j ≤ (s.data.toList.drop k).length := by rw [List.length_drop, HL.out]; exact h8
     refine ⟨?_, ?_, ?_⟩
     · rw [← hq]; exact HPR.out.step hnx (by omega) hj ha
     · rw [← hq]; exact HG.out.step hok ha h7 hj
     · subst hx; exact Zp.snoc _ HZ.out ha)
    have HPL := zid (show (ps ++ [(r, k)]).length = m + 1 by simp [hm])
    unfold fdVal at NX
    dsimp only at NX
    replace NX := zid NX
    clear he hnx hok ha hx
    rw [hm]
    gi_wp2_with (refine ⟨trivial, ?_⟩; gi_at_call 131; refine (callsIn_wide.2 (NX.out _)).mono ?_; rintro e1 w1 ⟨rfl, b1⟩; have B2 := zid (b1.alloc (Below.size b1) (Obj.cells #[.int .i64 r.a, .int .i64 r.t, .string r.d] 49)); obtain ⟨fn, tmps, assign, body, hy, hR⟩ := HY.out pre x _ (HJ.out _ _ _ none HJS.out (grown_of_below B2.out) (fun r e => by cases e)) hlt; rw [HX.out] at hy; have HR := zid hR; clear hR b1)
    refine HR.out.mono ?_
    rintro e W3 (⟨rfl, hJ3, hk3⟩ | ⟨rfl, hJx3⟩)
    · have HJ3 := zid hJ3
      have B3 := zid (hk3 _ ((B2.out.block C (Array.getElem?_eq_some_iff.1 HB.out).1).trans HB.out))
      clear hJ3 hk3
      gi_wp2
      go_roundw
      case rel => exact ⟨pre ++ [x], ps ++ [(r, k)], q, rfl, by rw [HPL.out]; exact congrArg (Value.int .i64) (by omega), HJ3.out, B3.out, HST.out.1, HST.out.2.1, HST.out.2.2⟩
      case measure => simp [intOf]; omega
    · have HJX := zid hJx3
      clear hJx3
      gi_wp2
      refine bodyPost_ret (results_none rfl _ _ _) rfl ?_
      exact ⟨⟨_, rfl⟩, .inr ⟨_, ⟨_, _, HST.out.1, HST.out.2.1, HST.out.2.2⟩, HJX.out⟩⟩
theorem iter9_stops (s : ByteArray) (b : Int) (k0 A O C : Nat) (n : Nat) (TC : TypeId) (hn : 1 ≤ n) (hs : s.size ≤ 4398046511104) (hb0 : 0 ≤ b) (hb1 : b ≤ 1099511627776) (hk0 : k0 ≤ s.size) (w : World)
 (hA : A < w.heap.size) (hO : O < w.heap.size) (hC : C < w.heap.size)
 (cA : w.cell? ⟨A, 0, none⟩ = some (.int .i64 (k0 : Int))) (cO : w.cell? ⟨O, 0, none⟩ = some (.int .i64 b)) (gC : w.heap[C]? = some (.cells #[.string s] TC (0, 0))) :
 SeqStopsK Fence.wide n Tryz.prog 150 #[.pointer (some ⟨A, 0, none⟩), .pointer (some ⟨O, 0, none⟩), .pointer (some ⟨C, 0, none⟩)] (itVals (b := b)) (KpC C)
  (AllCame s.data.toList b k0) (SomeCame s.data.toList b k0) (s.size + 1) w := fun l J Jx W hW hJ _ hY h0 =>
 iter9_in s b k0 A O C l n TC hn hs hb0 hb1 hk0 J Jx W hJ hY ((hW.cell (p := ⟨A, 0, none⟩) hA).trans cA) ((hW.cell (p := ⟨O, 0, none⟩) hO).trans cO) ((hW.block C hC).trans gC) h0
theorem records9_any (s : ByteArray) (k0 : Nat) (b : Int) (w : World) :
 Calls Tryz.prog 130 #[.string s, .int .i64 (k0 : Int), .int .i64 b] w fun e w' =>
  e = .returned (.func (.func 150) #[] #[.pointer (some ⟨w.heap.size + 1, 0, none⟩), .pointer (some ⟨w.heap.size + 2, 0, none⟩), .pointer (some ⟨w.heap.size, 0, none⟩)]) ∧
  w' = ((w.alloc (.cells #[.string s] 9)).alloc (.cells #[.int .i64 (k0 : Int)] 3)).alloc (.cells #[.int .i64 b] 3) := by
 go_enter Tryz.func130, Tryz.ntmps130
 go_wp2_with fail
 go_ret
 exact ⟨rfl, rfl⟩
end
section
open Go.RowKit Go.Shelf Gp
attribute [local go_sem] Oper.semAt_some
theorem row_kept {X Y : World} {row : Option Nat} {k : Nat} {cs : Array Value} {T : TypeId} {fz : Nat × Nat} (h : X.heap[k]? = some (.cells cs T fz)) (hg : X.grownBy Y row) (hr : ∀ r, row = some r → ∃ o : Obj, X.heap[r]? = some o ∧ o.isCells = false) :
 Y.heap[k]? = some (.cells cs T fz) :=
 (hg.block k (Array.getElem?_eq_some_iff.1 h).1 (fun e => by obtain ⟨o, ho, hc⟩ := hr k e.symm; rw [h] at ho; cases ho; cases hc)).trans h
theorem scan9_out (s : ByteArray) (base : Int) (w : World) (h : base < 0 ∨ 1099511627776 < base) :
 Calls Tryz.prog 94 #[.string s, .int .i64 base] w (ScanOut w (Gp.full s.data.toList base)) := by
 have M := zid fun W : World => maybe9_any base W
 have HF := zid (show ScanOut w (Gp.full s.data.toList base) (.returned (.tuple #[.slice none 0 0, .int .i64 0, .int .i64 1])) w from by
  rw [Gp.full_out (Rp.inB_no h)]
  exact ⟨_, rfl, IsRecs.nil w none 0, Below.refl _ w⟩)
 rw [Rp.inB_no h] at M
 go_enter Tryz.func94, Tryz.ntmps94
 go_wp2_with (go_at_call 129; refine (M.out _).mono ?_; rintro e w' ⟨rfl, rfl⟩)
 go_ret3
 exact HF.out
theorem scan_end {w wr : World} {l : List UInt8} {b : Int} {ps : List (Rp.Rec × Nat)} {k : Nat} {v : Value} {B : Nat} (hk : k ≤ 4398046511104) (hg : Gp.Good l b 0 ps k)
 (h1 : wr.ownsRow B 49 3 v ps.length (recVals (ps.map Prod.fst))) {F : List (Rp.Rec × Nat) × Nat × Int} {er : Int} (hF : F = (ps, k, er)) (hb : Below w.heap.size w wr) :
 ScanOut w F (.returned (.tuple #[v, .int .i64 (k : Int), .int .i64 er])) wr := by
 have hf := hg.few
 subst hF
 refine ⟨v, rfl, IsRecs.own h1 (by unfold maxLen; omega) fun r hr => ?_, hb⟩
 rw [List.mem_map] at hr
 obtain ⟨p, hp, rfl⟩ := hr
 exact hg.ok p hp
theorem scan9_in (s : ByteArray) (base : Int) (w : World) (hs : s.size ≤ 1000000000) (hb0 : 0 ≤ base) (hb1 : base ≤ 1099511627776) :
 Calls Tryz.prog 94 #[.string s, .int .i64 base] w (ScanOut w (Gp.full s.data.toList base)) := by
 have M := zid fun W : World => maybe9_any base W
 rw [Rp.inB_mk hb0 hb1] at M
 have R := fun W : World => records9_any s 0 base W
 rw [show ((0 : Nat) : Int) = 0 from rfl] at R
 replace R := zid R
 have HFU := zid (Gp.full_in (l := s.data.toList) (Rp.inB_mk hb0 hb1))
 have HL := zid (show s.data.toList.length = s.size from rfl)
 obtain ⟨i0, hi, hz0, hz1, hz2⟩ := info_parts info_rec
 refine (callsIn_wide (n := 6)).1 ?_
 refine callsIn_of_wp_marks Tryz.func94 rfl trivial ?_ rfl
 simp only [Tryz.ntmps94, List.size_toArray, List.length_cons, List.length_nil, Nat.reduceAdd, Nat.reduceSub, Array.replicate_succ, Array.replicate_zero, List.push_toArray, List.append_toArray, List.nil_append, List.cons_append]
 gi_wp2_with (first | (refine ⟨trivial, ?_⟩; gi_at_call 129; refine (callsIn_wide.2 (M.out _)).mono ?_; rintro e w' ⟨rfl, rfl⟩) | (refine ⟨trivial, ?_⟩; gi_at_call 130; refine (callsIn_wide.2 (R.out _)).mono ?_; rintro e w' ⟨rfl, rfl⟩))
 have bL := ((((Boxed.new w 80 (.slice none 0 0)).alloc (.cells #[.int .i64 0] 3)).alloc (.cells #[.string s] 9)).alloc (.cells #[.int .i64 0] 3)).alloc (.cells #[.int .i64 base] 3)
 have bE := (((Boxed.new (w.alloc (.cells #[.slice none 0 0] 80)) 3 (.int .i64 0)).alloc (.cells #[.string s] 9)).alloc (.cells #[.int .i64 0] 3)).alloc (.cells #[.int .i64 base] 3)
 have bC := ((Boxed.new ((w.alloc (.cells #[.slice none 0 0] 80)).alloc (.cells #[.int .i64 0] 3)) 9 (.string s)).alloc (.cells #[.int .i64 0] 3)).alloc (.cells #[.int .i64 base] 3)
 have bA := (Boxed.new (((w.alloc (.cells #[.slice none 0 0] 80)).alloc (.cells #[.int .i64 0] 3)).alloc (.cells #[.string s] 9)) 3 (.int .i64 0)).alloc (.cells #[.int .i64 base] 3)
 have bO := Boxed.new ((((w.alloc (.cells #[.slice none 0 0] 80)).alloc (.cells #[.int .i64 0] 3)).alloc (.cells #[.string s] 9)).alloc (.cells #[.int .i64 0] 3)) 3 (.int .i64 base)
 simp only [World.size_alloc] at bL bE bC bA bO
 have hB0 : Below w.heap.size w (((((w.alloc (.cells #[.slice none 0 0] 80)).alloc (.cells #[.int .i64 0] 3)).alloc (.cells #[.string s] 9)).alloc (.cells #[.int .i64 0] 3)).alloc (.cells #[.int .i64 base] 3)) :=
  (((((Below.refl _ w).alloc (Nat.le_refl _) _).alloc (by simp) _).alloc (by simp; omega) _).alloc (by simp; omega) _).alloc (by simp; omega) _
 have hsz : (((((w.alloc (.cells #[.slice none 0 0] 80)).alloc (.cells #[.int .i64 0] 3)).alloc (.cells #[.string s] 9)).alloc (.cells #[.int .i64 0] 3)).alloc (.cells #[.int .i64 base] 3)).heap.size = w.heap.size + 5 := by simp
 obtain ⟨W0, hW0⟩ : ∃ W0, ((((w.alloc (.cells #[.slice none 0 0] 80)).alloc (.cells #[.int .i64 0] 3)).alloc (.cells #[.string s] 9)).alloc (.cells #[.int .i64 0] 3)).alloc (.cells #[.int .i64 base] 3) = W0 := ⟨_, rfl⟩
 rw [hW0] at bL bE bC bA bO hB0 hsz ⊢
 clear hW0
 refine wpIn_rangeFunc_ownH (F := Fence.wide) rfl (by decide) (gf := 150) (lb := #[.pointer (some ⟨w.heap.size + 1 + 1 + 1, 0, none⟩), .pointer (some ⟨w.heap.size + 1 + 1 + 2, 0, none⟩), .pointer (some ⟨w.heap.size + 1 + 1, 0, none⟩)]) rfl trivial (enters_of Tryz.func150 (by kernel_rfl) rfl)
  (iter9_stops s base 0 (w.heap.size + 1 + 1 + 1) (w.heap.size + 1 + 1 + 2) (w.heap.size + 1 + 1) 5 9 (by decide) (by omega) hb0 hb1 (Nat.zero_le _) W0 (by omega) (by omega) (by omega) bA.cell bO.cell bC)
  (fun h k => kpC_t h k) (kpC_b (by omega)) (Below.refl _ _) (fun _ => rfl)
  (fun (pre : List (It base)) W => ((∃ v, Boxed W w.heap.size 80 v ∧ W.ownsRow w.heap.size 49 3 v pre.length (recVals (pre.map fun x => x.1.1)) ∧ True) ∧ (Boxed W (w.heap.size + 1) 3 (.int .i64 (lastAt 0 pre : Nat)) ∧ Boxed W (w.heap.size + 1 + 1) 9 (.string s))) ∧ Below w.heap.size w W)
  (fun _ _ _ => False)
  (OwnFrom.and (OwnFrom.and (Own.from (holdsRow_own w.heap.size w.heap.size 80 49 3 (fun (pre : List (It base)) => pre.length) (fun pre => recVals (pre.map fun x => x.1.1)) (fun _ _ => True)) _) (OwnFrom.and (Own.from (boxed_own _ _ (fun (pre : List (It base)) => .int .i64 (lastAt 0 pre : Nat))) _) (Own.from (boxed_own _ _ _) _))) (ownFrom_below (Nat.le_refl _) (by omega)))
  (fun _ _ _ _ _ hs _ _ => hs)
  ⟨⟨⟨_, bL, World.ownsRow_nil _ _ _ _, trivial⟩, bE, bC⟩, hB0⟩
  (fun x a' W => ∃ Bx, w.heap.size + 2 < Bx ∧ W.heap[Bx]? = some (.cells #[.int .i64 x.1.1.a, .int .i64 x.1.1.t, .string x.1.1.d] 49 (0, 0)) ∧ a' = { defers := [], tmps :=
   #[Value.string s, Value.int IntKind.i64 base, undef, undef, Value.slice none 0 0, Value.int IntKind.i64 0,
    Value.int IntKind.i64 0, Value.pointer (some { block := w.heap.size, off := 0 }),
    Value.pointer (some { block := w.heap.size + 1, off := 0 }), Value.pointer (some ⟨Bx, 0, none⟩), Value.int IntKind.i64 (x.1.2 : Int), undef, undef, undef,
    Value.int IntKind.i64 base, Value.bool true, Value.bool false, Value.string s, Value.int IntKind.i64 base,
    Value.func (Fn.func 150) #[]
     #[Value.pointer (some { block := w.heap.size + 1 + 1 + 1, off := 0 }),
      Value.pointer (some { block := w.heap.size + 1 + 1 + 2, off := 0 }),
      Value.pointer (some { block := w.heap.size + 1 + 1, off := 0 })],
    .agg #[.int .i64 x.1.1.a, .int .i64 x.1.1.t, .string x.1.1.d], .int .i64 (x.1.2 : Int), undef, undef, undef, undef, undef, undef, undef, undef, undef, undef, undef, undef, undef, undef, undef, undef, undef, undef, undef, undef, undef, undef, undef, undef, undef] })
  (fun x a' _ X Y row hs hg hr => by obtain ⟨Bx, h1, h2, h3⟩ := hs; exact ⟨Bx, h1, row_kept h2 hg (fun r e => (hr r e).2), h3⟩)
  ?assign ?body ?done ?stop
 case assign =>
  rintro l pre ⟨⟨⟨ra, rt, rd⟩, q⟩, hx⟩ W K ⟨⟨⟨v, bL1, hO, _⟩, bE1, bC1⟩, hB1⟩ hK
  have hK := zid (fun a' h => hK a' _ ((KeepsOthers.alloc W (.cells #[.int .i64 ra, .int .i64 rt, .string rd] 49)).from _) (kpC_below ((Below.refl _ W).alloc (Nat.le_refl _) _)) ⟨⟨⟨v, bL1.alloc _, hO.alloc _, trivial⟩, bE1.alloc _, bC1.alloc _⟩, hB1.alloc hB1.size _⟩ ⟨W.heap.size, by have := bC1.lt; omega, heap_alloc_new W _, h⟩)
  unfold itVals
  dsimp only
  gi_wp2
  exact hK.out _ rfl
 case body =>
  rintro l pre ⟨⟨⟨ra, rt, rd⟩, q⟩, hx⟩ a' W hl hr ⟨⟨⟨v, bL1, hO, _⟩, bE1, bC1⟩, hB1⟩ ⟨Bx, hBx, gX, rfl⟩ hlt
  obtain ⟨x, hxe⟩ : ∃ x : It base, x = ⟨⟨⟨ra, rt, rd⟩, q⟩, hx⟩ := ⟨_, rfl⟩
  have HLA := zid (lastAt_snoc 0 pre x)
  have HRV := zid (show recVals ((pre ++ [x]).map fun x => x.1.1) = recVals (pre.map fun x => x.1.1) ++ [.int .i64 ra, .int .i64 rt, .string rd] by rw [List.map_append, hxe]; exact recVals_snoc _ ⟨ra, rt, rd⟩)
  have HPL := zid (show (pre ++ [x]).length = pre.length + 1 by simp)
  obtain ⟨ln, hln⟩ : ∃ ln, pre.length = ln := ⟨_, rfl⟩
  rw [← hxe]
  rw [hln] at hO HPL hlt
  generalize recVals (pre.map fun x => x.1.1) = rv at *
  generalize lastAt 0 pre = la at *
  clear hxe hln
  dsimp only
  have cL := bL1.cell
  have cE := bE1.cell
  have fE := bE1.frozen
  obtain ⟨z0, z1, z2⟩ := cells3 gX
  have hs1 := hB1.size
  have GO := zid fun (v' : Value) (w1 : World) (hown' : w1.ownsRow w.heap.size 49 3 v' (ln + 1) (rv ++ [.int .i64 ra, .int .i64 rt, .string rd])) (hgrow : (W.alloc (.cells #[.int .i64 ra, .int .i64 rt, .string rd] 49)).grownBy w1 v.ownBlock) => bL1.appended (by decide) hO hs1 (Nat.le_refl _) hown' hgrow
  have GE := zid fun (w1 : World) (hgrow : (W.alloc (.cells #[.int .i64 ra, .int .i64 rt, .string rd] 49)).grownBy w1 v.ownBlock) => (bE1.alloc _).kept hgrow (bE1.not_row (by decide) hO)
  have GC := zid fun (w1 : World) (hgrow : (W.alloc (.cells #[.int .i64 ra, .int .i64 rt, .string rd] 49)).grownBy w1 v.ownBlock) => (bC1.alloc _).kept hgrow (bC1.not_row (by decide) hO)
  have HBC := zid bC1
  have HBB := zid hB1
  have HO := zid hO
  clear bL1 bE1 bC1 hO hB1 gX
  gi_wp2_with (gi_at_builtin; refine wpListIn_append_own _ rfl _ _ 80 rfl w.heap.size 49 i0 (.agg #[.int .i64 0, .int .i64 0, .string ByteArray.empty]) 3 32 Tryz.underlying80 hi hz0 hz1 hz2 rfl (by decide) _ _ _ rfl (HO.out.alloc _) ⟨W.heap.size, 0, none⟩ 1 1 [.int .i64 ra, .int .i64 rt, .string rd] (by simp [go_sem]) rfl (news_new W _ [.int .i64 ra, .int .i64 rt, .string rd] 49 rfl) (by simp [Value.oneCell']) (by unfold maxLen; omega) (by omega) (by simp; omega) ?_; intro v' w1 hown' hgrow _; obtain ⟨g', cap', rfl⟩ := ownsRow_succ hown'; obtain ⟨hv1, hv2, hr2, hk2, hb2⟩ := GO.out _ _ hown' hgrow; have hc1 := hv1.cell; have hf1 := hv1.frozen; have bE3 := GE.out _ hgrow; have bC3 := GC.out _ hgrow; have cE3 := bE3.cell; have fE3 := bE3.frozen; have HS := zid (And.intro hv2 (And.intro hr2 (And.intro hk2 hb2))); have HE := zid bE3; have HC := zid bC3; clear hv1 hv2 hr2 hk2 hb2 bE3 bC3 hown' hgrow)
  obtain ⟨hv2, hr2, hk2, hb2⟩ := HS.out
  have bE4 := HE.out.other (show w.heap.size + 1 ≠ w.heap.size by omega) (.slice (some ⟨g', 0, none⟩) (ln + 1) cap')
  have bC4 := (HC.out.other (show w.heap.size + 1 + 1 ≠ w.heap.size by omega) (.slice (some ⟨g', 0, none⟩) (ln + 1) cap')).other (show w.heap.size + 1 + 1 ≠ w.heap.size + 1 by omega) (.int .i64 (x.1.2 : Int))
  exact ⟨(hk2.trans (KeepsOthers.setCell _ _ _)).from _, (fun o ho => by rw [show W.heap[_]? = _ from HBC.out] at ho; cases ho; exact bC4),
   ⟨⟨⟨_, hv2.other (by omega) _, by rw [HPL.out, HRV.out]; exact hr2.kept (grownBy_setCell' _ _ _) (.inr (bE4.not_row (by decide) hr2).symm)⟩, by rw [HLA.out]; exact bE4.set _, bC4⟩, (HBB.out.trans hb2).setCell (p := ⟨w.heap.size + 1, 0, none⟩) (by simp) _⟩⟩
 case done =>
  rintro D ys W hD ⟨ps, k, e, hF, hG, hZ, hne, hlt, hge⟩ ⟨⟨⟨v, bL1, hO, _⟩, bE1, _⟩, hB1⟩ hK
  rw [hZ.last] at bE1
  rw [hZ.len, hZ.recs] at hO
  rw [HL.out] at hlt hge
  have hks : k ≤ s.size := by
   rcases hG.le with h | h
   · rw [HL.out] at h; exact h
   · omega
  have hFF := HFU.out.trans hF
  have hfew := hG.few
  have cL := bL1.cell
  have cE := bE1.cell
  have HR := zid fun (W' : World) (h : W'.ownsRow w.heap.size 49 3 v ps.length (recVals (ps.map Prod.fst))) (hb : Below w.heap.size w W') => scan_end (by omega) hG h hFF hb
  have HO := zid hO
  have HB := zid hB1
  have hs1 := hB1.size
  by_cases hk : k = s.size
  · obtain rfl := hge (by omega)
    have heq : ((k : Int) == (s.size : Int)) = true := by simp; omega
    have HK := zid hK
    clear hO hB1 hF hG hZ hne hlt hge hFF bL1 bE1 hK
    subst hk
    gi_wp2
    gi_region
    all_goals gi_wp2
    refine ⟨by simp, .inl ⟨_, _, rfl, run_takeDeferred (w := W.drew) HK.out, ?_⟩⟩
    refine ⟨.tuple #[v, .int .i64 (s.size : Int), .int .i64 0], by simp [results, Tryz.results94, go_sem], ?_⟩
    exact HR.out _ (ownsRow_putObj (own_below HO.out (Below.refl _ W).drew) _ HK.out rfl) (HB.out.drew.trans (belowK_b (w := w) (Nat.le_refl _) W.drew D _ _ (by omega) HK.out rfl rfl))
  · have heq : ((k : Int) == (s.size : Int)) = false := by simp; omega
    have her := hlt (by omega)
    have NX := fun W1 : World => next9_any s k (base + (ps.length : Int)) W1 (by omega)
    generalize Gp.fd s.data.toList (base + (ps.length : Int)) k = x at NX her
    obtain ⟨⟨xa, xt, xd⟩, xk, xe⟩ := x
    dsimp only at her
    subst her
    unfold fdVal at NX
    dsimp only at NX
    obtain ⟨va, vc, rfl⟩ := own_slice hO
    replace NX := zid NX
    have HK := zid hK
    have HBL := zid bL1
    have HBE := zid bE1
    clear hO hB1 hF hG hZ hne hlt hge hFF bL1 bE1 hK
    obtain ⟨ln, hln⟩ : ∃ ln, ps.length = ln := ⟨_, rfl⟩
    rw [hln] at NX HR HO HBL cL hfew
    gi_wp2_with (refine ⟨trivial, ?_⟩; gi_at_call 131; refine (callsIn_wide.2 (NX.out _)).mono ?_; rintro e1 w1 ⟨rfl, b1⟩; have B2 := zid (b1.alloc (Below.size b1) (Obj.cells #[.int .i64 xa, .int .i64 xt, .string xd] 49)); have cL1 := Boxed.cell (B2.out.block _ HBL.out.lt |>.trans HBL.out); have cE1 := Boxed.cell (B2.out.block _ HBE.out.lt |>.trans HBE.out); clear b1)
    gi_region
    all_goals gi_wp2
    have HK2 := zid ((B2.out.block D (Array.getElem?_eq_some_iff.1 HK.out).1).trans HK.out)
    have HB2 := zid ((HB.out.trans (B2.out.mono hs1)).drew)
    refine ⟨by simp, .inl ⟨_, _, rfl, run_takeDeferred (w := (w1.alloc (Obj.cells #[.int .i64 xa, .int .i64 xt, .string xd] 49)).drew) HK2.out, ?_⟩⟩
    refine ⟨.tuple #[.slice va ln vc, .int .i64 (k : Int), .int .i64 e], by simp [results, Tryz.results94, go_sem], ?_⟩
    exact HR.out _ (ownsRow_putObj (own_below HO.out B2.out.drew) _ HK2.out rfl) (HB2.out.trans (belowK_b (w := w) (Nat.le_refl _) _ D _ _ (by omega) HK2.out rfl rfl))
 case stop =>
  rintro D c pre W _ _ h _
  exact h.elim
theorem scan9_any (s : ByteArray) (base : Int) (w : World) (hs : s.size ≤ 1000000000) (_ : -9223372036854775808 ≤ base) (_ : base ≤ 9223372036854775807) :
 Calls Tryz.prog 94 #[.string s, .int .i64 base] w (ScanOut w (Gp.full s.data.toList base)) := by
 by_cases h : base < 0 ∨ 1099511627776 < base
 · exact scan9_out s base w h
 · exact scan9_in s base w hs (by omega) (by omega)
attribute [local go_sem] Oper.semAt_some
namespace Gp
end Gp
end
section
open Go.RowKit Go.Shelf Gp
attribute [local go_sem] Oper.semAt_some
namespace Gp
end Gp
end
end Go.Proofs.YtooipogbmfkeeaaGreat
