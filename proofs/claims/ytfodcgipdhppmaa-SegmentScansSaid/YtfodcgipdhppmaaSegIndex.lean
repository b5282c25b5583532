/-
  What the program's Index answers (layer 9).
-/
import Derived.Test.YtfodcgipdhppmaaSegScan
import Derived.Test.YtfodcgipdhppmaaRound
namespace Go.Proofs.Ytfodcgipdhppmaa
open Go.RowKit Go.Shelf Go.Proofs.Ytfodcgipdhppmaa.Mks Go.Proofs.Ytfodcgipdhppmaa.Gp

attribute [local go_sem] Oper.semAt_some

namespace Gp
/-- The marks of what has come, and the place behind it. -/
def mkSt (b every : Int) (xs : List (It b)) : List Mp.Mk × Nat := xs.foldl (fun st x => (Mp.add st.1 b every ⟨x.1.1.a, st.2⟩, x.1.2)) ([], 0)
theorem mkSt_snoc (b every : Int) (xs : List (It b)) (x : It b) : mkSt b every (xs ++ [x]) = (Mp.add (mkSt b every xs).1 b every ⟨x.1.1.a, (mkSt b every xs).2⟩, x.1.2) := by simp [mkSt]
theorem add_split (l : List Mp.Mk) (b every : Int) (m : Mp.Mk) : Mp.add l b every m = l ++ Mp.add [] b every m := by
  unfold Mp.add
  split <;> simp
theorem add_one (b every : Int) (m : Mp.Mk) : (Mp.add [] b every m).length ≤ 1 := by
  unfold Mp.add
  split <;> simp
theorem mkSt_len (b every : Int) (xs : List (It b)) : (mkSt b every xs).1.length ≤ xs.length := by
  have key : ∀ (xs : List (It b)) (st : List Mp.Mk × Nat), (xs.foldl (fun (st : List Mp.Mk × Nat) x => (Mp.add st.1 b every ⟨x.1.1.a, (st.2 : Int)⟩, x.1.2)) st).1.length ≤ st.1.length + xs.length := by
    intro xs
    induction xs with
    | nil => exact fun st => Nat.le_refl _
    | cons x xs ih =>
      intro st
      rw [List.foldl_cons]
      have h1 := ih (Mp.add st.1 b every ⟨x.1.1.a, st.2⟩, x.1.2)
      have h2 := add_one b every ⟨x.1.1.a, st.2⟩
      have h3 : (Mp.add st.1 b every ⟨x.1.1.a, st.2⟩).length = st.1.length + (Mp.add [] b every ⟨x.1.1.a, st.2⟩).length := by rw [add_split, List.length_append]
      dsimp only at h1
      rw [List.length_cons]
      omega
  have h := key xs ([], 0)
  simpa [mkSt] using h
theorem ix_append (ps q : List (Rp.Rec × Nat)) (b every : Int) : ∀ n, n ≤ ps.length → ix (ps ++ q) b every n = ix ps b every n
  | 0, _ => rfl
  | n + 1, hn => by
    unfold ix
    rw [ix_append ps q b every n (by omega)]
    have : (ps ++ q).getD n (Rp.zero, 0) = ps.getD n (Rp.zero, 0) := by
      rw [List.getD_eq_getElem?_getD, List.getD_eq_getElem?_getD, List.getElem?_append_left (by omega)]
    rw [this]
theorem Zp.marks {b every : Int} {k : Nat} {xs : List (It b)} {ps : List (Rp.Rec × Nat)} (h : Zp b 0 xs ps k) : mkSt b every xs = (ix ps b every ps.length, k) := by
  induction h with
  | nil => rfl
  | snoc x h ha ih =>
    rw [mkSt_snoc, ih, List.length_append, List.length_singleton]
    dsimp only
    show _ = (Mp.add (ix (_ ++ _) b every _) b every _, _)
    rw [ix_append _ _ _ _ _ (Nat.le_refl _), ha]
    congr 2
    simp [List.getD_eq_getElem?_getD]
end Gp

/-- What lies in memory beside the marks. -/
def S9 (B Bx : Nat) (base every ra rt pa : Int) (rd s : ByteArray) (W : World) : Prop :=
  Boxed W B 3 (.int .i64 base) ∧ Boxed W (B + 1) 3 (.int .i64 every) ∧ W.heap[Bx]? = some (.cells #[.int .i64 ra, .int .i64 rt, .string rd] 35 (0, 0)) ∧ Boxed W (B + 1 + 1 + 1) 3 (.int .i64 pa) ∧ Boxed W (B + 1 + 1 + 1 + 1) 9 (.string s)
theorem row_not {W : World} {k : Nat} {cs : Array Value} {t e : TypeId} {fz : Nat × Nat} (h : W.heap[k]? = some (.cells cs t fz)) (hte : t ≠ e) {base size n : Nat} {v : Value} {xs : List Value} (hr : W.ownsRow base e size v n xs) : some k ≠ v.ownBlock := by
  rcases hr.2 with ⟨rfl, _⟩ | ⟨g, cap, cur, rfl, _, hgb, _⟩
  · simp [Value.ownBlock]
  · intro e'
    obtain rfl : k = g := by simpa [Value.ownBlock] using e'
    rw [h] at hgb
    injection hgb with hgb
    injection hgb with _ e1
    exact hte e1
theorem S9.below {B Bx : Nat} {base every ra rt pa : Int} {rd s : ByteArray} {W W' : World} (h : S9 B Bx base every ra rt pa rd s W) (b : Below W.heap.size W W') : S9 B Bx base every ra rt pa rd s W' := by
  obtain ⟨h1, h2, h3, h4, h5⟩ := h
  exact ⟨(b.block _ h1.lt).trans h1, (b.block _ h2.lt).trans h2, (b.block _ (Array.getElem?_eq_some_iff.1 h3).1).trans h3, (b.block _ h4.lt).trans h4, (b.block _ h5.lt).trans h5⟩
theorem S9.grown {B Bx : Nat} {base every ra rt pa : Int} {rd s : ByteArray} {W W' : World} (h : S9 B Bx base every ra rt pa rd s W) {n₀ n : Nat} {v : Value} {xs : List Value} (hr : W.ownsRow n₀ 58 2 v n xs) (hg : W.grownBy W' v.ownBlock) : S9 B Bx base every ra rt pa rd s W' := by
  obtain ⟨h1, h2, h3, h4, h5⟩ := h
  exact ⟨h1.kept hg (h1.not_row (by decide) hr), h2.kept hg (h2.not_row (by decide) hr), (hg.block _ (Array.getElem?_eq_some_iff.1 h3).1 (row_not h3 (by decide) hr)).trans h3, h4.kept hg (h4.not_row (by decide) hr), h5.kept hg (h5.not_row (by decide) hr)⟩
theorem S9.set {B Bx : Nat} {base every ra rt pa : Int} {rd s : ByteArray} {W : World} (h : S9 B Bx base every ra rt pa rd s W) (hx : Bx ≠ B + 1 + 1) (v : Value) : S9 B Bx base every ra rt pa rd s (W.setCell ⟨B + 1 + 1, 0, none⟩ v) := by
  obtain ⟨h1, h2, h3, h4, h5⟩ := h
  exact ⟨h1.other (by omega) v, h2.other (by omega) v, (Below.heap_setCell W ⟨B + 1 + 1, 0, none⟩ v Bx (fun e => hx e)).trans h3, h4.other (by omega) v, h5.other (by omega) v⟩
theorem ko_below {W W' : World} (h : Below W.heap.size W W') : KeepsOthers W W' := ⟨h.size, fun k _ hk _ => (h.block k (Array.getElem?_eq_some_iff.1 hk).1).trans hk⟩

/-- 'append' of a row of one's own, or of none. -/
theorem app9 {W : World} {B B2 : Nat} {v v2 : Value} {l l2 : List Mp.Mk} (ty : TypeId) (hO : OwnL ML W B v l) (h2 : (v2 = .slice none 0 0 ∧ l2 = []) ∨ OwnL ML W B2 v2 l2) (hB : B ≤ W.heap.size) (hl : l.length ≤ 1000000001) (hl2 : l2.length ≤ 1) :
    ∃ v' W', (Builtin.append_ #[29, 29] ty #[v, v2]).run Try.prog W = .ok v' W' ∧ (OwnL ML W' B v' (l ++ l2) ∧ W.grownBy W' v.ownBlock) := by
  obtain ⟨i0, hi0, hz0, hz1, hz2⟩ := info_parts info_mk
  have hnone : v2 = .slice none 0 0 → l2 = [] → ∃ v' W', (Builtin.append_ #[29, 29] ty #[v, v2]).run Try.prog W = .ok v' W' ∧ (OwnL ML W' B v' (l ++ l2) ∧ W.grownBy W' v.ownBlock) := by
    rintro rfl rfl
    refine ⟨v, W, run_append_owned_none W B _ _ _ i0 2 Try.underlying29 hi0 v _ _ hO, ?_, ⟨rfl, rfl, rfl, Nat.le_refl _, fun _ _ _ => rfl⟩⟩
    rw [List.append_nil]
    exact hO
  rcases h2 with ⟨h2, h3⟩ | h2
  · exact hnone h2 h3
  · have h2' := h2
    rcases h2.2 with ⟨hv2, hn⟩ | ⟨g, cap, cur, rfl, _⟩
    · exact hnone hv2 (List.length_eq_zero_iff.1 hn)
    · obtain ⟨v', W', hrun, ho, hg, _⟩ := run_append_own (P := Try.prog) W B 29 ty 58 i0 (.agg #[.int .i64 0, .int .i64 0]) 2 16 Try.underlying29 hi0 hz0 hz1 hz2 rfl (by decide) v l.length (ML.vals l) hO ⟨g, 0, none⟩ l2.length cap (ML.vals l2) h2.1 (fun j u hj => by
          have hlt := (List.getElem?_eq_some_iff.1 hj).1
          have hc := World.ownsRow.cellAt h2' j (by rw [← h2.1]; exact hlt)
          rw [show (⟨g, 0, none⟩ : Addr).add j = ⟨g, j, none⟩ from by rw [addr_plain]; simp, hc]
          exact hj) (ML.vals_cells l2) (by unfold maxLen; omega) (by omega) hB
      refine ⟨v', W', hrun, ?_, hg⟩
      unfold OwnL
      rw [ML.vals_append, List.length_append]
      exact ho

set_option maxRecDepth 100000 in
set_option maxHeartbeats 1600000 in
theorem index9_in (s : ByteArray) (base every : Int) (w : World) (hs : s.size ≤ 1000000000) (hb0 : 0 ≤ base) (hb1 : base ≤ 1099511627776) (h3 : 1 ≤ every) (h4 : every ≤ 9223372036854775807) :
    Calls Try.prog 12 #[.string s, .int .i64 base, .int .i64 every] w (OutL ML w w.heap.size (Gp.ix (Gp.full s.data.toList base).1 base every (Gp.full s.data.toList base).1.length)) := by
  have M := Lib.hid fun W : World => maybe9_any base W
  rw [Rp.inB_mk hb0 hb1] at M
  have R := fun W : World => records9_any s 0 base W
  rw [show ((0 : Nat) : Int) = 0 from rfl] at R
  replace R := Lib.hid R
  have HFU := Lib.hid (Gp.full_in (l := s.data.toList) (Rp.inB_mk hb0 hb1))
  have HL := Lib.hid (show s.data.toList.length = s.size from rfl)
  refine (callsIn_wide (n := 6)).1 ?_
  refine callsIn_of_wp_marks Try.func12 rfl trivial ?_ rfl
  simp only [Try.ntmps12, List.size_toArray, List.length_cons, List.length_nil, Nat.reduceAdd, Nat.reduceSub, Array.replicate_succ, Array.replicate_zero, List.push_toArray, List.append_toArray, List.nil_append, List.cons_append]
  gi_wp2_with (first | (refine ⟨trivial, ?_⟩; gi_at_call 18; refine (callsIn_wide.2 (M.out _)).mono ?_; rintro e w' ⟨rfl, rfl⟩) | (refine ⟨trivial, ?_⟩; gi_at_call 19; refine (callsIn_wide.2 (R.out _)).mono ?_; rintro e w' ⟨rfl, rfl⟩))
  have bB := (((((((Boxed.new w 3 (.int .i64 base)).alloc (.cells #[.int .i64 every] 3)).alloc (.cells #[.slice none 0 0] 29)).alloc (.cells #[.int .i64 0] 3)).alloc (.cells #[.string s] 9)).alloc (.cells #[.int .i64 0] 3)).alloc (.cells #[.int .i64 base] 3))
  have bV := ((((((Boxed.new (w.alloc (.cells #[.int .i64 base] 3)) 3 (.int .i64 every)).alloc (.cells #[.slice none 0 0] 29)).alloc (.cells #[.int .i64 0] 3)).alloc (.cells #[.string s] 9)).alloc (.cells #[.int .i64 0] 3)).alloc (.cells #[.int .i64 base] 3))
  have bL := (((((Boxed.new ((w.alloc (.cells #[.int .i64 base] 3)).alloc (.cells #[.int .i64 every] 3)) 29 (.slice none 0 0)).alloc (.cells #[.int .i64 0] 3)).alloc (.cells #[.string s] 9)).alloc (.cells #[.int .i64 0] 3)).alloc (.cells #[.int .i64 base] 3))
  have bP := ((((Boxed.new (((w.alloc (.cells #[.int .i64 base] 3)).alloc (.cells #[.int .i64 every] 3)).alloc (.cells #[.slice none 0 0] 29)) 3 (.int .i64 0)).alloc (.cells #[.string s] 9)).alloc (.cells #[.int .i64 0] 3)).alloc (.cells #[.int .i64 base] 3))
  have bC := (((Boxed.new ((((w.alloc (.cells #[.int .i64 base] 3)).alloc (.cells #[.int .i64 every] 3)).alloc (.cells #[.slice none 0 0] 29)).alloc (.cells #[.int .i64 0] 3)) 9 (.string s)).alloc (.cells #[.int .i64 0] 3)).alloc (.cells #[.int .i64 base] 3))
  have bA := ((Boxed.new (((((w.alloc (.cells #[.int .i64 base] 3)).alloc (.cells #[.int .i64 every] 3)).alloc (.cells #[.slice none 0 0] 29)).alloc (.cells #[.int .i64 0] 3)).alloc (.cells #[.string s] 9)) 3 (.int .i64 0)).alloc (.cells #[.int .i64 base] 3))
  have bO := (Boxed.new ((((((w.alloc (.cells #[.int .i64 base] 3)).alloc (.cells #[.int .i64 every] 3)).alloc (.cells #[.slice none 0 0] 29)).alloc (.cells #[.int .i64 0] 3)).alloc (.cells #[.string s] 9)).alloc (.cells #[.int .i64 0] 3)) 3 (.int .i64 base))
  simp only [World.size_alloc] at bB bV bL bP bC bA bO
  have hB0 : Below w.heap.size w (((((((w.alloc (.cells #[.int .i64 base] 3)).alloc (.cells #[.int .i64 every] 3)).alloc (.cells #[.slice none 0 0] 29)).alloc (.cells #[.int .i64 0] 3)).alloc (.cells #[.string s] 9)).alloc (.cells #[.int .i64 0] 3)).alloc (.cells #[.int .i64 base] 3)) := ((((((((Below.refl _ w).alloc (by simp <;> omega) (.cells #[.int .i64 base] 3)).alloc (by simp <;> omega) (.cells #[.int .i64 every] 3)).alloc (by simp <;> omega) (.cells #[.slice none 0 0] 29)).alloc (by simp <;> omega) (.cells #[.int .i64 0] 3)).alloc (by simp <;> omega) (.cells #[.string s] 9)).alloc (by simp <;> omega) (.cells #[.int .i64 0] 3)).alloc (by simp <;> omega) (.cells #[.int .i64 base] 3))
  have hsz : (((((((w.alloc (.cells #[.int .i64 base] 3)).alloc (.cells #[.int .i64 every] 3)).alloc (.cells #[.slice none 0 0] 29)).alloc (.cells #[.int .i64 0] 3)).alloc (.cells #[.string s] 9)).alloc (.cells #[.int .i64 0] 3)).alloc (.cells #[.int .i64 base] 3)).heap.size = w.heap.size + 7 := by simp
  obtain ⟨W0, hW0⟩ : ∃ W0, (((((((w.alloc (.cells #[.int .i64 base] 3)).alloc (.cells #[.int .i64 every] 3)).alloc (.cells #[.slice none 0 0] 29)).alloc (.cells #[.int .i64 0] 3)).alloc (.cells #[.string s] 9)).alloc (.cells #[.int .i64 0] 3)).alloc (.cells #[.int .i64 base] 3)) = W0 := ⟨_, rfl⟩
  rw [hW0] at bB bV bL bP bC bA bO hB0 hsz ⊢
  clear hW0
  refine wpIn_rangeFunc_ownH (F := Fence.wide) rfl (by decide) (gf := 26) (lb := #[.pointer (some ⟨w.heap.size + 1 + 1 + 1 + 1 + 1, 0, none⟩), .pointer (some ⟨w.heap.size + 1 + 1 + 1 + 1 + 2, 0, none⟩), .pointer (some ⟨w.heap.size + 1 + 1 + 1 + 1, 0, none⟩)]) rfl trivial (enters_of Try.func26 (by kernel_rfl) rfl)
    (iter9_stops s base 0 (w.heap.size + 1 + 1 + 1 + 1 + 1) (w.heap.size + 1 + 1 + 1 + 1 + 2) (w.heap.size + 1 + 1 + 1 + 1) 5 9 (by decide) (by omega) hb0 hb1 (Nat.zero_le _) W0 (by omega) (by omega) (by omega) bA.cell bO.cell bC)
    (fun h k => kpC_t h k) (kpC_b (by omega)) (Below.refl _ _) (fun _ => rfl)
    (fun (pre : List (It base)) W => ((∃ v, Boxed W (w.heap.size + 1 + 1) 29 v ∧ W.ownsRow w.heap.size 58 2 v (mkSt base every pre).1.length (ML.vals (mkSt base every pre).1) ∧ True) ∧ ((Boxed W (w.heap.size + 1 + 1 + 1) 3 (.int .i64 ((mkSt base every pre).2 : Nat)) ∧ Boxed W w.heap.size 3 (.int .i64 base)) ∧ (Boxed W (w.heap.size + 1) 3 (.int .i64 every) ∧ Boxed W (w.heap.size + 1 + 1 + 1 + 1) 9 (.string s)))) ∧ Below w.heap.size w W)
    (fun _ _ _ => False)
    (OwnFrom.and (OwnFrom.and (Own.from (holdsRow_own w.heap.size (w.heap.size + 1 + 1) 29 58 2 (fun (pre : List (It base)) => (mkSt base every pre).1.length) (fun pre => ML.vals (mkSt base every pre).1) (fun _ _ => True)) _) (OwnFrom.and (OwnFrom.and (Own.from (boxed_own _ _ (fun (pre : List (It base)) => .int .i64 ((mkSt base every pre).2 : Nat))) _) (Own.from (boxed_own _ _ _) _)) (OwnFrom.and (Own.from (boxed_own _ _ _) _) (Own.from (boxed_own _ _ _) _)))) (ownFrom_below (Nat.le_refl _) (by omega)))
    (fun _ _ _ _ _ hs _ _ => hs)
    ⟨⟨⟨_, bL, World.ownsRow_nil _ _ _ _, trivial⟩, ⟨bP, bB⟩, bV, bC⟩, hB0⟩
    (fun x a' W => ∃ Bx, w.heap.size + 4 < Bx ∧ W.heap[Bx]? = some (.cells #[.int .i64 x.1.1.a, .int .i64 x.1.1.t, .string x.1.1.d] 35 (0, 0)) ∧ a' = { defers := [], tmps := #[Value.string s, Value.int IntKind.i64 base, Value.int IntKind.i64 every, undef, Value.pointer (some { block := w.heap.size, off := 0 }), Value.pointer (some { block := w.heap.size + 1, off := 0 }), Value.slice none 0 0, Value.pointer (some { block := w.heap.size + 1 + 1, off := 0 }), Value.pointer (some { block := w.heap.size + 1 + 1 + 1, off := 0 }), Value.pointer (some ⟨Bx, 0, none⟩), Value.int IntKind.i64 (x.1.2 : Int), Value.int IntKind.i64 base, Value.bool true, Value.bool false, Value.string s, Value.int IntKind.i64 base, Value.func (Fn.func 26) #[] #[Value.pointer (some { block := w.heap.size + 1 + 1 + 1 + 1 + 1, off := 0 }), Value.pointer (some { block := w.heap.size + 1 + 1 + 1 + 1 + 2, off := 0 }), Value.pointer (some { block := w.heap.size + 1 + 1 + 1 + 1, off := 0 })], .agg #[.int .i64 x.1.1.a, .int .i64 x.1.1.t, .string x.1.1.d], Value.int IntKind.i64 (x.1.2 : Int), undef, undef, undef, undef, undef, undef, undef, undef, undef, undef, undef] })
    (fun x a' _ X Y row hs hg hr => by obtain ⟨Bx, h1, h2, h3⟩ := hs; exact ⟨Bx, h1, row_kept h2 hg (fun r e => (hr r e).2), h3⟩)
    ?assign ?body ?done ?stop
  case assign =>
    rintro l pre ⟨⟨⟨ra, rt, rd⟩, q⟩, hx⟩ W K ⟨⟨⟨v, bL1, hO, _⟩, ⟨bP1, bB1⟩, bV1, bC1⟩, hB1⟩ hK
    have hK := Lib.hid (fun a' h => hK a' _ ((KeepsOthers.alloc W (.cells #[.int .i64 ra, .int .i64 rt, .string rd] 35)).from _) (kpC_below ((Below.refl _ W).alloc (Nat.le_refl _) _)) ⟨⟨⟨v, bL1.alloc _, hO.alloc _, trivial⟩, ⟨bP1.alloc _, bB1.alloc _⟩, bV1.alloc _, bC1.alloc _⟩, hB1.alloc hB1.size _⟩ ⟨W.heap.size, by have := bC1.lt; omega, heap_alloc_new W _, h⟩)
    unfold itVals
    dsimp only
    gi_wp2
    exact hK.out _ rfl
  case body =>
    rintro l pre ⟨⟨⟨ra, rt, rd⟩, q⟩, hx⟩ a' W hl hr ⟨⟨⟨v, bL1, hO, _⟩, ⟨bP1, bB1⟩, bV1, bC1⟩, hB1⟩ ⟨Bx, hBx, gX, rfl⟩ hlt
    have hra : base ≤ ra := hx.2.2
    have hra2 : ra ≤ 1099511627776 := hx.1.2.1
    obtain ⟨x, hxe⟩ : ∃ x : It base, x = ⟨⟨⟨ra, rt, rd⟩, q⟩, hx⟩ := ⟨_, rfl⟩
    have hml := mkSt_len base every pre
    have HM := Lib.hid (show mkSt base every (pre ++ [x]) = ((mkSt base every pre).1 ++ Mp.add [] base every ⟨ra, (mkSt base every pre).2⟩, q) by rw [mkSt_snoc, add_split, hxe])
    have hm1 := add_one base every ⟨ra, (mkSt base every pre).2⟩
    have AD := fun W1 : World => add08_any (.slice none 0 0) [] base every ⟨ra, (mkSt base every pre).2⟩ W1 (IsL.nil W1 none 0) (fun _ _ h => by cases h; rfl) (fun _ _ _ h => by cases h; exact Nat.le_refl 0) (by simp) hb0 hra h3 (by show ra ≤ _; omega) h4
    generalize (mkSt base every pre).1 = ms at *
    generalize (mkSt base every pre).2 = pa at *
    generalize Mp.add [] base every ⟨ra, pa⟩ = nw at *
    unfold mkVal at AD
    dsimp only at AD
    replace AD := Lib.hid AD
    have HS := Lib.hid (show S9 w.heap.size Bx base every ra rt pa rd s W from ⟨bB1, bV1, gX, bP1, bC1⟩)
    have HOL := Lib.hid (show OwnL ML W w.heap.size v ms from hO)
    have HBL := Lib.hid bL1
    have HB := Lib.hid hB1
    have hs1 := hB1.size
    have hb2 : w.heap.size + 1 + 1 < W.heap.size := bL1.lt
    have hmsl : ms.length ≤ 1000000001 := by omega
    -- what the region comes to, once the call has come back
    have APP := Lib.hid fun (W2 : World) (v2 : Value) (b2 : Below W.heap.size W W2) (h : AddOut W.drew (.slice none 0 0) [] nw (.returned v2) W2) => app9 (W := W2) (v := v) (v2 := v2) (B := w.heap.size) (B2 := W.heap.size) (l := ms) (l2 := nw) 29 (HOL.out.keep b2) (by
      obtain ⟨v3, e3, _, h3⟩ := h
      cases e3
      exact h3) (Nat.le_trans hs1 b2.size) hmsl hm1
    have FIN := Lib.hid fun (W2 W3 : World) (v' : Value) (b2 : Below W.heap.size W W2) (ho : OwnL ML W3 w.heap.size v' (ms ++ nw)) (hg : W2.grownBy W3 v.ownBlock) => (show S9 w.heap.size Bx base every ra rt pa rd s W3 ∧ Boxed W3 (w.heap.size + 1 + 1) 29 v ∧ (S9 w.heap.size Bx base every ra rt pa rd s (W3.setCell ⟨w.heap.size + 1 + 1, 0, none⟩ v') ∧ Boxed (W3.setCell ⟨w.heap.size + 1 + 1, 0, none⟩ v') (w.heap.size + 1 + 1) 29 v' ∧ OwnL ML (W3.setCell ⟨w.heap.size + 1 + 1, 0, none⟩ v') w.heap.size v' (ms ++ nw) ∧ KeepsOthers W (W3.setCell ⟨w.heap.size + 1 + 1, 0, none⟩ v') ∧ Below w.heap.size w (W3.setCell ⟨w.heap.size + 1 + 1, 0, none⟩ v')) from by
      have hO2 := HOL.out.keep b2
      have bL2 : Boxed W2 (w.heap.size + 1 + 1) 29 v := (b2.block _ hb2).trans HBL.out
      have hS3 := (HS.out.below b2).grown hO2 hg
      have bL3 := bL2.kept hg (bL2.not_row (by decide) hO2)
      refine ⟨hS3, bL3, hS3.set (by omega) _, bL3.set _, World.ownsRow.kept ho (grownBy_setCell' W3 _ v') (.inr (bL3.not_row (by decide) ho).symm), ?_, ?_⟩
      · refine ((ko_below b2).trans (KeepsOthers.of_grownBy hg fun j o ej hj => ?_)).trans (KeepsOthers.setCell _ _ _)
        rcases hO2.2 with ⟨rfl, _⟩ | ⟨g, cap, cur, rfl, _, hgb, _⟩
        · simp [Value.ownBlock] at ej
        · obtain rfl : g = j := by simpa [Value.ownBlock] using ej
          rw [hgb] at hj; cases hj; rfl
      · exact ((HB.out.trans (b2.mono hs1)).grown hg (Nat.le_trans hs1 b2.size) (fun k hk => (hO2.lt k hk).1)).setCell (p := ⟨w.heap.size + 1 + 1, 0, none⟩) (by simp; omega) _)
    clear hO bL1 bP1 bB1 bV1 bC1 hB1 gX
    obtain ⟨va, vc, rfl⟩ := own_slice HOL.out
    obtain ⟨R, hR⟩ : ∃ R : Act → World → Prop, R = (fun a'' W' => ∃ x19 x20 x21 x22 x23 x24 x25 x26 x27 v', a'' = { defers := [], tmps := #[Value.string s, Value.int IntKind.i64 base, Value.int IntKind.i64 every, undef, Value.pointer (some { block := w.heap.size, off := 0 }), Value.pointer (some { block := w.heap.size + 1, off := 0 }), Value.slice none 0 0, Value.pointer (some { block := w.heap.size + 1 + 1, off := 0 }), Value.pointer (some { block := w.heap.size + 1 + 1 + 1, off := 0 }), Value.pointer (some ⟨Bx, 0, none⟩), Value.int IntKind.i64 (q : Int), Value.int IntKind.i64 base, Value.bool true, Value.bool false, Value.string s, Value.int IntKind.i64 base, Value.func (Fn.func 26) #[] #[Value.pointer (some { block := w.heap.size + 1 + 1 + 1 + 1 + 1, off := 0 }), Value.pointer (some { block := w.heap.size + 1 + 1 + 1 + 1 + 2, off := 0 }), Value.pointer (some { block := w.heap.size + 1 + 1 + 1 + 1, off := 0 })], .agg #[.int .i64 ra, .int .i64 rt, .string rd], Value.int IntKind.i64 (q : Int), x19, x20, x21, x22, x23, x24, x25, x26, x27, undef, undef] } ∧ S9 w.heap.size Bx base every ra rt pa rd s W' ∧ Boxed W' (w.heap.size + 1 + 1) 29 v' ∧ OwnL ML W' w.heap.size v' (ms ++ nw) ∧ KeepsOthers W W' ∧ Below w.heap.size w W') := ⟨_, rfl⟩
    have HR := Lib.hid (show ∀ x19 x20 x21 x22 x23 x24 x25 x26 x27 v' W', S9 w.heap.size Bx base every ra rt pa rd s W' ∧ Boxed W' (w.heap.size + 1 + 1) 29 v' ∧ OwnL ML W' w.heap.size v' (ms ++ nw) ∧ KeepsOthers W W' ∧ Below w.heap.size w W' → R { defers := [], tmps := #[Value.string s, Value.int IntKind.i64 base, Value.int IntKind.i64 every, undef, Value.pointer (some { block := w.heap.size, off := 0 }), Value.pointer (some { block := w.heap.size + 1, off := 0 }), Value.slice none 0 0, Value.pointer (some { block := w.heap.size + 1 + 1, off := 0 }), Value.pointer (some { block := w.heap.size + 1 + 1 + 1, off := 0 }), Value.pointer (some ⟨Bx, 0, none⟩), Value.int IntKind.i64 (q : Int), Value.int IntKind.i64 base, Value.bool true, Value.bool false, Value.string s, Value.int IntKind.i64 base, Value.func (Fn.func 26) #[] #[Value.pointer (some { block := w.heap.size + 1 + 1 + 1 + 1 + 1, off := 0 }), Value.pointer (some { block := w.heap.size + 1 + 1 + 1 + 1 + 2, off := 0 }), Value.pointer (some { block := w.heap.size + 1 + 1 + 1 + 1, off := 0 })], .agg #[.int .i64 ra, .int .i64 rt, .string rd], Value.int IntKind.i64 (q : Int), x19, x20, x21, x22, x23, x24, x25, x26, x27, undef, undef] } W' from fun x19 x20 x21 x22 x23 x24 x25 x26 x27 v' W' h => by rw [hR]; exact ⟨x19, x20, x21, x22, x23, x24, x25, x26, x27, v', rfl, h⟩)
    refine block_two R ?_ ?_
    · clear hR
      have h0 : S9 w.heap.size Bx base every ra rt pa rd s W.drew := HS.out
      refine region_round (by kernel_rfl) (by kernel_rfl) not_out (S9 w.heap.size Bx base every ra rt pa rd s) 10 rfl #[false, false, false, false, false, false, false, false, false, false] rfl ?_
      refine wpAnyH_take (i := 1) (v := .int .i64 base) rfl (by kernel_rfl) (by kernel_rfl) (by kernel_rfl) (fun _ _ _ h => by cases h.1) (Or.inl ⟨by rfl, fun W' hS => ?_⟩) h0 ?_
      · have c := Boxed.cell hS.1
        go_simp
      simp only [Act.put, List.setIfInBounds_toArray, List.set_cons_zero, List.set_cons_succ]
      refine wpAnyH_take (i := 2) (v := .int .i64 every) rfl (by kernel_rfl) (by kernel_rfl) (by kernel_rfl) (fun _ _ _ h => by cases h.1) (Or.inl ⟨by rfl, fun W' hS => ?_⟩) h0 ?_
      · have c := Boxed.cell hS.2.1
        go_simp
      simp only [Act.put, List.setIfInBounds_toArray, List.set_cons_zero, List.set_cons_succ]
      refine wpAnyH_take (i := 3) (v := .pointer (some ⟨Bx, 0, none⟩)) rfl (by kernel_rfl) (by kernel_rfl) (by kernel_rfl) (fun _ _ _ h => by cases h.1) (Or.inl ⟨by rfl, fun W' hS => ?_⟩) h0 ?_
      · obtain ⟨c, _, _⟩ := cells3 hS.2.2.1
        go_simp
      simp only [Act.put, List.setIfInBounds_toArray, List.set_cons_zero, List.set_cons_succ]
      refine wpAnyH_take (i := 4) (v := .int .i64 ra) rfl (by kernel_rfl) (by kernel_rfl) (by kernel_rfl) (fun _ _ _ h => by cases h.1) (Or.inl ⟨by rfl, fun W' hS => ?_⟩) h0 ?_
      · obtain ⟨c, _, _⟩ := cells3 hS.2.2.1
        go_simp
      simp only [Act.put, List.setIfInBounds_toArray, List.set_cons_zero, List.set_cons_succ]
      refine wpAnyH_take (i := 5) (v := .int .i64 (pa : Int)) rfl (by kernel_rfl) (by kernel_rfl) (by kernel_rfl) (fun _ _ _ h => by cases h.1) (Or.inl ⟨by rfl, fun W' hS => ?_⟩) h0 ?_
      · have c := Boxed.cell hS.2.2.2.1
        go_simp
      simp only [Act.put, List.setIfInBounds_toArray, List.set_cons_zero, List.set_cons_succ]
      refine wpAnyH_take (i := 6) (v := .agg #[.int .i64 ra, .int .i64 (pa : Int)]) rfl (by kernel_rfl) (by kernel_rfl) (by kernel_rfl) (fun _ _ _ h => by cases h.1) (Or.inl ⟨by rfl, fun W' hS => ?_⟩) h0 ?_
      · go_simp
      simp only [Act.put, List.setIfInBounds_toArray, List.set_cons_zero, List.set_cons_succ]
      refine wpAnyH_ready (rs := [0, 7]) (by kernel_rfl) (by simp) (AllReadyH.cons rfl (fun K hK => ?_) (AllReadyH.cons rfl (fun K hK => ?_) AllReadyH.nil))
      · have c := HBL.out.cell
        go_simp
        refine hK.out _ _ h0 (fun _ => ?_)
        clear hK K
        refine wpAnyH_ready (rs := [7]) (by kernel_rfl) (by simp) (AllReadyH.cons rfl (fun K hK => ?_) AllReadyH.nil)
        go_simp
        refine (AD.out _).mono ?_
        rintro e W2 ⟨v2, rfl, b2, hcase⟩
        have b2' : Below W.heap.size W W2 := (Below.refl _ W).drew.trans b2
        dsimp only
        refine hK.out _ _ (HS.out.below b2') (fun _ => ?_)
        clear hK K
        refine wpAnyH_ready (rs := [8]) (by kernel_rfl) (by simp) (AllReadyH.cons rfl (fun K hK => ?_) AllReadyH.nil)
        refine step_append_run rfl (.tmp 19) (.tmp 26) 29 rfl (.slice va ms.length vc) v2 (by simp [Act.eval]) (by simp [Act.eval]) _ (APP.out W2 v2 b2' ⟨v2, rfl, b2, hcase⟩) ?_
        rintro v' W3 ⟨ho, hg⟩
        obtain ⟨hS3, bL3, hF⟩ := FIN.out W2 W3 v' b2' ho hg
        refine hK.out _ _ hS3 (fun _ => ?_)
        clear hK K
        obtain ⟨va', vc', hv'⟩ := own_slice ho
        obtain ⟨ln, hln⟩ : ∃ ln, (ms ++ nw).length = ln := ⟨_, rfl⟩
        rw [hln] at hv'
        clear hln
        subst hv'
        simp only [Act.put, List.setIfInBounds_toArray, List.set_cons_zero, List.set_cons_succ]
        refine wpAnyH_ready (rs := [9]) (by kernel_rfl) (by simp) (AllReadyH.cons rfl (fun K hK => ?_) AllReadyH.nil)
        have c3 := bL3.cell
        have f3 := bL3.frozen
        go_simp
        refine hK.out _ _ hF.1 (fun _ => ?_)
        refine wpAnyH_done (by kernel_rfl) ⟨rfl, ?_⟩ _
        exact HR.out _ _ _ _ _ _ _ _ _ _ _ hF
      · go_simp
        refine (AD.out _).mono ?_
        rintro e W2 ⟨v2, rfl, b2, hcase⟩
        have b2' : Below W.heap.size W W2 := (Below.refl _ W).drew.trans b2
        dsimp only
        refine hK.out _ _ (HS.out.below b2') (fun _ => ?_)
        clear hK K
        refine wpAnyH_ready (rs := [0]) (by kernel_rfl) (by simp) (AllReadyH.cons rfl (fun K hK => ?_) AllReadyH.nil)
        have c := Boxed.cell ((b2'.block _ hb2).trans HBL.out)
        go_simp
        refine hK.out _ _ (HS.out.below b2') (fun _ => ?_)
        clear hK K
        refine wpAnyH_ready (rs := [8]) (by kernel_rfl) (by simp) (AllReadyH.cons rfl (fun K hK => ?_) AllReadyH.nil)
        refine step_append_run rfl (.tmp 19) (.tmp 26) 29 rfl (.slice va ms.length vc) v2 (by simp [Act.eval]) (by simp [Act.eval]) _ (APP.out W2 v2 b2' ⟨v2, rfl, b2, hcase⟩) ?_
        rintro v' W3 ⟨ho, hg⟩
        obtain ⟨hS3, bL3, hF⟩ := FIN.out W2 W3 v' b2' ho hg
        refine hK.out _ _ hS3 (fun _ => ?_)
        clear hK K
        obtain ⟨va', vc', hv'⟩ := own_slice ho
        obtain ⟨ln, hln⟩ : ∃ ln, (ms ++ nw).length = ln := ⟨_, rfl⟩
        rw [hln] at hv'
        clear hln
        subst hv'
        simp only [Act.put, List.setIfInBounds_toArray, List.set_cons_zero, List.set_cons_succ]
        refine wpAnyH_ready (rs := [9]) (by kernel_rfl) (by simp) (AllReadyH.cons rfl (fun K hK => ?_) AllReadyH.nil)
        have c3 := bL3.cell
        have f3 := bL3.frozen
        go_simp
        refine hK.out _ _ hF.1 (fun _ => ?_)
        refine wpAnyH_done (by kernel_rfl) ⟨rfl, ?_⟩ _
        exact HR.out _ _ _ _ _ _ _ _ _ _ _ hF
    · rintro a1 W1 hR1
      rw [hR] at hR1
      obtain ⟨x19, x20, x21, x22, x23, x24, x25, x26, x27, v', rfl, hS, bL4, ho, hko, hb⟩ := hR1
      clear hR HR
      have cP := hS.2.2.2.1.cell
      have fP := hS.2.2.2.1.frozen
      have HS1 := Lib.hid hS
      have HBL1 := Lib.hid bL4
      have HO1 := Lib.hid ho
      have HKO := Lib.hid hko
      have HB1 := Lib.hid hb
      clear hS bL4 ho hko hb
      subst hxe
      gi_wp2
      obtain ⟨h1, h2, h3, h4, h5⟩ := HS1.out
      have h5' := h5.other (show w.heap.size + 1 + 1 + 1 + 1 ≠ w.heap.size + 1 + 1 + 1 by omega) (.int .i64 (q : Int))
      refine ⟨(HKO.out.trans (KeepsOthers.setCell _ _ _)).from _, (fun o ho => by rw [show W.heap[_]? = _ from HS.out.2.2.2.2] at ho; cases ho; exact h5'), ?_⟩
      dsimp only
      rw [HM.out]
      exact ⟨⟨⟨v', HBL1.out.other (by omega) _, World.ownsRow.kept HO1.out (grownBy_setCell' W1 _ _) (.inr (h4.not_row (by decide) HO1.out).symm)⟩, ⟨h4.set _, h1.other (by omega) _⟩, h2.other (by omega) _, h5'⟩, HB1.out.setCell (p := ⟨w.heap.size + 1 + 1 + 1, 0, none⟩) (by simp; omega) _⟩
  case done =>
    rintro D ys W hD ⟨ps, k, e, hF, hG, hZ, _⟩ ⟨⟨⟨v, bL1, hO, _⟩, _⟩, hB1⟩ hK
    rw [hZ.marks] at hO
    dsimp only at hO
    have HF := Lib.hid (HFU.out.trans hF)
    have cL := bL1.cell
    have HO := Lib.hid hO
    have HB := Lib.hid hB1
    have hs1 := hB1.size
    have HK := Lib.hid hK
    clear hF hG hZ hO hB1 hK bL1
    gi_wp2
    refine ⟨by simp, .inl ⟨_, _, rfl, run_takeDeferred HK.out, ?_⟩⟩
    refine ⟨_, results_tmp rfl _ _ _, ?_⟩
    rw [HF.out]
    exact ⟨v, rfl, ownsRow_putObj HO.out _ HK.out rfl, HB.out.trans (belowK_b (w := w) (Nat.le_refl _) W D _ _ (by omega) HK.out rfl rfl)⟩
  case stop =>
    rintro D c pre W _ _ h _
    exact h.elim

set_option maxRecDepth 100000 in
theorem index9_bad (s : ByteArray) (base every : Int) (w : World) (h : base < 0 ∨ 1099511627776 < base) :
    Calls Try.prog 12 #[.string s, .int .i64 base, .int .i64 every] w (OutL ML w w.heap.size []) := by
  have M := Lib.hid fun W : World => maybe9_any base W
  rw [Rp.inB_no h] at M
  have HB := Lib.hid (((Below.refl w.heap.size w).alloc (Nat.le_refl _) (.cells #[.int .i64 base] 3)).alloc (by simp) (.cells #[.int .i64 every] 3))
  go_enter Try.func12, Try.ntmps12
  go_wp2_with fail
  refine (M.out _).mono ?_
  rintro e w1 ⟨rfl, rfl⟩
  go_wp2_with fail
  go_ret
  exact ⟨.slice none 0 0, rfl, OwnL.nil _ _, HB.out⟩

theorem index9_out (s : ByteArray) (base every : Int) (w : World) (hs : s.size ≤ 1000000000) (h3 : 1 ≤ every) (h4 : every ≤ 9223372036854775807) :
    Calls Try.prog 12 #[.string s, .int .i64 base, .int .i64 every] w (OutL ML w w.heap.size (Gp.ix (Gp.full s.data.toList base).1 base every (Gp.full s.data.toList base).1.length)) := by
  by_cases h : base < 0 ∨ 1099511627776 < base
  · rw [Gp.full_out (Rp.inB_no h)]
    exact index9_bad s base every w h
  · exact index9_in s base every w hs (by omega) (by omega) h3 h4

theorem index9_any (s : ByteArray) (base every : Int) (w : World) (hs0 : s.size ≤ 1000000000) (_ : -9223372036854775808 ≤ base) (_ : base ≤ 9223372036854775807) (h3 : 1 ≤ every) (h4 : every ≤ 9223372036854775807) :
    Calls Try.prog 12 #[.string s, .int .i64 base, .int .i64 every] w (IdxOut w (Gp.ix (Gp.full s.data.toList base).1 base every (Gp.full s.data.toList base).1.length)) := by
  refine (index9_out s base every w hs0 h3 h4).mono ?_
  rintro e w' ⟨v, rfl, ho, hb⟩
  refine ⟨v, rfl, ho.is ?_ ?_, hb⟩
  · obtain ⟨ps, k, er, hF, hg, _, _, _⟩ := Gp.full_good s.data.toList base
    rw [hF]
    have := Gp.ix_len ps base every ps.length
    have := hg.few
    have := hg.le
    have : s.data.toList.length = s.size := rfl
    unfold maxLen
    show (Gp.ix ps base every ps.length).length ≤ _
    omega
  · obtain ⟨ps, k, er, hF, hg, hin, _, _⟩ := Gp.full_good s.data.toList base
    rw [hF]
    show ∀ m ∈ Gp.ix ps base every ps.length, MkB m
    by_cases h0 : ps = []
    · subst h0
      intro m hm
      obtain ⟨i, hi, _⟩ := Gp.ix_mem hm
      simp at hi
    · have hi := Rp.inB_yes (hin h0)
      have := hg.le
      have : s.data.toList.length = s.size := rfl
      exact ix_ok hg hi.1 hi.2 (by omega) (Nat.le_refl _)

end Go.Proofs.Ytfodcgipdhppmaa
