/-
  What the program's Right, Add and Find answer.
-/
import Derived.Test.YtfodcgipdhppmaaMarkAdd
import Derived.Deep.RegionLaw
import Derived.BigQuiet
import Derived.Lib.SliceRun
import Derived.Shelf.RegionOpenPlain
namespace Go.Proofs.Ytfodcgipdhppmaa.Mks
open Go.RowKit Go.Proofs.Ytfodcgipdhppmaa.Mp

/-- A block of two cells stays; it is written. -/
theorem hkeep2 {W W' : World} {k : Nat} {o : Obj} (h : W.heap[k]? = some o) (b : Below W.heap.size W W') : W'.heap[k]? = some o := (b.block k (Array.getElem?_eq_some_iff.1 h).1).trans h
def set2 (W : World) (k : Nat) (x y : Value) : World := (W.setCell ⟨k, 0, none⟩ x).setCell ⟨k, 1, none⟩ y
theorem heap_set2 {W : World} {k : Nat} {T : TypeId} {a b : Value} (h : W.heap[k]? = some (.cells #[a, b] T (0, 0))) (x y : Value) : (set2 W k x y).heap[k]? = some (.cells #[x, y] T (0, 0)) :=
  heap_setCell_same _ _ 1 _ _ y (heap_setCell_same _ _ 0 _ _ x h)
theorem bel_set2 {base k : Nat} {w W : World} (h : Below base w W) (hk : base ≤ k) (x y : Value) : Below base w (set2 W k x y) :=
  (h.setCell (p := ⟨k, 0, none⟩) hk x).setCell (p := ⟨k, 1, none⟩) hk y
theorem cells2 {W : World} {k : Nat} {T : TypeId} {x y : Value} (h : W.heap[k]? = some (.cells #[x, y] T (0, 0))) : W.cell? ⟨k, 0, none⟩ = some x ∧ W.cell? ⟨k, 1, none⟩ = some y :=
  ⟨by rw [cell_of_row _ _ 0 _ _ _ h]; rfl, by rw [cell_of_row _ _ 1 _ _ _ h]; rfl⟩

/-- The mark ahead of the k-th one; ahead of the first one one below nought. -/
def ahead (l : List Mk) (k : Nat) : Mk := match k with | 0 => ⟨-1, -1⟩ | j + 1 => l.getD j zero
theorem ahead_cases {l : List Mk} {k : Nat} (h : ∀ j, j < k → AtOk l j) :
    (¬ AtOk l k ∧ (l.getD k zero).o ≤ (ahead l k).o) ∨ (¬ AtOk l k ∧ (ahead l k).o < (l.getD k zero).o ∧ (l.getD k zero).p ≤ (ahead l k).p) ∨
    (AtOk l k ∧ (ahead l k).o < (l.getD k zero).o ∧ (ahead l k).p < (l.getD k zero).p) := by
  cases k with
  | zero =>
    show (_ ∧ _ ≤ (-1 : Int)) ∨ (_ ∧ (-1 : Int) < _ ∧ _ ≤ (-1 : Int)) ∨ (_ ∧ (-1 : Int) < _ ∧ (-1 : Int) < _)
    by_cases h1 : (l.getD 0 zero).o ≤ -1
    · exact .inl ⟨fun h => by have := h.1; omega, h1⟩
    · by_cases h2 : (l.getD 0 zero).p ≤ -1
      · exact .inr (.inl ⟨fun h => by have := h.2.1; omega, by omega, h2⟩)
      · exact .inr (.inr ⟨⟨by omega, by omega, fun h => absurd h (Nat.lt_irrefl 0)⟩, by omega, by omega⟩)
  | succ j =>
    show (_ ∧ _ ≤ (l.getD j zero).o) ∨ (_ ∧ (l.getD j zero).o < _ ∧ _ ≤ (l.getD j zero).p) ∨ (_ ∧ (l.getD j zero).o < _ ∧ (l.getD j zero).p < _)
    obtain ⟨j1, j2, _⟩ := h j (Nat.lt_succ_self j)
    by_cases h1 : (l.getD (j + 1) zero).o ≤ (l.getD j zero).o
    · exact .inl ⟨fun h => by have := (h.2.2 (by omega)).1; rw [Nat.add_sub_cancel] at this; omega, h1⟩
    · by_cases h2 : (l.getD (j + 1) zero).p ≤ (l.getD j zero).p
      · exact .inr (.inl ⟨fun h => by have := (h.2.2 (by omega)).2; rw [Nat.add_sub_cancel] at this; omega, by omega, h2⟩)
      · exact .inr (.inr ⟨⟨by omega, by omega, fun _ => by rw [Nat.add_sub_cancel]; exact ⟨by omega, by omega⟩⟩, by omega, by omega⟩)


set_option maxRecDepth 100000 in
set_option maxHeartbeats 3200000 in
theorem upto_any (v : Value) (l : List Mk) (off : Int) (n : Nat) (w : World) (hv : IsL ML w v l) (hn : Split l off n) :
    Calls Try.prog 32 #[v, .int .i64 off] w fun e w' => e = .returned (.int .i64 n) ∧ w = w' := by
  obtain ⟨fa, fn, fc, rfl⟩ : ∃ a n c, v = .slice a n c := by obtain ⟨a, c, h, _⟩ := hv; exact ⟨a, _, c, h⟩
  have HV := Lib.hid hv
  have hfl := hv.len.1
  have hl := hv.len.2
  unfold maxLen at hl
  have hl2 : fn ≤ 9223372036854775807 := by omega
  clear hl
  obtain ⟨n1, n2, n3⟩ := hn
  rw [← hfl] at n1 n3
  have HLO := Lib.hid (show ∀ k, k < fn → (l.getD k zero).o ≤ off → k < n from fun k hk h => by
    rcases Nat.lt_or_ge k n with h1 | h1
    · exact h1
    · have := n3 k h1 hk; omega)
  have HHI := Lib.hid (show ∀ k, k < fn → ¬ (l.getD k zero).o ≤ off → n ≤ k from fun k hk h => by
    rcases Nat.lt_or_ge k n with h1 | h1
    · exact absurd (n2 k h1) h
    · exact h1)
  clear hv hfl n2 n3
  go_enter Try.func32, Try.ntmps32
  go_wp2_with fail
  go_loop [5, 6] (fun x y => ∃ a b : Nat, a ≤ n ∧ n ≤ b ∧ b ≤ fn ∧ x = .int .i64 a ∧ y = .int .i64 b) (fun x y => (intOf y).toNat - (intOf x).toNat)
  case atStart => exact ⟨0, fn, Nat.zero_le _, n1, Nat.le_refl _, rfl, rfl⟩
  case round =>
    obtain ⟨a, b, ha, hb, hbf, rfl, rfl⟩ := hrel
    by_cases hlt : a < b
    · obtain ⟨m, hm⟩ : ∃ m, a + (b - a) / 2 = m := ⟨_, rfl⟩
      have hq : ((b : Int) - (a : Int)).tdiv 2 = (((b - a) / 2 : Nat) : Int) := by
        rw [show (b : Int) - (a : Int) = ((b - a : Nat) : Int) from by omega]
        rfl
      obtain ⟨d, hd⟩ : ∃ d, (b - a) / 2 = d := ⟨_, rfl⟩
      have hdl : d ≤ b - a := by omega
      have hml : m < b := by omega
      have ham : a ≤ m := by omega
      rw [hd] at hm hq
      have hmm : (a : Int) + (d : Int) = (m : Int) := by omega
      have hmf : m < fn := by omega
      obtain ⟨g, o, rfl, c0, c1⟩ := mk_at HV.out hmf
      by_cases ho : (l.getD m zero).o ≤ off
      · have hmn := HLO.out m hmf ho
        generalize l.getD m zero = f at *
        clear hd hm
        go_wp2_with fail
        go_round
        case rel => exact ⟨m + 1, b, by clear hq; omega, hb, hbf, by go_num, rfl⟩
        case measure => clear hq; simp [intOf]; omega
      · have hmn := HHI.out m hmf (by omega)
        generalize l.getD m zero = f at *
        clear hd hm
        have e1 : decide (f.o ≤ off) = false := by simp; omega
        go_wp2_with fail
        go_round
        case rel => exact ⟨a, m, ha, hmn, by clear hq; omega, rfl, rfl⟩
        case measure => clear hq; simp [intOf]; omega
    · obtain rfl : a = n := by omega
      go_wp2_with fail
      go_ret
      exact ⟨rfl, rfl⟩

set_option maxHeartbeats 3200000 in
set_option maxRecDepth 100000 in
theorem find08_any (v : Value) (l : List Mk) (off : Int) (n : Nat) (w : World) (hv : IsL ML w v l) (hn : Split l off n) :
    Calls Try.prog 24 #[v, .int .i64 off] w fun e w' => e = .returned (fndVal l n) ∧ Below w.heap.size w w' := by
  have UP := Lib.hid fun (W : World) (h : Below w.heap.size w W) => upto_any v l off n W (hv.keep h) hn
  obtain ⟨fa, fn, fc, rfl⟩ : ∃ a n c, v = .slice a n c := by obtain ⟨a, c, h, _⟩ := hv; exact ⟨a, _, c, h⟩
  have HV := Lib.hid hv
  have hl := hv.len.2
  have hnl : n ≤ fn := by rw [hv.len.1]; exact hn.1
  unfold maxLen at hl
  have hl2 : fn ≤ 9223372036854775807 := by rw [hv.len.1]; omega
  have HA := Lib.hid ((Below.refl w.heap.size w).alloc (Nat.le_refl _) (.cells #[.int .i64 0, .int .i64 0] 58))
  have G0 := Lib.hid (heap_alloc_new w (.cells #[.int .i64 0, .int .i64 0] 58))
  clear hl hv hn
  cases n with
  | zero =>
    go_enter Try.func24, Try.ntmps24
    go_wp2_with fail
    refine (UP.out _ HA.out).mono ?_
    rintro e w1 ⟨rfl, rfl⟩
    generalize World.alloc w _ = w0 at HA G0 ⊢
    obtain ⟨f0, f1⟩ := frozen2 G0.out
    obtain ⟨z0, z1⟩ := cells2 G0.out
    go_wp2_with fail
    refine bodyPost_ret (v := .tuple #[.agg #[.int .i64 0, .int .i64 0], .bool false]) (by simp [results, Try.results24, go_sem, z0, z1]) rfl ?_
    exact ⟨rfl, bel_set2 HA.out (Nat.le_refl _) _ _⟩
  | succ j =>
    obtain ⟨b, o, rfl, c0, c1⟩ := mk_at (HV.out.keep HA.out) (show j < fn by omega)
    have HFV := Lib.hid (show fndVal l (j + 1) = .tuple #[.agg #[.int .i64 (l.getD j zero).o, .int .i64 (l.getD j zero).p], .bool true] from rfl)
    generalize fndVal l (j + 1) = V at *
    have hx0 : ((j + 1 : Nat) : Int) = (j : Int) + 1 := by omega
    have hx1 : (j : Int) + 1 - 1 = (j : Int) := by omega
    have hx2 : IntKind.i64.wrap (j : Int) = (j : Int) := IntWalk.i64_in _ ⟨by omega, by omega⟩
    have hx3 : ((j : Int) + 1 == 0) = false := by simp; omega
    have hjf : j < fn := by omega
    clear hnl
    generalize l.getD j zero = f at *
    go_enter Try.func24, Try.ntmps24
    go_wp2_with fail
    refine (UP.out _ HA.out).mono ?_
    rintro e w1 ⟨rfl, rfl⟩
    generalize World.alloc w _ = w0 at HA G0 c0 c1 ⊢
    obtain ⟨f0, f1⟩ := frozen2 G0.out
    obtain ⟨z0, z1⟩ := cells2 G0.out
    go_wp2_with fail
    refine bodyPost_ret (v := .tuple #[.agg #[.int .i64 f.o, .int .i64 f.p], .bool true]) (by simp [results, Try.results24, go_sem, z0, z1]) rfl ?_
    exact ⟨by rw [HFV.out], bel_set2 HA.out (Nat.le_refl _) _ _⟩

set_option maxHeartbeats 1600000 in
set_option maxRecDepth 100000 in
theorem kept_any (o base every : Int) (b : Bool) (w : World) (h0 : 0 ≤ base) (h1 : base ≤ o) (h2 : 1 ≤ every) (h3 : o ≤ 9223372036854775807) (h4 : every ≤ 9223372036854775807) (hb : b = decide ((o - base) % every = 0)) :
    Calls Try.prog 31 #[.int .i64 o, .int .i64 base, .int .i64 every] w fun e w' => e = .returned (.bool b) ∧ w = w' := by
  have hd1 : 0 ≤ o - base := by omega
  have hmod : (o - base).tmod every = (o - base) % every := Int.tmod_eq_emod_of_nonneg hd1
  have hz : ((o - base) % every == 0) = b := by rw [hb]; exact Bool.eq_iff_iff.2 (by simp)
  clear hb
  go_enter Try.func31, Try.ntmps31
  go_wp2_with fail
  go_ret
  exact ⟨rfl, rfl⟩

/-- 'append' to a slice without spare room: a row of its own. -/
theorem run_append_fresh {P : Program} (w : World) (t ty e : TypeId) (i : TypeInfo) (z : Value) (size bytes : Nat) (ht : P.underlying t = some (.slice e)) (hi : P.info? e = some i) (hz : i.zero = some z)
    (hsize : i.size = size) (hby : i.bytes = bytes) (hzs : z.cells.size = size)
    (x : Addr) (n k : Nat) (xs : List Value) (hlx : xs.length = n * size) (hxs : ∀ j u, xs[j]? = some u → w.cell? (x.add j) = some u)
    (a : Addr) (m c : Nat) (news : List Value) (hl : news.length = m * size) (hnews : ∀ j u, news[j]? = some u → w.cell? (a.add j) = some u)
    (hk : k < n + m) (h63 : n + m ≤ maxLen) (hbytes : (n + m) * bytes ≤ 140737488355328) :
    ∃ v' w', (Builtin.append_ #[t, t] ty #[.slice (some x) n k, .slice (some a) m c]).run P w = .ok v' w' ∧ w'.ownsRow w.heap.size e size v' (n + m) (xs ++ news) ∧ w.grownBy w' none := by
  subst hsize
  subst hby
  have hsmall : ((n + m : Nat) : Int) ≤ 9223372036854775807 := by simp only [maxLen] at h63; omega
  refine ⟨_, _, run_append_grow w t ty e i z ht hi hz x n k xs hlx hxs a m c news hl hnews hk hsmall (growslice_fits hk hbytes), ?_, ?_⟩
  · have hge := grownCap_ge w (n + m) k e
    refine ⟨by rw [List.length_append, hlx, hl, Nat.add_mul], .inr ⟨w.heap.size, _, _, rfl, Nat.le_refl _, heap_alloc_new w.drew _, hge, grownCap_le_maxLen w (n + m) k e h63, ?_, ?_⟩⟩
    · simp only [Array.size_append, List.size_toArray, size_zeroCells, hzs, hlx, hl, ← Nat.add_mul]
      congr 1
      omega
    · simp only [Array.toList_append, List.append_assoc]
      rw [← List.append_assoc, List.take_append_of_le_length (by rw [List.length_append, hlx, hl, Nat.add_mul]; exact Nat.le_refl _), List.take_of_length_le (by rw [List.length_append, hlx, hl, Nat.add_mul]; exact Nat.le_refl _)]
  · exact ⟨rfl, rfl, rfl, by simp, fun q hq hn => (World.grownBy_alloc w.drew _ none).block q hq hn⟩
theorem run_append_none {P : Program} (w : World) (t ty e : TypeId) (i : TypeInfo) (z : Value) (size bytes : Nat) (ht : P.underlying t = some (.slice e)) (hi : P.info? e = some i) (hz : i.zero = some z)
    (hsize : i.size = size) (hby : i.bytes = bytes) (hzs : z.cells.size = size)
    (a : Addr) (m c : Nat) (news : List Value) (hl : news.length = m * size) (hnews : ∀ j u, news[j]? = some u → w.cell? (a.add j) = some u)
    (h0 : 0 < m) (h63 : m ≤ maxLen) (hbytes : m * bytes ≤ 140737488355328) :
    ∃ v' w', (Builtin.append_ #[t, t] ty #[.slice none 0 0, .slice (some a) m c]).run P w = .ok v' w' ∧ w'.ownsRow w.heap.size e size v' m news ∧ w.grownBy w' none := by
  subst hsize
  subst hby
  refine ⟨_, _, run_append_nil w t ty e i z ht hi hz a m c news hl hnews h0 (by simp only [maxLen] at h63; omega) (by omega), ?_, ?_⟩
  · have hge := grownCap_ge w m 0 e
    refine ⟨hl, .inr ⟨w.heap.size, _, _, rfl, Nat.le_refl _, heap_alloc_new w.drew _, hge, grownCap_le_maxLen w m 0 e h63, ?_, ?_⟩⟩
    · simp only [Array.size_append, List.size_toArray, size_zeroCells, hzs, hl, ← Nat.add_mul]
      congr 1
      omega
    · simp only [Array.toList_append]
      rw [List.take_append_of_le_length (by rw [hl]; exact Nat.le_refl _), List.take_of_length_le (by rw [hl]; exact Nat.le_refl _)]
  · exact ⟨rfl, rfl, rfl, by simp, fun q hq hn => (World.grownBy_alloc w.drew _ none).block q hq hn⟩
/-- The same as one step of a region that draws its order. -/
theorem step_append_run {P : Program} {ops : Array Oper} {o : Oper} {a : Act} {w : World} {K : Act → World → Prop} {Q : Exit → Act → World → Prop} {E : Prop}
    (hg : o.guard = none) (s x : Operand) (t : TypeId) (hop : o.op = Op.call { callee := Callee.builtin Builtin.append, args := #[s, x], argTypes := #[t, t] })
    (vs vx : Value) (hs : a.eval s = vs) (hx : a.eval x = vx) (R : Value → World → Prop)
    (hrun : ∃ v' w', (Builtin.append_ #[t, t] o.type #[vs, vx]).run P w = .ok v' w' ∧ R v' w')
    (hK : ∀ v' w', R v' w' → K (a.put o.dst v') w') :
    if Region.wanted o (yielded ops a.tmps) = true then Oper.wp P o a w K Q else E := by
  have hw : Region.wanted o (yielded ops a.tmps) = true := by simp [Region.wanted, hg]
  rw [if_pos hw]
  obtain ⟨v', w', hrun, hr⟩ := hrun
  unfold Oper.wp
  simp [execOp, hop, resolve, invoke, builtin, hs, hx, hrun, Result.andThen]
  exact hK v' w' hr

/-- What Add leaves: the list that came in, as it was, or one of the call's own. -/
def AddOut (w : World) (v : Value) (l l' : List Mk) (e : Ending) (w' : World) : Prop := ∃ v', e = .returned v' ∧ Below w.heap.size w w' ∧ ((v' = v ∧ l' = l) ∨ OwnL ML w' w.heap.size v' l')

set_option maxHeartbeats 3200000 in
set_option maxRecDepth 100000 in
theorem add_no (v : Value) (l : List Mk) (base every : Int) (m : Mk) (w : World) (h0 : 0 ≤ base) (h1 : base ≤ m.o) (h2 : 1 ≤ every) (h3 : m.o ≤ 9223372036854775807) (h4 : every ≤ 9223372036854775807) (hr : (m.o - base) % every ≠ 0) :
    Calls Try.prog 22 #[v, .int .i64 base, .int .i64 every, mkVal m] w (AddOut w v l l) := by
  have KP := Lib.hid fun W : World => kept_any m.o base every false W h0 h1 h2 h3 h4 (by simpa using hr)
  have HB := Lib.hid ((Below.refl w.heap.size w).alloc (Nat.le_refl _) (.cells #[.int .i64 m.o, .int .i64 m.p] 58))
  obtain ⟨mo, mp⟩ := m
  unfold mkVal
  dsimp only at *
  clear hr
  go_enter Try.func22, Try.ntmps22
  go_wp2_with fail
  refine (KP.out _).mono ?_
  rintro e w1 ⟨rfl, rfl⟩
  go_wp2_with fail
  go_ret
  exact ⟨v, rfl, HB.out, .inl ⟨rfl, rfl⟩⟩

set_option maxHeartbeats 3200000 in
set_option maxRecDepth 100000 in
theorem add_yes (x : Addr) (cap : Nat) (l : List Mk) (base every : Int) (m : Mk) (w : World) (hcap : l.length ≤ cap) (hl : l.length ≤ 1000000000) (hc : ∀ j u, (ML.vals l)[j]? = some u → w.cell? (x.add j) = some u) (h0 : 0 ≤ base) (h1 : base ≤ m.o) (h2 : 1 ≤ every) (h3 : m.o ≤ 9223372036854775807) (h4 : every ≤ 9223372036854775807) (hr : (m.o - base) % every = 0) :
    Calls Try.prog 22 #[.slice (some x) l.length cap, .int .i64 base, .int .i64 every, mkVal m] w (AddOut w (.slice (some x) l.length cap) l (l ++ [m])) := by
  have mixed : Try.prog.follows Departure.mixedOrders = true := by kernel_rfl
  obtain ⟨i0, hi0, hz0, hz1, hz2⟩ := info_parts info_mk
  have KP := Lib.hid fun W : World => kept_any m.o base every true W h0 h1 h2 h3 h4 (by simpa using hr)
  have HB := Lib.hid ((Below.refl w.heap.size w).alloc (Nat.le_refl _) (.cells #[.int .i64 m.o, .int .i64 m.p] 58))
  have G0 := Lib.hid (heap_alloc_new w (.cells #[.int .i64 m.o, .int .i64 m.p] 58))
  have HLX := Lib.hid (vals_len l)
  have HXS := Lib.hid fun (W : World) (h : Below w.heap.size w W) j u (hj : (ML.vals l)[j]? = some u) => by
    have c := hc j u hj
    have e : (x.add j).block = x.block := by unfold Addr.add; split <;> rfl
    exact (h.cell (p := x.add j) (block_lt_of_cell c)).trans c
  have HF := Lib.hid fun (v' : Value) (w3 : World) (B : Nat) (h : w3.ownsRow B 58 2 v' (l.length + 1) (ML.vals l ++ mkCells m)) => OwnL.snoc (Y := ML) (x := m) (n := l.length) h rfl rfl
  obtain ⟨mo, mp⟩ := m
  unfold mkVal
  dsimp only at *
  have HO := Lib.hid fun (v' : Value) (w3 : World) (h : OwnL ML w3 w.heap.size v' (l ++ [⟨mo, mp⟩])) (hb : Below w.heap.size w w3) => (show AddOut w (.slice (some x) l.length cap) l (l ++ [⟨mo, mp⟩]) (.returned v') w3 from ⟨v', rfl, hb, .inr h⟩)
  generalize hA : AddOut w (.slice (some x) l.length cap) l (l ++ [⟨mo, mp⟩]) = A at *
  clear hA hr hc
  generalize ML.vals l = xs at *
  obtain ⟨n, hn⟩ : ∃ n, l.length = n := ⟨_, rfl⟩
  rw [hn] at HF HLX hl hcap ⊢
  clear hn
  go_enter Try.func22, Try.ntmps22
  go_wp2_with fail
  refine (KP.out _).mono ?_
  rintro e w1 ⟨rfl, rfl⟩
  generalize World.alloc w _ = w0 at HB G0 ⊢
  obtain ⟨z0, z1⟩ := cells2 G0.out
  have hs0 : w.heap.size < w0.heap.size := (Array.getElem?_eq_some_iff.1 G0.out).1
  have HB1 := Lib.hid ((HB.out.alloc (Nat.le_of_lt hs0) (.cells (mkCells ⟨mo, mp⟩).toArray 58)).drew)
  go_wp2_with fail
  go_region_law_o (refine step_append_run rfl (.tmp 21) (.tmp 23) 29 rfl (.slice (some x) n n) (.slice (some ⟨w0.heap.size, 0, none⟩) 1 1) (by first | (simp [Act.eval]; done) | (simp [Act.eval, Act.put]; done)) (by first | (simp [Act.eval]; done) | (simp [Act.eval, Act.put]; done)) _ (run_append_fresh _ _ _ _ i0 (.agg #[.int .i64 0, .int .i64 0]) 2 16 Try.underlying29 hi0 hz0 hz1 hz2 rfl x n n xs HLX.out (HXS.out _ HB1.out) ⟨w0.heap.size, 0, none⟩ 1 1 (mkCells ⟨mo, mp⟩) rfl (news_new w0 w0.heap.size (mkCells ⟨mo, mp⟩) 58 rfl) (by omega) (by unfold maxLen; omega) (by omega)) ?_; rintro v3 w3 ⟨ho3, hg3⟩)
  all_goals
    go_wp2_with fail
    go_ret
    exact HO.out _ _ (own_lo (HF.out _ _ _ ho3) (Nat.le_trans (Nat.le_of_lt hs0) (by simp))) (HB1.out.grown hg3 (Nat.le_trans (Nat.le_of_lt hs0) (by simp)) (fun k hk => by cases hk))

set_option maxHeartbeats 3200000 in
set_option maxRecDepth 100000 in
theorem add_none (base every : Int) (m : Mk) (w : World) (h0 : 0 ≤ base) (h1 : base ≤ m.o) (h2 : 1 ≤ every) (h3 : m.o ≤ 9223372036854775807) (h4 : every ≤ 9223372036854775807) (hr : (m.o - base) % every = 0) :
    Calls Try.prog 22 #[.slice none 0 0, .int .i64 base, .int .i64 every, mkVal m] w (AddOut w (.slice none 0 0) [] ([] ++ [m])) := by
  have mixed : Try.prog.follows Departure.mixedOrders = true := by kernel_rfl
  obtain ⟨i0, hi0, hz0, hz1, hz2⟩ := info_parts info_mk
  have KP := Lib.hid fun W : World => kept_any m.o base every true W h0 h1 h2 h3 h4 (by simpa using hr)
  have HB := Lib.hid ((Below.refl w.heap.size w).alloc (Nat.le_refl _) (.cells #[.int .i64 m.o, .int .i64 m.p] 58))
  have G0 := Lib.hid (heap_alloc_new w (.cells #[.int .i64 m.o, .int .i64 m.p] 58))
  have HF := Lib.hid fun (v' : Value) (w3 : World) (B : Nat) (h : w3.ownsRow B 58 2 v' 1 (mkCells m)) => (show OwnL ML w3 B v' ([] ++ [m]) from OwnL.snoc (Y := ML) (x := m) (l := []) (n := 0) h rfl rfl)
  obtain ⟨mo, mp⟩ := m
  unfold mkVal
  dsimp only at *
  have HO := Lib.hid fun (v' : Value) (w3 : World) (h : OwnL ML w3 w.heap.size v' ([] ++ [⟨mo, mp⟩])) (hb : Below w.heap.size w w3) => (show AddOut w (.slice none 0 0) [] ([] ++ [⟨mo, mp⟩]) (.returned v') w3 from ⟨v', rfl, hb, .inr h⟩)
  generalize hA : AddOut w (.slice none 0 0) [] ([] ++ [⟨mo, mp⟩]) = A at *
  clear hA hr
  go_enter Try.func22, Try.ntmps22
  go_wp2_with fail
  refine (KP.out _).mono ?_
  rintro e w1 ⟨rfl, rfl⟩
  generalize World.alloc w _ = w0 at HB G0 ⊢
  obtain ⟨z0, z1⟩ := cells2 G0.out
  have hs0 : w.heap.size < w0.heap.size := (Array.getElem?_eq_some_iff.1 G0.out).1
  have HB1 := Lib.hid ((HB.out.alloc (Nat.le_of_lt hs0) (.cells (mkCells ⟨mo, mp⟩).toArray 58)).drew)
  go_wp2_with fail
  go_region_law_o (refine step_append_run rfl (.tmp 21) (.tmp 23) 29 rfl (.slice none 0 0) (.slice (some ⟨w0.heap.size, 0, none⟩) 1 1) (by first | (simp [Act.eval]; done) | (simp [Act.eval, Act.put]; done)) (by first | (simp [Act.eval]; done) | (simp [Act.eval, Act.put]; done)) _ (run_append_none _ _ _ _ i0 (.agg #[.int .i64 0, .int .i64 0]) 2 16 Try.underlying29 hi0 hz0 hz1 hz2 rfl ⟨w0.heap.size, 0, none⟩ 1 1 (mkCells ⟨mo, mp⟩) rfl (news_new w0 w0.heap.size (mkCells ⟨mo, mp⟩) 58 rfl) (by omega) (by unfold maxLen; omega) (by omega)) ?_; rintro v3 w3 ⟨ho3, hg3⟩)
  all_goals
    go_wp2_with fail
    go_ret
    exact HO.out _ _ (own_lo (HF.out _ _ _ ho3) (Nat.le_trans (Nat.le_of_lt hs0) (by simp))) (HB1.out.grown hg3 (Nat.le_trans (Nat.le_of_lt hs0) (by simp)) (fun k hk => by cases hk))

theorem add08_any (v : Value) (l : List Mk) (base every : Int) (m : Mk) (w : World) (hv : IsL ML w v l) (hn : NilOk v) (hcap : CapOk v) (hl : l.length ≤ 1000000000) (h0 : 0 ≤ base) (h1 : base ≤ m.o) (h2 : 1 ≤ every) (h3 : m.o ≤ 9223372036854775807) (h4 : every ≤ 9223372036854775807) :
    Calls Try.prog 22 #[v, .int .i64 base, .int .i64 every, mkVal m] w (AddOut w v l (add l base every m)) := by
  unfold add
  by_cases hr : (m.o - base) % every = 0
  · rw [if_pos hr]
    obtain ⟨a, cap, rfl, _, _, hc⟩ := hv
    have hc0 := hcap _ _ _ rfl
    rcases hc with rfl | ⟨b, off, rfl, hc⟩
    · cases a with
      | some x => exact add_yes x cap [] base every m w (Nat.zero_le _) hl (fun j u hj => by simp [Lay.vals] at hj) h0 h1 h2 h3 h4 hr
      | none =>
        obtain rfl := hn _ _ rfl
        exact add_none base every m w h0 h1 h2 h3 h4 hr
    · exact add_yes _ cap l base every m w hc0 hl (fun j u hj => by rw [addr_plain]; exact hc j u hj) h0 h1 h2 h3 h4 hr
  · rw [if_neg hr]
    exact add_no v l base every m w h0 h1 h2 h3 h4 hr

theorem own_cap {w : World} {B : Nat} {v : Value} {l : List Mk} (h : OwnL ML w B v l) : CapOk v := by
  rintro a n c rfl
  rcases h.2 with ⟨h0, _⟩ | ⟨g, cap, cur, h0, _, _, h1, _⟩
  · injection h0 with h0 h2 h3; omega
  · injection h0 with h0 h2 h3; omega
/-- Where the list was one of the call's own, so is what Add leaves. -/
theorem AddOut.own {w w' : World} {B : Nat} {v : Value} {l l' : List Mk} {e : Ending} (h : AddOut w v l l' e w') (ho : OwnL ML w B v l) (hb : B ≤ w.heap.size) :
    ∃ v', e = .returned v' ∧ OwnL ML w' B v' l' ∧ Below w.heap.size w w' ∧ (v' = v ∨ ∀ q, v'.ownBlock = some q → w.heap.size ≤ q) := by
  obtain ⟨v', rfl, h1, ⟨rfl, rfl⟩ | h2⟩ := h
  · exact ⟨_, rfl, ho.keep h1, h1, .inl rfl⟩
  · exact ⟨_, rfl, own_lo h2 hb, h1, .inr fun q hq => (h2.lt q hq).1⟩

end Go.Proofs.Ytfodcgipdhppmaa.Mks
