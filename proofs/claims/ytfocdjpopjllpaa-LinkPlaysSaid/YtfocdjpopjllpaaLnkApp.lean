/-
  'append' to lists of texts: to one of the call's own, and to one without spare room. No function of the program.
-/
import Derived.Test.YtfocdjpopjllpaaLnkVal
import Derived.Laws.AppendOwn
import Derived.Deep.RegionLaw
import Derived.Lib.SliceRun
namespace Go.Proofs.Ytfocdjpopjllpaa.Lk
open Go.RowKit

/-- 'append' to a slice without spare room: a row of its own. -/
theorem run_append_fresh {P : Program} (w : World) (t ty e : TypeId) (i : TypeInfo) (z : Value) (size bytes : Nat) (ht : P.underlying t = some (.slice e)) (hi : P.info? e = some i) (hz : i.zero = some z)
    (hsize : i.size = size) (hby : i.bytes = bytes) (hzs : z.cells.size = size)
    (x : Addr) (n k : Nat) (xs : List Value) (hlx : xs.length = n * size) (hxs : ∀ j u, xs[j]? = some u → w.cell? (x.add j) = some u)
    (a : Addr) (m c : Nat) (news : List Value) (hl : news.length = m * size) (hnews : ∀ j u, news[j]? = some u → w.cell? (a.add j) = some u)
    (hk : k < n + m) (h63 : n + m ≤ maxLen) (hbytes : (n + m) * bytes ≤ 140737488355328) :
    ∃ v' w', (Builtin.append_ #[t, t] ty #[.slice (some x) n k, .slice (some a) m c]).run P w = .ok v' w' ∧ w'.ownsRow w.heap.size e size v' (n + m) (xs ++ news) ∧ w.grownBy w' none := by
  subst hsize
  subst hby
  have hsmall : ((n + m : Nat) : Int) ≤ 9223372036854775807 := by simp only [maxLen] at h63; omega
  refine ⟨_, _, run_append_grow w t ty e i z ht hi hz x n k xs hlx hxs a m c news hl hnews hk hsmall (growslice_fits hk hbytes), ?_, ?_⟩
  · have hge := grownCap_ge w (n + m) k e
    refine ⟨by rw [List.length_append, hlx, hl, Nat.add_mul], .inr ⟨w.heap.size, _, _, rfl, Nat.le_refl _, heap_alloc_new w.drew _, hge, grownCap_le_maxLen w (n + m) k e h63, ?_, ?_⟩⟩
    · simp only [Array.size_append, List.size_toArray, size_zeroCells, hzs, hlx, hl, ← Nat.add_mul]
      congr 1
      omega
    · simp only [Array.toList_append, List.append_assoc]
      rw [← List.append_assoc, List.take_append_of_le_length (by rw [List.length_append, hlx, hl, Nat.add_mul]; exact Nat.le_refl _), List.take_of_length_le (by rw [List.length_append, hlx, hl, Nat.add_mul]; exact Nat.le_refl _)]
  · exact ⟨rfl, rfl, rfl, by simp, fun q hq hn => (World.grownBy_alloc w.drew _ none).block q hq hn⟩
theorem run_append_none {P : Program} (w : World) (t ty e : TypeId) (i : TypeInfo) (z : Value) (size bytes : Nat) (ht : P.underlying t = some (.slice e)) (hi : P.info? e = some i) (hz : i.zero = some z)
    (hsize : i.size = size) (hby : i.bytes = bytes) (hzs : z.cells.size = size)
    (a : Addr) (m c : Nat) (news : List Value) (hl : news.length = m * size) (hnews : ∀ j u, news[j]? = some u → w.cell? (a.add j) = some u)
    (h0 : 0 < m) (h63 : m ≤ maxLen) (hbytes : m * bytes ≤ 140737488355328) :
    ∃ v' w', (Builtin.append_ #[t, t] ty #[.slice none 0 0, .slice (some a) m c]).run P w = .ok v' w' ∧ w'.ownsRow w.heap.size e size v' m news ∧ w.grownBy w' none := by
  subst hsize
  subst hby
  refine ⟨_, _, run_append_nil w t ty e i z ht hi hz a m c news hl hnews h0 (by simp only [maxLen] at h63; omega) (by omega), ?_, ?_⟩
  · have hge := grownCap_ge w m 0 e
    refine ⟨hl, .inr ⟨w.heap.size, _, _, rfl, Nat.le_refl _, heap_alloc_new w.drew _, hge, grownCap_le_maxLen w m 0 e h63, ?_, ?_⟩⟩
    · simp only [Array.size_append, List.size_toArray, size_zeroCells, hzs, hl, ← Nat.add_mul]
      congr 1
      omega
    · simp only [Array.toList_append]
      rw [List.take_append_of_le_length (by rw [hl]; exact Nat.le_refl _), List.take_of_length_le (by rw [hl]; exact Nat.le_refl _)]
  · exact ⟨rfl, rfl, rfl, by simp, fun q hq hn => (World.grownBy_alloc w.drew _ none).block q hq hn⟩
/-- The same as one step of a region that draws its order. -/
theorem step_append_run {P : Program} {ops : Array Oper} {o : Oper} {a : Act} {w : World} {K : Act → World → Prop} {Q : Exit → Act → World → Prop} {E : Prop}
    (hg : o.guard = none) (s x : Operand) (t : TypeId) (hop : o.op = Op.call { callee := Callee.builtin Builtin.append, args := #[s, x], argTypes := #[t, t] })
    (vs vx : Value) (hs : a.eval s = vs) (hx : a.eval x = vx) (R : Value → World → Prop)
    (hrun : ∃ v' w', (Builtin.append_ #[t, t] o.type #[vs, vx]).run P w = .ok v' w' ∧ R v' w')
    (hK : ∀ v' w', R v' w' → K (a.put o.dst v') w') :
    if Region.wanted o (yielded ops a.tmps) = true then Oper.wp P o a w K Q else E := by
  have hw : Region.wanted o (yielded ops a.tmps) = true := by simp [Region.wanted, hg]
  rw [if_pos hw]
  obtain ⟨v', w', hrun, hr⟩ := hrun
  unfold Oper.wp
  simp [execOp, hop, resolve, invoke, builtin, hs, hx, hrun, Result.andThen]
  exact hK v' w' hr


/-- A slice that is nil has no room. -/
def NilOk (v : Value) : Prop := ∀ n c, v = .slice none n c → c = 0
theorem nil_some (x : Addr) (n c : Nat) : NilOk (.slice (some x) n c) := by
  rintro n' c' h
  injection h with h
  cases h
theorem own_nil {w : World} {B : Nat} {v : Value} {l : List ByteArray} (h : OwnL LS w B v l) : NilOk v := by
  rintro n c rfl
  rcases h.2 with ⟨h0, _⟩ | ⟨g, cap, cur, h0, _⟩
  · injection h0
  · injection h0 with h0; cases h0

/-- Where a list lies: behind B, or in the block of an elder one. -/
def Near (B : Nat) (v v' : Value) : Prop := ∀ p n c, v' = .slice (some p) n c → B ≤ p.block ∨ ∃ p' n' c', v = .slice (some p') n' c' ∧ p.block = p'.block
theorem Near.same (B : Nat) {v : Value} {a : Option Addr} {n c n' c' : Nat} (h : v = .slice a n c) : Near B v (.slice a n' c') := by
  intro p n2 c2 e
  injection e with e
  subst e
  exact .inr ⟨p, n, c, h, rfl⟩
theorem Near.own {w : World} {B B' : Nat} {v v' : Value} {l : List ByteArray} (h : OwnL LS w B v' l) (hb : B' ≤ B) : Near B' v v' := by
  rintro p n c rfl
  rcases h.2 with ⟨h0, _⟩ | ⟨g, cap, cur, h0, h1, _⟩
  · injection h0 with h0; cases h0
  · injection h0 with h0
    injection h0 with h0
    subst h0
    exact .inl (Nat.le_trans hb h1)
theorem Near.trans {B B' : Nat} {u v v' : Value} (h : Near B' v v') (k : Near B u v) (hb : B ≤ B') : Near B u v' := by
  intro p n c e
  rcases h p n c e with h1 | ⟨p', n', c', e', h2⟩
  · exact .inl (Nat.le_trans hb h1)
  · rcases k p' n' c' e' with h3 | ⟨q, m, d, e2, h3⟩
    · exact .inl (by rw [h2]; exact h3)
    · exact .inr ⟨q, m, d, e2, h2.trans h3⟩
/-- A list with something in it lies in a block that is there. -/
theorem ls_lt {w : World} {v : Value} {l : List ByteArray} (h : IsL LS w v l) (h0 : l ≠ []) : ∀ p n c, v = .slice (some p) n c → p.block < w.heap.size := by
  rintro p n c rfl
  obtain ⟨b, off, e, c0⟩ := ls_at h (i := 0) (by rw [h.len.1]; exact List.length_pos_iff.2 h0)
  injection e with e
  subst e
  exact block_lt_of_cell c0

theorem app_zero {W : World} (ty : TypeId) (a : Option Addr) (n c : Nat) (hn : n ≤ c) (u : Option Addr) (m : Nat) :
    (Builtin.append_ #[22, 22] ty #[.slice a n c, .slice u 0 m]).run Try.prog W = .ok (.slice a n c) W := by
  obtain ⟨i0, hi, hz0, hz1, hz2⟩ := info_parts info_ls
  cases u <;> cases a <;> simp [Builtin.append_, run_underlying Try.underlying22, sizeOf, typeInfo, hi, Builtin.lenOf, Builtin.firstCells, loadCells, loadCellsFrom, hn, storeCells]
/-- .. to one of the call's own. -/
theorem app_own {W : World} {base : Nat} {v u : Value} {l fs : List ByteArray} (ty : TypeId) (ho : OwnL LS W base v l) (hu : IsL LS W u fs) (hb : base ≤ W.heap.size) (hn : l.length + fs.length ≤ 1000000) :
    ∃ v' w', (Builtin.append_ #[22, 22] ty #[v, u]).run Try.prog W = .ok v' w' ∧ OwnL LS w' base v' (l ++ fs) ∧ W.grownBy w' v.ownBlock := by
  obtain ⟨i0, hi, hz0, hz1, hz2⟩ := info_parts info_ls
  have hu' := hu
  obtain ⟨a, cap, rfl, h1, h2, h3⟩ := hu
  rcases h3 with rfl | ⟨b, off, rfl, _⟩
  · refine ⟨v, W, ?_, by rw [List.append_nil]; exact ho, ⟨rfl, rfl, rfl, Nat.le_refl _, fun _ _ _ => rfl⟩⟩
    rcases ho.2 with ⟨rfl, _⟩ | ⟨g, c, cur, rfl, _, _, h, _⟩
    · exact app_zero ty none 0 0 (Nat.le_refl _) a cap
    · exact app_zero ty _ _ _ h a cap
  · obtain ⟨v', w', hr, hown, hg, _⟩ := run_append_own W base 22 ty 9 i0 (.string ByteArray.empty) 1 16 Try.underlying22 hi hz0 hz1 hz2 rfl (by decide) v l.length _ ho ⟨b, off, none⟩ fs.length cap (LS.vals fs) (LS.vals_len fs) hu'.news (LS.vals_cells fs) (by unfold maxLen; omega) (by omega) hb
    exact ⟨v', w', hr, OwnL.more hown rfl rfl, hg⟩
/-- .. to one without spare room: what was there stays. -/
theorem app_more {W : World} {a : Option Addr} {n : Nat} {u : Value} {l fs : List ByteArray} (ty : TypeId) (hl : IsL LS W (.slice a n n) l) (ho : NilOk (.slice a n n)) (hu : IsL LS W u fs) (h0 : fs ≠ []) (hn : n + fs.length ≤ 1000000) :
    ∃ v' w', (Builtin.append_ #[22, 22] ty #[.slice a n n, u]).run Try.prog W = .ok v' w' ∧ OwnL LS w' W.heap.size v' (l ++ fs) ∧ Below W.heap.size W w' := by
  obtain ⟨i0, hi, hz0, hz1, hz2⟩ := info_parts info_ls
  have hu' := hu
  have hnl := hl.len.1
  obtain ⟨x, cap, rfl, h1, h2, h3⟩ := hu
  obtain ⟨b, off, rfl, _⟩ := h3.resolve_left h0
  have hpos : 0 < fs.length := List.length_pos_iff.2 h0
  have fin : ∀ v' w', w'.ownsRow W.heap.size 9 1 v' (n + fs.length) (LS.vals l ++ LS.vals fs) → W.grownBy w' none → OwnL LS w' W.heap.size v' (l ++ fs) ∧ Below W.heap.size W w' := by
    intro v' w' h3 h4
    subst hnl
    exact ⟨OwnL.more h3 rfl rfl, (Below.refl _ _).grown h4 (Nat.le_refl _) (fun k hk => by cases hk)⟩
  cases a with
  | none =>
    obtain rfl := ho _ _ rfl
    obtain rfl : l = [] := List.length_eq_zero_iff.1 hnl.symm
    obtain ⟨v', w', hr, h3, h4⟩ := run_append_none (P := Try.prog) W 22 ty 9 i0 (.string ByteArray.empty) 1 16 Try.underlying22 hi hz0 hz1 hz2 rfl ⟨b, off, none⟩ fs.length cap (LS.vals fs) (LS.vals_len fs) hu'.news hpos (by unfold maxLen; omega) (by omega)
    exact ⟨v', w', hr, fin v' w' (by simpa [Lay.vals] using h3) h4⟩
  | some y =>
    have hxs : ∀ j u, (LS.vals l)[j]? = some u → W.cell? (y.add j) = some u := by
      intro j u hj
      obtain ⟨a', cap', e, _, _, h5⟩ := hl
      injection e with e1 e2 e3
      subst e1
      rcases h5 with rfl | ⟨b', off', e, h4⟩
      · simp [Lay.vals] at hj
      · injection e with e
        subst e
        rw [addr_plain]
        exact h4 j u hj
    obtain ⟨v', w', hr, h3, h4⟩ := run_append_fresh (P := Try.prog) W 22 ty 9 i0 (.string ByteArray.empty) 1 16 Try.underlying22 hi hz0 hz1 hz2 rfl y n n (LS.vals l) (by rw [LS.vals_len, ← hnl]; rfl) hxs ⟨b, off, none⟩ fs.length cap (LS.vals fs) (LS.vals_len fs) hu'.news (by omega) (by unfold maxLen; omega) (by omega)
    exact ⟨v', w', hr, fin v' w' h3 h4⟩
theorem app_full {W : World} {a : Option Addr} {n : Nat} {u : Value} {l fs : List ByteArray} (ty : TypeId) (hl : IsL LS W (.slice a n n) l) (ho : NilOk (.slice a n n)) (hu : IsL LS W u fs) (hn : n + fs.length ≤ 1000000) :
    ∃ v' w', (Builtin.append_ #[22, 22] ty #[.slice a n n, u]).run Try.prog W = .ok v' w' ∧ IsL LS w' v' (l ++ fs) ∧ NilOk v' ∧ Near W.heap.size (.slice a n n) v' ∧ Below W.heap.size W w' := by
  by_cases h0 : fs = []
  · subst h0
    obtain ⟨x, cap, rfl, _⟩ := hu
    exact ⟨_, _, app_zero ty a n n (Nat.le_refl _) x cap, by rw [List.append_nil]; exact hl, ho, Near.same _ rfl, Below.refl _ _⟩
  · obtain ⟨v', w', hr, ow, b⟩ := app_more ty hl ho hu h0 hn
    have hnl := hl.len.1
    exact ⟨v', w', hr, ow.is (by rw [List.length_append, ← hnl]; unfold maxLen; omega) (fun _ _ => trivial), own_nil ow, Near.own ow (Nat.le_refl _), b⟩

/-- 'append' in a plain region, by what it comes to. -/
theorem wpl_run {ops : Array Oper} {rest : List Oper} {o : Oper} {a : Act} {w : World} {Q : Exit → Act → World → Prop} (s x : Operand) (vs vx : Value) (hgd : o.guard = none) (ho : o.op = .call { callee := .builtin .append, args := #[s, x], argTypes := #[22, 22] })
    (hs : a.eval s = vs) (hx : a.eval x = vx) (R : Value → World → Prop) (hrun : ∃ v' w', (Builtin.append_ #[22, 22] o.type #[vs, vx]).run Try.prog w = .ok v' w' ∧ R v' w')
    (h : ∀ v' w', R v' w' → wpList Try.prog ops Q rest (a.put o.dst v') w') : wpList Try.prog ops Q (o :: rest) a w := by
  obtain ⟨v', w', hr, h2⟩ := hrun
  exact wpList_plain hgd fun _ hK => by
    unfold Oper.wp execOp
    simp only [ho, resolve, invoke, builtin, Sem.run_bind, Sem.run_pure, Result.andThen_ok, List.map_toArray, List.map_cons, List.map_nil, hs, hx, hr]
    exact hK _ _ (h v' w' h2)
/-- A list of one text that was just laid. -/
theorem one_new (w : World) (s : ByteArray) : IsL LS (w.alloc (.cells #[.string s] 9)) (.slice (some ⟨w.heap.size, 0, none⟩) 1 1) [s] := by
  refine ⟨_, 1, rfl, ⟨by unfold maxLen; simp, by simp⟩, fun _ _ => trivial, .inr ⟨w.heap.size, 0, rfl, fun j u hj => ?_⟩⟩
  have h : (LS.vals [s])[j]? = [Value.string s][j]? := by simp [Lay.vals, LS]
  rw [h] at hj
  have := news_new w w.heap.size [Value.string s] 9 rfl j u hj
  rwa [addr_plain] at this
theorem own_zero (w : World) : OwnL LS (w.alloc (.cells #[] 9)) w.heap.size (.slice (some ⟨w.heap.size, 0, none⟩) 0 0) [] := OwnL.made 0 #[] rfl (Nat.zero_le _)

end Go.Proofs.Ytfocdjpopjllpaa.Lk
