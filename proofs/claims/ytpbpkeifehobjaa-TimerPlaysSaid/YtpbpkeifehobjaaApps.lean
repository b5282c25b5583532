/-
  'append' to lists of anything: to one of the call's own, and to one without spare room. No function of the program.
-/
import Derived.Test.YtpbpkeifehobjaaList
import Derived.Laws.AppendOwn
import Derived.Laws.AppendOwnNone
import Derived.Deep.RegionLaw
import Derived.Lib.SliceRun
namespace Go.Proofs.Ytpbpkeifehobjaa.Aps
open Go.RowKit

/-- 'append' to a slice without spare room: a row of its own. -/
theorem run_append_fresh {P : Program} (w : World) (t ty e : TypeId) (i : TypeInfo) (z : Value) (size bytes : Nat) (ht : P.underlying t = some (.slice e)) (hi : P.info? e = some i) (hz : i.zero = some z)
    (hsize : i.size = size) (hby : i.bytes = bytes) (hzs : z.cells.size = size)
    (x : Addr) (n k : Nat) (xs : List Value) (hlx : xs.length = n * size) (hxs : ∀ j u, xs[j]? = some u → w.cell? (x.add j) = some u)
    (a : Addr) (m c : Nat) (news : List Value) (hl : news.length = m * size) (hnews : ∀ j u, news[j]? = some u → w.cell? (a.add j) = some u)
    (hk : k < n + m) (h63 : n + m ≤ maxLen) (hbytes : (n + m) * bytes ≤ 140737488355328) :
    ∃ v' w', (Builtin.append_ #[t, t] ty #[.slice (some x) n k, .slice (some a) m c]).run P w = .ok v' w' ∧ w'.ownsRow w.heap.size e size v' (n + m) (xs ++ news) ∧ w.grownBy w' none := by
  subst hsize
  subst hby
  have hsmall : ((n + m : Nat) : Int) ≤ 9223372036854775807 := by simp only [maxLen] at h63; omega
  refine ⟨_, _, run_append_grow w t ty e i z ht hi hz x n k xs hlx hxs a m c news hl hnews hk hsmall (growslice_fits hk hbytes), ?_, ?_⟩
  · have hge := grownCap_ge w (n + m) k e
    refine ⟨by rw [List.length_append, hlx, hl, Nat.add_mul], .inr ⟨w.heap.size, _, _, rfl, Nat.le_refl _, heap_alloc_new w.drew _, hge, grownCap_le_maxLen w (n + m) k e h63, ?_, ?_⟩⟩
    · simp only [Array.size_append, List.size_toArray, size_zeroCells, hzs, hlx, hl, ← Nat.add_mul]
      congr 1
      omega
    · simp only [Array.toList_append, List.append_assoc]
      rw [← List.append_assoc, List.take_append_of_le_length (by rw [List.length_append, hlx, hl, Nat.add_mul]; exact Nat.le_refl _), List.take_of_length_le (by rw [List.length_append, hlx, hl, Nat.add_mul]; exact Nat.le_refl _)]
  · exact ⟨rfl, rfl, rfl, by simp, fun q hq hn => (World.grownBy_alloc w.drew _ none).block q hq hn⟩
theorem run_append_none {P : Program} (w : World) (t ty e : TypeId) (i : TypeInfo) (z : Value) (size bytes : Nat) (ht : P.underlying t = some (.slice e)) (hi : P.info? e = some i) (hz : i.zero = some z)
    (hsize : i.size = size) (hby : i.bytes = bytes) (hzs : z.cells.size = size)
    (a : Addr) (m c : Nat) (news : List Value) (hl : news.length = m * size) (hnews : ∀ j u, news[j]? = some u → w.cell? (a.add j) = some u)
    (h0 : 0 < m) (h63 : m ≤ maxLen) (hbytes : m * bytes ≤ 140737488355328) :
    ∃ v' w', (Builtin.append_ #[t, t] ty #[.slice none 0 0, .slice (some a) m c]).run P w = .ok v' w' ∧ w'.ownsRow w.heap.size e size v' m news ∧ w.grownBy w' none := by
  subst hsize
  subst hby
  refine ⟨_, _, run_append_nil w t ty e i z ht hi hz a m c news hl hnews h0 (by simp only [maxLen] at h63; omega) (by omega), ?_, ?_⟩
  · have hge := grownCap_ge w m 0 e
    refine ⟨hl, .inr ⟨w.heap.size, _, _, rfl, Nat.le_refl _, heap_alloc_new w.drew _, hge, grownCap_le_maxLen w m 0 e h63, ?_, ?_⟩⟩
    · simp only [Array.size_append, List.size_toArray, size_zeroCells, hzs, hl, ← Nat.add_mul]
      congr 1
      omega
    · simp only [Array.toList_append]
      rw [List.take_append_of_le_length (by rw [hl]; exact Nat.le_refl _), List.take_of_length_le (by rw [hl]; exact Nat.le_refl _)]
  · exact ⟨rfl, rfl, rfl, by simp, fun q hq hn => (World.grownBy_alloc w.drew _ none).block q hq hn⟩
/-- The same as one step of a region that draws its order. -/
theorem step_append_run {P : Program} {ops : Array Oper} {o : Oper} {a : Act} {w : World} {K : Act → World → Prop} {Q : Exit → Act → World → Prop} {E : Prop}
    (hg : o.guard = none) (s x : Operand) (t : TypeId) (hop : o.op = Op.call { callee := Callee.builtin Builtin.append, args := #[s, x], argTypes := #[t, t] })
    (vs vx : Value) (hs : a.eval s = vs) (hx : a.eval x = vx) (R : Value → World → Prop)
    (hrun : ∃ v' w', (Builtin.append_ #[t, t] o.type #[vs, vx]).run P w = .ok v' w' ∧ R v' w')
    (hK : ∀ v' w', R v' w' → K (a.put o.dst v') w') :
    if Region.wanted o (yielded ops a.tmps) = true then Oper.wp P o a w K Q else E := by
  have hw : Region.wanted o (yielded ops a.tmps) = true := by simp [Region.wanted, hg]
  rw [if_pos hw]
  obtain ⟨v', w', hrun, hr⟩ := hrun
  unfold Oper.wp
  simp [execOp, hop, resolve, invoke, builtin, hs, hx, hrun, Result.andThen]
  exact hK v' w' hr


/-- A slice that is nil has no room. -/
def NilOk (v : Value) : Prop := ∀ n c, v = .slice none n c → c = 0
theorem nil_some (x : Addr) (n c : Nat) : NilOk (.slice (some x) n c) := by
  rintro n' c' h
  injection h with h
  cases h
/-- The slice type t holds elements that lie so. -/
structure Ap {α : Type} (Y : Lay α) (t : TypeId) : Prop where
  u : Try.prog.underlying t = some (.slice Y.T)
  i : ∃ i z, Try.prog.info? Y.T = some i ∧ i.zero = some z ∧ i.size = Y.k ∧ i.bytes ≤ 1000 ∧ z.cells.size = Y.k
theorem Ap.mk' {α : Type} {Y : Lay α} {t : TypeId} {z : Value} {bytes : Nat} (hu : Try.prog.underlying t = some (.slice Y.T)) (hi : (Try.prog.info? Y.T).map (fun i => (i.zero, i.size, i.bytes)) = some (some z, Y.k, bytes)) (hb : bytes ≤ 1000) (hz : z.cells.size = Y.k) : Ap Y t := by
  obtain ⟨i, h1, h2, h3, h4⟩ := info_parts hi
  exact ⟨hu, i, z, h1, h2, h3, by omega, hz⟩
theorem bytes_ok {n b : Nat} (hb : b ≤ 1000) (hn : n ≤ 1000000) : n * b ≤ 140737488355328 := Nat.le_trans (Nat.mul_le_mul hn hb) (by decide)
variable {α : Type} {Y : Lay α}
theorem own_nil {w : World} {B : Nat} {v : Value} {l : List α} (h : OwnL Y w B v l) : NilOk v := by
  rintro n c rfl
  rcases h.2 with ⟨h0, _⟩ | ⟨g, cap, cur, h0, _⟩
  · injection h0
  · injection h0 with h0; cases h0

/-- Where a list lies: behind B and ahead of E, or in the block of an elder one. -/
def Near (B E : Nat) (v v' : Value) : Prop := ∀ p n c, v' = .slice (some p) n c → (B ≤ p.block ∧ p.block < E) ∨ ∃ p' n' c', v = .slice (some p') n' c' ∧ p.block = p'.block
theorem Near.same (B E : Nat) {v : Value} {a : Option Addr} {n c n' c' : Nat} (h : v = .slice a n c) : Near B E v (.slice a n' c') := by
  intro p n2 c2 e
  injection e with e
  subst e
  exact .inr ⟨p, n, c, h, rfl⟩
theorem Near.own {w : World} {B B' E : Nat} {v v' : Value} {l : List α} (h : OwnL Y w B v' l) (hb : B' ≤ B) (hE : w.heap.size ≤ E) : Near B' E v v' := by
  rintro p n c rfl
  have hl := h.lt
  rcases h.2 with ⟨h0, _⟩ | ⟨g, cap, cur, h0, h1, _⟩
  · injection h0 with h0; cases h0
  · injection h0 with h0
    injection h0 with h0
    subst h0
    exact .inl ⟨Nat.le_trans hb h1, Nat.lt_of_lt_of_le (hl g rfl).2 hE⟩
theorem Near.trans {B B' E E' : Nat} {u v v' : Value} (h : Near B' E' v v') (k : Near B E u v) (hb : B ≤ B') (hE : E ≤ E') : Near B E' u v' := by
  intro p n c e
  rcases h p n c e with h1 | ⟨p', n', c', e', h2⟩
  · exact .inl ⟨Nat.le_trans hb h1.1, h1.2⟩
  · rcases k p' n' c' e' with h3 | ⟨q, m, d, e2, h3⟩
    · exact .inl (by rw [h2]; exact ⟨h3.1, Nat.lt_of_lt_of_le h3.2 hE⟩)
    · exact .inr ⟨q, m, d, e2, h2.trans h3⟩
/-- A list with something in it lies in a block that is there. -/
theorem isl_lt {w : World} {v : Value} {l : List α} (h : IsL Y w v l) (h0 : l ≠ []) : ∀ p n c, v = .slice (some p) n c → p.block < w.heap.size := by
  rintro p n c rfl
  obtain ⟨a, cap, e, h1, h2, h3⟩ := h
  obtain ⟨b, off, e', h4⟩ := h3.resolve_left h0
  injection e with e1 e2 e3
  rw [← e1] at e'
  injection e' with e'
  subst e'
  have hp : 0 < (Y.vals l).length := by rw [Y.vals_len]; exact Nat.mul_pos (List.length_pos_iff.2 h0) Y.pos
  exact block_lt_of_cell (h4 0 _ (List.getElem?_eq_getElem hp))

theorem app_zero {t : TypeId} (AP : Ap Y t) {W : World} (ty : TypeId) (a : Option Addr) (n c : Nat) (hn : n ≤ c) (u : Option Addr) (m : Nat) :
    (Builtin.append_ #[t, t] ty #[.slice a n c, .slice u 0 m]).run Try.prog W = .ok (.slice a n c) W := by
  obtain ⟨hut, i0, z0, hi, hz0, hz1, hz2, hzz⟩ := AP
  cases u <;> cases a <;> simp [Builtin.append_, run_underlying hut, sizeOf, typeInfo, hi, Builtin.lenOf, Builtin.firstCells, loadCells, loadCellsFrom, hn, storeCells]
/-- .. to one of the call's own. -/
theorem app_own {t : TypeId} (AP : Ap Y t) {W : World} {base : Nat} {v u : Value} {l fs : List α} (ty : TypeId) (ho : OwnL Y W base v l) (hu : IsL Y W u fs) (hb : base ≤ W.heap.size) (hn : l.length + fs.length ≤ 1000000) :
    ∃ v' w', (Builtin.append_ #[t, t] ty #[v, u]).run Try.prog W = .ok v' w' ∧ OwnL Y w' base v' (l ++ fs) ∧ W.grownBy w' v.ownBlock := by
  obtain ⟨hut, i0, z0, hi, hz0, hz1, hz2, hzz⟩ := id AP
  have hu' := hu
  obtain ⟨a, cap, rfl, h1, h2, h3⟩ := hu
  rcases h3 with rfl | ⟨b, off, rfl, _⟩
  · refine ⟨v, W, ?_, by rw [List.append_nil]; exact ho, ⟨rfl, rfl, rfl, Nat.le_refl _, fun _ _ _ => rfl⟩⟩
    rcases ho.2 with ⟨rfl, _⟩ | ⟨g, c, cur, rfl, _, _, h, _⟩
    · exact app_zero AP ty none 0 0 (Nat.le_refl _) a cap
    · exact app_zero AP ty _ _ _ h a cap
  · obtain ⟨v', w', hr, hown, hg, _⟩ := run_append_own W base t ty Y.T i0 z0 Y.k i0.bytes hut hi hz0 hz1 rfl hzz Y.pos v l.length _ ho ⟨b, off, none⟩ fs.length cap (Y.vals fs) (Y.vals_len fs) hu'.news (Y.vals_cells fs) (by unfold maxLen; omega) (bytes_ok hz2 (by omega)) hb
    exact ⟨v', w', hr, OwnL.more hown rfl rfl, hg⟩
/-- .. to one without spare room: what was there stays. -/
theorem app_more {t : TypeId} (AP : Ap Y t) {W : World} {a : Option Addr} {n : Nat} {u : Value} {l fs : List α} (ty : TypeId) (hl : IsL Y W (.slice a n n) l) (ho : NilOk (.slice a n n)) (hu : IsL Y W u fs) (h0 : fs ≠ []) (hn : n + fs.length ≤ 1000000) :
    ∃ v' w', (Builtin.append_ #[t, t] ty #[.slice a n n, u]).run Try.prog W = .ok v' w' ∧ OwnL Y w' W.heap.size v' (l ++ fs) ∧ Below W.heap.size W w' := by
  obtain ⟨hut, i0, z0, hi, hz0, hz1, hz2, hzz⟩ := id AP
  have hu' := hu
  have hnl := hl.len.1
  obtain ⟨x, cap, rfl, h1, h2, h3⟩ := hu
  obtain ⟨b, off, rfl, _⟩ := h3.resolve_left h0
  have hpos : 0 < fs.length := List.length_pos_iff.2 h0
  have fin : ∀ v' w', w'.ownsRow W.heap.size Y.T Y.k v' (n + fs.length) (Y.vals l ++ Y.vals fs) → W.grownBy w' none → OwnL Y w' W.heap.size v' (l ++ fs) ∧ Below W.heap.size W w' := by
    intro v' w' h3 h4
    subst hnl
    exact ⟨OwnL.more h3 rfl rfl, (Below.refl _ _).grown h4 (Nat.le_refl _) (fun k hk => by cases hk)⟩
  cases a with
  | none =>
    obtain rfl := ho _ _ rfl
    obtain rfl : l = [] := List.length_eq_zero_iff.1 hnl.symm
    obtain ⟨v', w', hr, h3, h4⟩ := run_append_none (P := Try.prog) W t ty Y.T i0 z0 Y.k i0.bytes hut hi hz0 hz1 rfl hzz ⟨b, off, none⟩ fs.length cap (Y.vals fs) (Y.vals_len fs) hu'.news hpos (by unfold maxLen; omega) (bytes_ok hz2 (by omega))
    exact ⟨v', w', hr, fin v' w' (by simpa [Lay.vals] using h3) h4⟩
  | some y =>
    have hxs : ∀ j u, (Y.vals l)[j]? = some u → W.cell? (y.add j) = some u := by
      intro j u hj
      obtain ⟨a', cap', e, _, _, h5⟩ := hl
      injection e with e1 e2 e3
      subst e1
      rcases h5 with rfl | ⟨b', off', e, h4⟩
      · simp [Lay.vals] at hj
      · injection e with e
        subst e
        rw [addr_plain]
        exact h4 j u hj
    obtain ⟨v', w', hr, h3, h4⟩ := run_append_fresh (P := Try.prog) W t ty Y.T i0 z0 Y.k i0.bytes hut hi hz0 hz1 rfl hzz y n n (Y.vals l) (by rw [Y.vals_len, ← hnl]) hxs ⟨b, off, none⟩ fs.length cap (Y.vals fs) (Y.vals_len fs) hu'.news (by omega) (by unfold maxLen; omega) (bytes_ok hz2 (by omega))
    exact ⟨v', w', hr, fin v' w' h3 h4⟩
theorem app_full {t : TypeId} (AP : Ap Y t) {W : World} {a : Option Addr} {n : Nat} {u : Value} {l fs : List α} (ty : TypeId) (hl : IsL Y W (.slice a n n) l) (ho : NilOk (.slice a n n)) (hu : IsL Y W u fs) (hn : n + fs.length ≤ 1000000) :
    ∃ v' w', (Builtin.append_ #[t, t] ty #[.slice a n n, u]).run Try.prog W = .ok v' w' ∧ IsL Y w' v' (l ++ fs) ∧ NilOk v' ∧ Near W.heap.size w'.heap.size (.slice a n n) v' ∧ Below W.heap.size W w' := by
  by_cases h0 : fs = []
  · subst h0
    obtain ⟨x, cap, rfl, _⟩ := hu
    exact ⟨_, _, app_zero AP ty a n n (Nat.le_refl _) x cap, by rw [List.append_nil]; exact hl, ho, Near.same _ _ rfl, Below.refl _ _⟩
  · obtain ⟨v', w', hr, ow, b⟩ := app_more AP ty hl ho hu h0 hn
    have hnl := hl.len.1
    exact ⟨v', w', hr, ow.is (by rw [List.length_append, ← hnl]; unfold maxLen; omega) (fun x hx => by rcases List.mem_append.1 hx with hx | hx; exact hl.ok x hx; exact hu.ok x hx), own_nil ow, Near.own ow (Nat.le_refl _) (Nat.le_refl _), b⟩

/-- 'append' in a plain region, by what it comes to. -/
theorem wpl_run (t : TypeId) {ops : Array Oper} {rest : List Oper} {o : Oper} {a : Act} {w : World} {Q : Exit → Act → World → Prop} (s x : Operand) (vs vx : Value) (hgd : o.guard = none) (ho : o.op = .call { callee := .builtin .append, args := #[s, x], argTypes := #[t, t] })
    (hs : a.eval s = vs) (hx : a.eval x = vx) (R : Value → World → Prop) (hrun : ∃ v' w', (Builtin.append_ #[t, t] o.type #[vs, vx]).run Try.prog w = .ok v' w' ∧ R v' w')
    (h : ∀ v' w', R v' w' → wpList Try.prog ops Q rest (a.put o.dst v') w') : wpList Try.prog ops Q (o :: rest) a w := by
  obtain ⟨v', w', hr, h2⟩ := hrun
  exact wpList_plain hgd fun _ hK => by
    unfold Oper.wp execOp
    simp only [ho, resolve, invoke, builtin, Sem.run_bind, Sem.run_pure, Result.andThen_ok, List.map_toArray, List.map_cons, List.map_nil, hs, hx, hr]
    exact hK _ _ (h v' w' h2)

end Go.Proofs.Ytpbpkeifehobjaa.Aps
