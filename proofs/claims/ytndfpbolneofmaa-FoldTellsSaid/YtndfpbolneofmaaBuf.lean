/-
  Bytes that a call made out of a string, and appends to: '[]byte(s)', appends of one byte and of a string, and back.
-/
import Derived.Test.YtndfpbolneofmaaVarPut
import Derived.Test.YtndfpbolneofmaaBase
import Derived.Deep.AppendSrc
import Derived.Laws.IdiomCopy
import Derived.Laws.CopyRow
namespace Go.Proofs.Ytndfpbolneofmaa
open Go.RowKit

/-- The value v is a slice of bytes of the call's own, from block 'base' on; it may be appended to. -/
def Buf (w : World) (base : Nat) (v : Value) (l : List UInt8) : Prop :=
  ∃ g cap cur fz, v = .slice (some ⟨g, 0, none⟩) l.length cap ∧ base ≤ g ∧ w.heap[g]? = some (.cells cur 5 fz) ∧ (cur.size ≤ fz.1 ∨ fz.2 = 0) ∧ l.length ≤ cap ∧ cap ≤ maxLen ∧ cur.size = cap ∧ cur.toList.take l.length = byteCells l

theorem Buf.below {w w' : World} {base : Nat} {v : Value} {l : List UInt8} (h : Buf w base v l) (b : Below w.heap.size w w') : Buf w' base v l := by
  obtain ⟨g, cap, cur, fz, hv, hb, hg, rest⟩ := h
  exact ⟨g, cap, cur, fz, hv, hb, by rw [b.block g (Array.getElem?_eq_some_iff.1 hg).1]; exact hg, rest⟩
theorem Buf.alloc {w : World} {base : Nat} {v : Value} {l : List UInt8} (h : Buf w base v l) (o : Obj) : Buf (w.alloc o) base v l := h.below ((Below.refl _ _).alloc (Nat.le_refl _) o)

theorem Buf.mono {w : World} {base base' : Nat} {v : Value} {l : List UInt8} (h : Buf w base v l) (hb : base' ≤ base) : Buf w base' v l := by
  obtain ⟨g, cap, cur, fz, hv, hg, rest⟩ := h
  exact ⟨g, cap, cur, fz, hv, Nat.le_trans hb hg, rest⟩
theorem Buf.lt {w : World} {base : Nat} {v : Value} {l : List UInt8} (h : Buf w base v l) : ∀ k, v.ownBlock = some k → base ≤ k ∧ k < w.heap.size := by
  obtain ⟨g, cap, cur, fz, rfl, hb, hg, _⟩ := h
  intro k hk
  simp [Value.ownBlock] at hk
  subst hk
  exact ⟨hb, (Array.getElem?_eq_some_iff.1 hg).1⟩

/-- '[]byte(s)'. -/
theorem buf_of (w : World) (s : ByteArray) (hs : s.size ≤ maxLen) : ∃ v W, (convert 9 42 (.string s)).run Try.prog w = .ok v W ∧ Buf W w.heap.size v s.data.toList ∧ Below w.heap.size w W := by
  refine ⟨_, _, run_bytes_of_string w 9 42 5 s Try.underlying9 Try.underlying42 Try.underlying5, ?_, (Below.drew (Below.refl _ _)).alloc (Nat.le_refl _) _⟩
  have hlen : s.data.toList.length = s.size := rfl
  have hsz : (bytesRow s (grownCap w s.size 0 5)).size = grownCap w s.size 0 5 := by
    have := grownCap_ge w s.size 0 5
    have e : s.data.size = s.size := rfl
    unfold bytesRow
    rw [Array.size_append, Array.size_map, Array.size_replicate, e]
    omega
  refine ⟨w.heap.size, _, _, _, rfl, Nat.le_refl _, heap_alloc_new w.drew _, .inl (Nat.le_refl _), ?_, grownCap_le_maxLen w s.size 0 _ hs, hsz, ?_⟩
  · rw [hlen]; exact grownCap_ge w s.size 0 _
  · unfold bytesRow byteCells
    rw [Array.toList_append, Array.toList_map, List.take_left' (by simp)]

theorem setCells_rowF (g : Nat) (t : TypeId) (fr : Nat × Nat) : ∀ (vs : List Value) (o : Nat) (cur : Array Value) (w : World), w.heap[g]? = some (.cells cur t fr) → o + vs.length ≤ cur.size → w.setCells g o vs = w.setRow g (cur.toList.take o ++ vs ++ cur.toList.drop (o + vs.length)).toArray
  | [], o, cur, w, hg, _ => by
    simp only [World.setCells, List.append_nil, List.length_nil, Nat.add_zero, List.take_append_drop, Array.toArray_toList]
    rw [setRow_self w g cur t fr hg]
  | v :: rest, o, cur, w, hg, hl => by
    have hi : o < cur.size := by simp at hl; omega
    have ih := setCells_rowF g t fr rest (o + 1) (cur.setIfInBounds o v) (w.setRow g (cur.setIfInBounds o v)) (setRow_heap w g cur _ t _ hg) (by simp at hl ⊢; omega)
    rw [World.setCells, setCell_eq_setRow w g o cur t fr v hg, ih, setRow_setRow]
    congr 1
    congr 1
    have e := list_seg_step cur.toList o v rest (by simp at hl ⊢; omega)
    simpa [Array.toList_setIfInBounds, Nat.add_assoc] using e

theorem info_u8b : (Try.prog.info? 5).map (fun i => (i.zero, i.size, i.bytes)) = some (some (.int .u8 0), 1, 1) := by kernel_rfl

/-- 'append' to it. -/
theorem run_append_buf (w : World) (base : Nat) (v xv : Value) (l bs : List UInt8) (tx ty : TypeId) (h : Buf w base v l) (hsrc : Src Try.prog 1 tx xv bs.length (byteCells bs) w) (hlen : l.length + bs.length ≤ 140737488355328) (hbase : base ≤ w.heap.size) :
    ∃ v' w', (Builtin.append_ #[42, tx] ty #[v, xv]).run Try.prog w = .ok v' w' ∧ Buf w' base v' (l ++ bs) ∧ w.grownBy w' v.ownBlock ∧ (v'.ownBlock = v.ownBlock ∨ v'.ownBlock = some w.heap.size) := by
  obtain ⟨i0, hi, hz0, hz1, hz2⟩ := info_parts info_u8b
  obtain ⟨g, cap, cur, fz, rfl, hb, hg, hfz, hlc, hcm, hcs, ht⟩ := h
  have hbl : (byteCells bs).length = bs.length := byteCells_len bs
  by_cases hroom : l.length + bs.length ≤ cap
  · have hr := run_append_room_src (P := Try.prog) w 42 tx ty 5 i0 Try.underlying42 hi g 0 l.length cap xv bs.length (byteCells bs) (by rw [hz1]; exact hsrc) hroom
      (fun j hj => by
        rw [hz1, Nat.zero_add, Nat.mul_one]
        rw [cell_of_row w g _ cur _ fz hg, Array.getElem?_eq_getElem (by omega)]; rfl)
      (fun j hj => by
        rw [hz1, Nat.zero_add, Nat.mul_one]
        unfold World.frozen?
        simp only [hg]
        rcases hfz with h1 | h1
        · rw [decide_eq_false (by omega)]; rfl
        · rw [h1]; simp)
    rw [hz1, Nat.zero_add, Nat.mul_one] at hr
    refine ⟨_, _, hr, ?_, ?_, .inl rfl⟩
    · rw [setCells_rowF g _ fz _ _ cur w hg (by omega)]
      refine ⟨g, cap, _, fz, by rw [List.length_append], hb, setRow_heap w g cur _ _ fz hg, ?_, by rw [List.length_append]; exact hroom, hcm, ?_, ?_⟩
      · have e : ((cur.toList.take l.length ++ byteCells bs ++ cur.toList.drop (l.length + (byteCells bs).length)).toArray).size = cur.size := by
          simp only [List.size_toArray, List.length_append, List.length_take, List.length_drop, Array.length_toList]; omega
        rw [e]; exact hfz
      · simp only [List.size_toArray, List.length_append, List.length_take, List.length_drop, Array.length_toList]; omega
      · show (cur.toList.take l.length ++ byteCells bs ++ cur.toList.drop (l.length + (byteCells bs).length)).take (l ++ bs).length = _
        rw [List.take_left' (by simp only [List.length_append, List.length_take, Array.length_toList, hbl]; omega), ht]
        unfold byteCells
        rw [List.map_append]
    · rw [setCells_rowF g _ fz _ _ cur w hg (by omega)]
      exact ⟨rfl, rfl, rfl, by simp, fun k _ hk => setRow_other w g k _ (fun e => hk (by rw [e]; rfl))⟩
  · have hold : (Builtin.firstCells i0.size l.length (.slice (some ⟨g, 0, none⟩) l.length cap)).run Try.prog w.drew = .ok (byteCells l).toArray w.drew := by
      rw [hz1]
      refine run_firstCells_some w.drew 1 l.length ⟨g, 0, none⟩ l.length cap (byteCells l) (by rw [byteCells_len, Nat.mul_one]) (fun j u hj => ?_)
      have e : (⟨g, 0, none⟩ : Addr).add j = ⟨g, j, none⟩ := by unfold Addr.add; split <;> simp_all
      have hgd : w.drew.heap[g]? = some (.cells cur 5 fz) := hg
      rw [e, cell_of_row w.drew g j cur _ fz hgd, ← Array.getElem?_toList]
      rw [← ht, List.getElem?_take] at hj
      split at hj
      · exact hj
      · cases hj
    have hr := run_append_grow_src (P := Try.prog) w 42 tx ty 5 i0 (.int .u8 0) Try.underlying42 hi hz0 (some ⟨g, 0, none⟩) l.length cap (byteCells l) hold xv bs.length (byteCells bs) (by rw [hz1]; exact hsrc) (by omega) (by omega) (by rw [hz2]; exact growslice_fits (by omega) (by omega))
    refine ⟨_, _, hr, ?_, ⟨rfl, rfl, rfl, by simp, fun k hk _ => Below.heap_alloc w.drew _ k hk⟩, .inr rfl⟩
    have hge := grownCap_ge w (l.length + bs.length) cap 5
    have hzc : (Value.int IntKind.u8 0).cells.size = 1 := rfl
    refine ⟨w.heap.size, _, _, (0, 0), by rw [List.length_append], hbase, heap_alloc_new w.drew _, .inr rfl, by rw [List.length_append]; exact hge, grownCap_le_maxLen w _ cap _ (by unfold maxLen; omega), ?_, ?_⟩
    · simp only [Array.size_append, List.size_toArray, List.length_append, size_zeroCells, hzc, byteCells_len]; omega
    · rw [Array.toList_append]
      show (byteCells l ++ byteCells bs ++ _).take (l ++ bs).length = _
      rw [List.take_left' (by simp [byteCells_len])]
      unfold byteCells
      rw [List.map_append]

theorem wpList_append_buf {w : World} {ops : Array Oper} {rest : List Oper} {o : Oper} {a : Act} {Q : Exit → Act → World → Prop} (hgd : o.guard = none) (sl x : Operand) (tx : TypeId)
    (ho : o.op = .call { callee := .builtin .append, args := #[sl, x], argTypes := #[42, tx] })
    (base : Nat) (v xv : Value) (l bs : List UInt8) (hs : a.eval sl = v) (h : Buf w base v l) (hx : a.eval x = xv) (hsrc : Src Try.prog 1 tx xv bs.length (byteCells bs) w) (hlen : l.length + bs.length ≤ 140737488355328) (hbase : base ≤ w.heap.size)
    (hK : ∀ v' w', Buf w' base v' (l ++ bs) → w.grownBy w' v.ownBlock → (v'.ownBlock = v.ownBlock ∨ v'.ownBlock = some w.heap.size) → wpList Try.prog ops Q rest (a.put o.dst v') w') : wpList Try.prog ops Q (o :: rest) a w := by
  refine wpList_plain hgd fun K hK' => ?_
  obtain ⟨v', w', hr, h2, h3, h4⟩ := run_append_buf w base v xv l bs tx o.type h hsrc hlen hbase
  unfold Oper.wp execOp
  simp only [ho, resolve, invoke, builtin, Sem.run_bind, Sem.run_pure, Result.andThen_ok, List.map_toArray, List.map_cons, List.map_nil, hs, hx, hr]
  exact hK' _ _ (hK v' w' h2 h3 h4)

/-- What is appended: a string, or one byte that was just laid. -/
theorem src_str (w : World) (s : ByteArray) : Src Try.prog 1 9 (.string s) s.data.toList.length (byteCells s.data.toList) w := Src.ofString w Try.underlying9 s
theorem src_list (w : World) (l : List UInt8) : Src Try.prog 1 9 (.string ⟨l.toArray⟩) l.length (byteCells l) w := by
  have := src_str w ⟨l.toArray⟩
  simpa using this
theorem src_byte (w : World) (c : UInt8) (N : Nat) (h : w.heap.size = N) : Src Try.prog 1 42 (.slice (some ⟨N, 0, none⟩) 1 1) [c].length (byteCells [c]) (w.alloc (.cells #[.int .u8 (c.toNat : Int)] 5)) := by
  subst h
  exact Src.ofSlice _ Try.underlying42 ⟨w.heap.size, 0, none⟩ 1 1 (byteCells [c]) rfl (cell_one_new w _ _) (byteCells_one _)

theorem Buf.conv {w : World} {base : Nat} {v : Value} {l : List UInt8} (h : Buf w base v l) : (convert 42 9 v).run Try.prog w = .ok (.string ⟨l.toArray⟩) w := by
  obtain ⟨g, cap, cur, fz, rfl, hb, hg, _, _, _, _, ht⟩ := h
  refine run_convert_bytes_back w 42 9 5 ⟨g, 0, none⟩ cap l Try.underlying42 Try.underlying5 Try.underlying9 (fun j hj => ?_)
  have e : (⟨g, 0, none⟩ : Addr).add j = ⟨g, j, none⟩ := by unfold Addr.add; split <;> simp_all
  rw [e, cell_of_row w g j cur _ fz hg, ← Array.getElem?_toList]
  have h1 : (cur.toList.take l.length)[j]? = (byteCells l)[j]? := by rw [ht]
  rw [List.getElem?_take, if_pos hj] at h1
  rw [h1]
  simp [byteCells, hj]

end Go.Proofs.Ytndfpbolneofmaa
