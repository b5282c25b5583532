/-
  A record handed in, and a slice of records handed in, as records; a slice of records in memory, as a list.
-/
import Derived.Test.YtfodcgipdhppmaaRecVal
import Derived.Lib.SmallJoins
import Derived.Deep.Slices
import Derived.Deep.Strs
import Derived.ChangeArms
namespace Go.Proofs.Ytfodcgipdhppmaa
open Go.RowKit Go.ChangeShapes Go.WideShapes Go.Deep Go.Joins

theorem i64_wf {n : Int} (h : (Lit.int .i64 n).wf = true) : -9223372036854775808 ≤ n ∧ n ≤ 9223372036854775807 := by
  simpa [Lit.wf, IntKind.min, IntKind.max, IntKind.signed, IntKind.bits] using h

/-- The value v is a slice whose elements are these records. -/
def IsRecs (w : World) (v : Value) (rs : List Rp.Rec) : Prop :=
  ∃ a cap, v = .slice a rs.length cap ∧ rs.length ≤ maxLen ∧ (∀ r ∈ rs, RecOk r) ∧
    (rs = [] ∨ ∃ b off, a = some ⟨b, off, none⟩ ∧ ∀ i, i < rs.length →
      w.cell? ⟨b, off + i * 3, none⟩ = some (.int .i64 (rs.getD i Rp.zero).a) ∧ w.cell? ⟨b, off + i * 3 + 1, none⟩ = some (.int .i64 (rs.getD i Rp.zero).t) ∧ w.cell? ⟨b, off + i * 3 + 2, none⟩ = some (.string (rs.getD i Rp.zero).d))
theorem IsRecs.below {B : Nat} {w w' : World} {v : Value} {rs : List Rp.Rec} (h : IsRecs w v rs) (hb : Below B w w') (hB : w.heap.size ≤ B) : IsRecs w' v rs := by
  obtain ⟨a, cap, rfl, h1, h2, h3⟩ := h
  refine ⟨a, cap, rfl, h1, h2, ?_⟩
  rcases h3 with h3 | ⟨b, off, rfl, h4⟩
  · exact .inl h3
  · refine .inr ⟨b, off, rfl, fun i hi => ?_⟩
    obtain ⟨c0, c1, c2⟩ := h4 i hi
    have hl := Nat.lt_of_lt_of_le (block_lt_of_cell c0) hB
    exact ⟨(hb.cell (p := ⟨b, off + i * 3, none⟩) hl).trans c0, (hb.cell (p := ⟨b, off + i * 3 + 1, none⟩) hl).trans c1, (hb.cell (p := ⟨b, off + i * 3 + 2, none⟩) hl).trans c2⟩
theorem IsRecs.nil (w : World) (a : Option Addr) (cap : Nat) : IsRecs w (.slice a 0 cap) [] := ⟨a, cap, rfl, by simp, by simp, .inl rfl⟩

section
variable {H : Type} {enc : TypeId × Value → H} {w : World} {base : Nat} {spare : Nat → Bool} {held : Bool}

/-- A record handed in. -/
theorem open_rec {r : Reach} {b0 : Nat} {v : Value} {d : DataW H} {p : List MemPlace} (hv : Value.okWide Try.prog w r b0 35 v) (h : DataW.Trod enc Try.prog w base spare held 35 v d p) :
    ∃ x, v = recVal x ∧ RecOk x := by
  obtain ⟨v0, v1, v2, y0, y1, y2, n, rfl, _, _, h0, h1, h2⟩ := open_agg3 Try.underlying35 (by kernel_rfl) (by kernel_rfl) hv h
  obtain ⟨a, ha, _, wa⟩ := DataW.trod_int Try.underlying3 h0
  obtain ⟨t, ht, _, wt⟩ := DataW.trod_int Try.underlying3 h1
  obtain ⟨s, hs, _, ws⟩ := DataW.trod_string Try.underlying9 h2
  simp only [List.cons.injEq, and_true] at ha ht hs
  subst ha ht hs
  have ba := i64_wf wa
  have bt := i64_wf wt
  unfold maxLen at ws
  exact ⟨⟨a, t, s⟩, rfl, ba.1, ba.2, bt.1, bt.2, ws⟩

theorem add_plain (b off j : Nat) : (⟨b, off, none⟩ : Addr).add j = ⟨b, off + j, none⟩ := by
  unfold Addr.add
  split <;> simp_all

/-- A slice of records handed in. -/
theorem open_recs {a : Option Addr} {len cap : Nat} {d : DataW H} {p : List MemPlace} (h : DataW.Trod enc Try.prog w base spare held 23 (.slice a len cap) d p) :
    ∃ rs, IsRecs w (.slice a len cap) rs := by
  obtain ⟨fuel, hf⟩ := h
  rcases open_slice Try.underlying23 hf with ⟨hc, _⟩ | ⟨x, l, c, m, n, D, Pl, hc, _, hl, hm, hmm, _, hi⟩
  · simp [Value.cells] at hc
    obtain ⟨rfl, rfl, rfl⟩ := hc
    exact ⟨[], IsRecs.nil w none 0⟩
  · simp [Value.cells] at hc
    obtain ⟨rfl, rfl, rfl⟩ := hc
    have hlm : len ≤ m := by rw [hmm]; split <;> omega
    have hC : Try.prog.cellsOf 35 = 3 := by kernel_rfl
    have hO : Try.prog.cellsOf 3 = 1 := by kernel_rfl
    have hS : Try.prog.cellsOf 9 = 1 := by kernel_rfl
    rw [hC] at hi
    have key : ∀ i, i < len → ∃ r : Rp.Rec, RecOk r ∧ w.cell? (x.add (i * 3)) = some (.int .i64 r.a) ∧ w.cell? ((x.add (i * 3)).add 1) = some (.int .i64 r.t) ∧ w.cell? ((x.add (i * 3)).add 2) = some (.string r.d) := by
      intro i hil
      obtain ⟨cs', hcs, ht⟩ := hi i (by omega)
      obtain ⟨_, hlen, hat⟩ := World.cells?_some hcs
      obtain ⟨y0, y1, y2, n', _, _, h0, h1, h2⟩ := trod_struct3 Try.underlying35 ht
      obtain ⟨ra, ha, _, wa⟩ := DataW.trod_int Try.underlying3 h0
      obtain ⟨rt, ht, _, wt⟩ := DataW.trod_int Try.underlying3 h1
      obtain ⟨rs, hs, _, ws⟩ := DataW.trod_string Try.underlying9 h2
      obtain ⟨c0, c1, c2, rfl⟩ : ∃ c0 c1 c2, cs' = [c0, c1, c2] := by
        match cs', hlen with
        | [c0, c1, c2], _ => exact ⟨c0, c1, c2, rfl⟩
      simp [hO, hS] at ha ht hs
      have ba := i64_wf wa
      have bt := i64_wf wt
      unfold maxLen at ws
      refine ⟨⟨ra, rt, rs⟩, ⟨ba.1, ba.2, bt.1, bt.2, ws⟩, ?_, ?_, ?_⟩
      · have := hat 0 (by omega); simpa [ha, Addr.add] using this
      · have := hat 1 (by omega); simpa [ht] using this
      · have := hat 2 (by omega); simpa [hs] using this
    obtain ⟨f, hf'⟩ : ∃ f : Nat → Rp.Rec, ∀ i, i < len → RecOk (f i) ∧ w.cell? (x.add (i * 3)) = some (.int .i64 (f i).a) ∧ w.cell? ((x.add (i * 3)).add 1) = some (.int .i64 (f i).t) ∧ w.cell? ((x.add (i * 3)).add 2) = some (.string (f i).d) := by
      refine ⟨fun i => if h : i < len then Classical.choose (key i h) else Rp.zero, fun i h => ?_⟩
      simp only [dif_pos h]
      exact Classical.choose_spec (key i h)
    have hlen : ((List.range len).map f).length = len := by simp
    refine ⟨(List.range len).map f, some x, cap, by rw [hlen], by rw [hlen]; omega, ?_, ?_⟩
    · intro r hr
      rw [List.mem_map] at hr
      obtain ⟨i, hi', rfl⟩ := hr
      exact (hf' i (by simpa using hi')).1
    · by_cases h0 : len = 0
      · subst h0; exact .inl rfl
      · obtain ⟨b, off, spot⟩ := x
        have h1 := (hf' 0 (by omega)).2.1
        rw [Nat.zero_mul] at h1
        have hspot : spot = none := by simpa [Addr.add] using World.cell?_spot h1
        subst hspot
        refine .inr ⟨b, off, rfl, fun i hi' => ?_⟩
        rw [hlen] at hi'
        have e : ((List.range len).map f).getD i Rp.zero = f i := by simp [List.getD_eq_getElem?_getD, hi']
        rw [e]
        obtain ⟨_, c0, c1, c2⟩ := hf' i hi'
        rw [add_plain] at c0 c1 c2
        rw [add_plain] at c1 c2
        exact ⟨c0, c1, c2⟩
end

section
variable {H : Type} {enc : TypeId × Value → H} {w : World} {base : Nat} {spare : Nat → Bool} {held : Bool}
/-- A slice of records handed in is no longer than its capacity. -/
theorem recs_cap {a : Option Addr} {len cap : Nat} {d : DataW H} {p : List MemPlace} (h : DataW.Trod enc Try.prog w base spare held 23 (.slice a len cap) d p) : CapOk (.slice a len cap) := by
  obtain ⟨fuel, hf⟩ := h
  rcases open_slice Try.underlying23 hf with ⟨hc, _⟩ | ⟨x, l, c, m, n, D, Pl, hc, _, hl, _⟩
  · simp [Value.cells] at hc
    obtain ⟨rfl, rfl, rfl⟩ := hc
    exact CapOk.mk (Nat.le_refl _)
  · simp [Value.cells] at hc
    obtain ⟨rfl, rfl, rfl⟩ := hc
    exact CapOk.mk hl
end

/-- The records up to a place, and from it on. -/
theorem IsRecs.take {w : World} {a : Option Addr} {n cap k : Nat} {rs : List Rp.Rec} (h : IsRecs w (.slice a n cap) rs) (hk : k ≤ n) : IsRecs w (.slice a k cap) (rs.take k) := by
  obtain ⟨a', cap', e, h1, h2, h3⟩ := h
  injection e with e1 e2 e3
  subst e1 e2 e3
  have hl : (rs.take k).length = k := by rw [List.length_take]; omega
  refine ⟨a, cap, by rw [hl], by omega, fun r hr => h2 r (List.mem_of_mem_take hr), ?_⟩
  rcases h3 with rfl | ⟨b, off, rfl, h4⟩
  · exact .inl (by simp)
  · refine .inr ⟨b, off, rfl, fun i hi => ?_⟩
    rw [hl] at hi
    have e : (rs.take k).getD i Rp.zero = rs.getD i Rp.zero := by simp [List.getD_eq_getElem?_getD, hi]
    rw [e]
    exact h4 i (by omega)
theorem IsRecs.drop {w : World} {b off n cap k : Nat} {rs : List Rp.Rec} (h : IsRecs w (.slice (some ⟨b, off, none⟩) n cap) rs) (hk : k ≤ n) (hc : n ≤ cap) : IsRecs w (.slice (if cap = k then some ⟨b, off, none⟩ else some ⟨b, off + k * 3, none⟩) (n - k) (cap - k)) (rs.drop k) := by
  obtain ⟨a', cap', e, h1, h2, h3⟩ := h
  injection e with e1 e2 e3
  subst e1 e2 e3
  have hl : (rs.drop k).length = rs.length - k := by rw [List.length_drop]
  refine ⟨_, cap - k, by rw [hl], by omega, fun r hr => h2 r (List.mem_of_mem_drop hr), ?_⟩
  rcases Nat.lt_or_ge k rs.length with hlt | hge
  · rw [if_neg (by omega)]
    rcases h3 with rfl | ⟨b', off', e, h4⟩
    · simp at hlt
    · injection e with e
      injection e with e1 e2
      subst e1 e2
      refine .inr ⟨b, off + k * 3, rfl, fun i hi => ?_⟩
      rw [hl] at hi
      have e : (rs.drop k).getD i Rp.zero = rs.getD (k + i) Rp.zero := by simp [List.getD_eq_getElem?_getD, List.getElem?_drop]
      rw [e]
      have := h4 (k + i) (by omega)
      rw [show off + (k + i) * 3 = off + k * 3 + i * 3 by omega] at this
      exact this
  · exact .inl (List.drop_eq_nil_of_le hge)

end Go.Proofs.Ytfodcgipdhppmaa
