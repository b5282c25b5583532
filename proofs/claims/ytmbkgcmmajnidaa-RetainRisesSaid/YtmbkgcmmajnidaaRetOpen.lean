/-
  Segments handed in, alone or within what stage 11 hands in by value.
-/
import Derived.Test.YtmbkgcmmajnidaaRetVal
import Derived.Lib.SmallJoins
import Derived.Deep.Slices
import Derived.Deep.Fields
import Derived.ChangeSame
namespace Go.Proofs.Ytmbkgcmmajnidaa.Rts
open Go.RowKit Go.ChangeShapes Go.WideShapes Go.Deep Go.Joins Go.Proofs.Ytmbkgcmmajnidaa.Rt

theorem i64_wf {n : Int} (h : (Lit.int .i64 n).wf = true) : -9223372036854775808 ≤ n ∧ n ≤ 9223372036854775807 := by
  simpa [Lit.wf, IntKind.min, IntKind.max, IntKind.signed, IntKind.bits] using h
theorem u16_wf {n : Int} (h : (Lit.int .u16 n).wf = true) : 0 ≤ n ∧ n ≤ 65535 := by
  simpa [Lit.wf, IntKind.min, IntKind.max, IntKind.signed, IntKind.bits] using h
/-- A slice in memory, element by element. -/
theorem isL_of {α : Type} {Y : Lay α} {w : World} {b off cap : Nat} {l : List α} (hm : l.length ≤ maxLen) (hok : ∀ x ∈ l, Y.ok x)
    (hc : ∀ i, i < l.length → ∀ r u, (Y.enc (l.getD i Y.z))[r]? = some u → w.cell? ⟨b, off + (i * Y.k + r), none⟩ = some u) : IsL Y w (.slice (some ⟨b, off, none⟩) l.length cap) l := by
  refine ⟨_, cap, rfl, hm, hok, .inr ⟨b, off, rfl, fun j u hj => ?_⟩⟩
  have hlt := (List.getElem?_eq_some_iff.1 hj).1
  rw [Y.vals_len] at hlt
  have hk := Y.pos
  have h1 : j / Y.k < l.length := Nat.div_lt_of_lt_mul (by rw [Nat.mul_comm]; exact hlt)
  have h2 : j % Y.k < Y.k := Nat.mod_lt _ hk
  have e : j = j / Y.k * Y.k + j % Y.k := by rw [Nat.mul_comm]; exact (Nat.div_add_mod j Y.k).symm
  have h3 := Y.vals_get l (j / Y.k) (j % Y.k) h1 h2
  rw [← e, hj] at h3
  have := hc (j / Y.k) h1 (j % Y.k) u h3.symm
  rwa [← e] at this

/-- Segments as they come in. -/
structure IsSgs (w : World) (v : Value) (l : List Sg) : Prop where
  l : IsL SL w v l
  c : CapOk v
section
variable {H : Type} {enc : TypeId × Value → H} {w : World} {base : Nat} {spare : Nat → Bool} {held : Bool}
/-- A slice of segments. -/
theorem open_sgsC {n : Nat} {cs : List Value} {y : DataW H × List MemPlace} (h : DataW.trod enc Try.prog w base spare held n 22 cs = some y) : ∃ a l c ms, cs = [.slice a l c] ∧ IsSgs w (.slice a l c) ms := by
  rcases open_slice Try.underlying22 h with ⟨hc, _⟩ | ⟨x, len, cap, m, n, D, Pl, hc, _, hl, hm, hmm, _, hi⟩
  · exact ⟨none, 0, 0, [], hc, IsL.nil w none 0, CapOk.mk (Nat.le_refl _)⟩
  · refine ⟨some x, len, cap, ?_⟩
    have hlm : len ≤ m := by rw [hmm]; split <;> omega
    have hC : Try.prog.cellsOf 29 = 3 := by kernel_rfl
    have hO : Try.prog.cellsOf 3 = 1 := by kernel_rfl
    rw [hC] at hi
    have key : ∀ i, i < len → ∃ r : Sg, SgB r ∧ ∀ j u, (sgCells r)[j]? = some u → w.cell? ((x.add (i * 3)).add j) = some u := by
      intro i hil
      obtain ⟨cs', hcs, ht⟩ := hi i (by omega)
      obtain ⟨_, hlen, hat⟩ := World.cells?_some hcs
      obtain ⟨y0, y1, y2, n', _, _, h0, h1, h2⟩ := trod_struct3 Try.underlying29 ht
      obtain ⟨rb, hb, _, wb⟩ := DataW.trod_int Try.underlying3 h0
      obtain ⟨rn, hn, _, wn⟩ := DataW.trod_int Try.underlying3 h1
      obtain ⟨rz, hz, _, wz⟩ := DataW.trod_int Try.underlying3 h2
      obtain ⟨c0, c1, c2, rfl⟩ : ∃ c0 c1 c2, cs' = [c0, c1, c2] := by
        match cs', hlen with
        | [c0, c1, c2], _ => exact ⟨c0, c1, c2, rfl⟩
      simp [hO] at hb hn hz
      subst hb hn hz
      refine ⟨⟨rb, rn, rz⟩, ⟨i64_wf wb, i64_wf wn, i64_wf wz⟩, fun j u hj => ?_⟩
      have hjl : j < 3 := (List.getElem?_eq_some_iff.1 hj).1
      have := hat j hjl
      exact this.trans hj
    obtain ⟨f, hf'⟩ : ∃ f : Nat → Sg, ∀ i, i < len → SgB (f i) ∧ ∀ j u, (sgCells (f i))[j]? = some u → w.cell? ((x.add (i * 3)).add j) = some u := by
      refine ⟨fun i => if h : i < len then Classical.choose (key i h) else zero, fun i h => ?_⟩
      simp only [dif_pos h]
      exact Classical.choose_spec (key i h)
    have hlen : ((List.range len).map f).length = len := by simp
    have hall : ∀ r ∈ (List.range len).map f, SgB r := fun r hr => by
      rw [List.mem_map] at hr
      obtain ⟨i, hi', rfl⟩ := hr
      exact (hf' i (by simpa using hi')).1
    refine ⟨(List.range len).map f, hc, ?_, CapOk.mk hl⟩
    by_cases h0 : len = 0
    · subst h0
      exact IsL.nil w _ cap
    · obtain ⟨b, off, spot⟩ := x
      have h1 := (hf' 0 (by omega)).2 0 _ rfl
      rw [Nat.zero_mul] at h1
      have hspot : spot = none := by simpa [Addr.add] using World.cell?_spot h1
      subst hspot
      have := isL_of (Y := SL) (w := w) (b := b) (off := off) (cap := cap) (l := (List.range len).map f) (by rw [hlen]; omega) hall (fun i hi' r u hu => by
        rw [hlen] at hi'
        have e : ((List.range len).map f).getD i SL.z = f i := by simp [List.getD_eq_getElem?_getD, hi']
        rw [e] at hu
        have := (hf' i hi').2 r u hu
        rw [addr_plain, addr_plain] at this
        rw [← Nat.add_assoc]
        exact this)
      rw [hlen] at this
      exact this
theorem open_sgs {a : Option Addr} {len cap : Nat} {d : DataW H} {p : List MemPlace} (h : DataW.Trod enc Try.prog w base spare held 22 (.slice a len cap) d p) : ∃ l, IsSgs w (.slice a len cap) l := by
  obtain ⟨fuel, hf⟩ := h
  obtain ⟨a', l', c', ks, e, hk⟩ := open_sgsC hf
  simp [Value.cells] at e
  obtain ⟨rfl, rfl, rfl⟩ := e
  exact ⟨ks, hk⟩

/-- Segments, how much may be kept, and how much more. -/
structure Mo where
  a : Option Addr
  n : Nat
  c : Nat
  l : List Sg
  k : Int
  t : Int
  x : Int
  y : Int
def moVal (x : Mo) : Value := .agg #[.slice x.a x.n x.c, .int .i64 x.k, .int .i64 x.t, .int .u16 x.x, .int .u16 x.y]
structure MoOk (w : World) (g : Mo) : Prop where
  l : IsSgs w (.slice g.a g.n g.c) g.l
  k : -9223372036854775808 ≤ g.k ∧ g.k ≤ 9223372036854775807
  t : -9223372036854775808 ≤ g.t ∧ g.t ≤ 9223372036854775807
  x : 0 ≤ g.x ∧ g.x ≤ 65535
  y : 0 ≤ g.y ∧ g.y ≤ 65535
theorem open_more {r : Reach} {b0 : Nat} {v : Value} {d : DataW H} {p : List MemPlace}
    (hv : Value.okWide Try.prog w r b0 33 v) (h : DataW.Trod enc Try.prog w base spare held 33 v d p) : ∃ x, v = moVal x ∧ MoOk w x := by
  have hC : Try.prog.cellsOf 33 = 5 := by kernel_rfl
  have hS : Try.prog.cellsOf 22 = 1 := by kernel_rfl
  have hO : Try.prog.cellsOf 3 = 1 := by kernel_rfl
  have hA : Try.prog.cellsOf 31 = 2 := by kernel_rfl
  have hB : Try.prog.cellsOf 30 = 1 := by kernel_rfl
  obtain ⟨cs, rfl, hsz⟩ := okWide_struct Try.underlying33 hv
  obtain ⟨l⟩ := cs
  match l, hsz.trans hC with
  | [c0, c1, c2, c3, c4], _ =>
    obtain ⟨fuel, hf⟩ := h
    obtain ⟨y0, y1, y2, y3, n, _, _, h0, h1, h2, h3⟩ := trod_struct4 Try.underlying33 hf
    simp [Value.cells, hS, hO, hA] at h0 h1 h2 h3
    obtain ⟨ka, kn, kc, ks, hkc, hks⟩ := open_sgsC h0
    obtain ⟨rk, hk, _, wk⟩ := DataW.trod_int Try.underlying3 h1
    obtain ⟨rt, ht, _, wt⟩ := DataW.trod_int Try.underlying3 h2
    obtain ⟨xs, m, _, _, _, hlen, hi⟩ := DataW.trod_array Try.underlying31 h3
    have i0 := hi 0 (by omega)
    have i1 := hi 1 (by omega)
    simp [hB] at i0 i1
    match xs, hlen with
    | [x0, x1], _ =>
      obtain ⟨ra, ha, _, wa⟩ := DataW.trod_int Try.underlying30 i0
      obtain ⟨rb, hb, _, wb⟩ := DataW.trod_int Try.underlying30 i1
      simp at hkc hk ht ha hb
      subst hkc hk ht ha hb
      exact ⟨⟨ka, kn, kc, ks, rk, rt, ra, rb⟩, rfl, ⟨hks, i64_wf wk, i64_wf wt, u16_wf wa, u16_wf wb⟩⟩
end

end Go.Proofs.Ytmbkgcmmajnidaa.Rts
