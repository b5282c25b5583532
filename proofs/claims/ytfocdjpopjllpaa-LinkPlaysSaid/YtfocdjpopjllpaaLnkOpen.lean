/-
  Texts and acts handed in, alone or within what stage 17 hands in by value.
-/
import Derived.Test.YtfocdjpopjllpaaLnkPlay
import Derived.Lib.SmallJoins
import Derived.Deep.Slices
import Derived.Deep.Fields
import Derived.ChangeSame
namespace Go.Proofs.Ytfocdjpopjllpaa.Lk
open Go.RowKit Go.ChangeShapes Go.WideShapes Go.Deep Go.Joins

theorem u8_wf17 {n : Int} (h : (Lit.int .u8 n).wf = true) : 0 ≤ n ∧ n ≤ 255 := by
  simpa [Lit.wf, IntKind.min, IntKind.max, IntKind.signed, IntKind.bits] using h
/-- A slice in memory, element by element. -/
theorem isL_of17 {α : Type} {Y : Lay α} {w : World} {b off cap : Nat} {l : List α} (hm : l.length ≤ maxLen) (hcap : l.length ≤ cap) (hok : ∀ x ∈ l, Y.ok x)
    (hc : ∀ i, i < l.length → ∀ r u, (Y.enc (l.getD i Y.z))[r]? = some u → w.cell? ⟨b, off + (i * Y.k + r), none⟩ = some u) : IsL Y w (.slice (some ⟨b, off, none⟩) l.length cap) l := by
  refine ⟨_, cap, rfl, ⟨hm, hcap⟩, hok, .inr ⟨b, off, rfl, fun j u hj => ?_⟩⟩
  have hlt := (List.getElem?_eq_some_iff.1 hj).1
  rw [Y.vals_len] at hlt
  have hk := Y.pos
  have h1 : j / Y.k < l.length := Nat.div_lt_of_lt_mul (by rw [Nat.mul_comm]; exact hlt)
  have h2 : j % Y.k < Y.k := Nat.mod_lt _ hk
  have e : j = j / Y.k * Y.k + j % Y.k := by rw [Nat.mul_comm]; exact (Nat.div_add_mod j Y.k).symm
  have h3 := Y.vals_get l (j / Y.k) (j % Y.k) h1 h2
  rw [← e, hj] at h3
  have := hc (j / Y.k) h1 (j % Y.k) u h3.symm
  rwa [← e] at this
/-- Elements at an address, one by one, are a list. -/
theorem isL_at17 {α : Type} {Y : Lay α} {w : World} {x : Addr} {len cap : Nat} (hl : len ≤ cap) (hm : len ≤ maxLen)
    (key : ∀ i, i < len → ∃ r : α, Y.ok r ∧ ∀ j u, (Y.enc r)[j]? = some u → w.cell? ((x.add (i * Y.k)).add j) = some u) : ∃ ms, IsL Y w (.slice (some x) len cap) ms := by
  obtain ⟨f, hf'⟩ : ∃ f : Nat → α, ∀ i, i < len → Y.ok (f i) ∧ ∀ j u, (Y.enc (f i))[j]? = some u → w.cell? ((x.add (i * Y.k)).add j) = some u := by
    classical
    refine ⟨fun i => if h : i < len then Classical.choose (key i h) else Y.z, fun i h => ?_⟩
    simp only [dif_pos h]
    exact Classical.choose_spec (key i h)
  have hlen : ((List.range len).map f).length = len := by simp
  have hall : ∀ r ∈ (List.range len).map f, Y.ok r := fun r hr => by
    rw [List.mem_map] at hr
    obtain ⟨i, hi', rfl⟩ := hr
    exact (hf' i (by simpa using hi')).1
  refine ⟨(List.range len).map f, ?_⟩
  by_cases h0 : len = 0
  · subst h0
    exact IsL.nil w _ cap
  · obtain ⟨b, off, spot⟩ := x
    obtain ⟨u, hu⟩ : ∃ u, (Y.enc (f 0))[0]? = some u := by
      have h : 0 < (Y.enc (f 0)).length := by rw [Y.len]; exact Y.pos
      exact ⟨_, List.getElem?_eq_getElem h⟩
    have h1 := (hf' 0 (by omega)).2 0 u hu
    rw [Nat.zero_mul] at h1
    have hspot : spot = none := by simpa [Addr.add] using World.cell?_spot h1
    subst hspot
    have := isL_of17 (Y := Y) (w := w) (b := b) (off := off) (cap := cap) (l := (List.range len).map f) (by rw [hlen]; exact hm) (by rw [hlen]; exact hl) hall (fun i hi' r u hu => by
      rw [hlen] at hi'
      have e : ((List.range len).map f).getD i Y.z = f i := by simp [List.getD_eq_getElem?_getD, hi']
      rw [e] at hu
      have := (hf' i hi').2 r u hu
      rw [addr_plain, addr_plain] at this
      rw [← Nat.add_assoc]
      exact this)
    rw [hlen] at this
    exact this

section
variable {H : Type} {enc : TypeId × Value → H} {w : World} {base : Nat} {spare : Nat → Bool} {held : Bool}
set_option maxRecDepth 100000 in
/-- A slice of acts. -/
theorem open_acC17 {n : Nat} {cs : List Value} {y : DataW H × List MemPlace} (h : DataW.trod enc Try.prog w base spare held n 36 cs = some y) : ∃ a l c ms, cs = [.slice a l c] ∧ IsL AL w (.slice a l c) ms := by
  rcases open_slice Try.underlying36 h with ⟨hc, _⟩ | ⟨x, len, cap, m, n, D, Pl, hc, _, hl, hm, hmm, _, hi⟩
  · exact ⟨none, 0, 0, [], hc, IsL.nil w none 0⟩
  · have hlm : len ≤ m := by rw [hmm]; split <;> omega
    have hC : Try.prog.cellsOf 38 = 2 := by kernel_rfl
    have hO : Try.prog.cellsOf 5 = 1 := by kernel_rfl
    rw [hC] at hi
    obtain ⟨ms, h2⟩ := isL_at17 (Y := AL) (w := w) (x := x) (len := len) (cap := cap) hl (by omega) (fun i hil => by
      obtain ⟨cs', hcs, ht⟩ := hi i (by omega)
      obtain ⟨_, hlen, hat⟩ := World.cells?_some hcs
      obtain ⟨c0, c1, rfl⟩ : ∃ c0 c1, cs' = [c0, c1] := by
        match cs', hlen with
        | [c0, c1], _ => exact ⟨c0, c1, rfl⟩
      obtain ⟨y0, y1, n', _, _, h0, h1⟩ := trod_struct2 Try.underlying38 ht
      obtain ⟨rb, hb, _, wb⟩ := DataW.trod_int Try.underlying5 h0
      obtain ⟨rn, hn, _, wn⟩ := DataW.trod_int Try.underlying5 h1
      simp [hO] at hb hn
      subst hb hn
      have b1 := u8_wf17 wb
      have b2 := u8_wf17 wn
      refine ⟨⟨rb.toNat, rn.toNat⟩, ⟨by show rb.toNat ≤ 255; omega, by show rn.toNat ≤ 255; omega⟩, fun j u hj => ?_⟩
      have hjl : j < 2 := (List.getElem?_eq_some_iff.1 hj).1
      have := hat j hjl
      have e : AL.enc ⟨rb.toNat, rn.toNat⟩ = [.int .u8 rb, .int .u8 rn] := by
        show [Value.int .u8 (rb.toNat : Int), .int .u8 (rn.toNat : Int)] = _
        rw [Int.toNat_of_nonneg b1.1, Int.toNat_of_nonneg b2.1]
      rw [e] at hj
      exact this.trans hj)
    exact ⟨some x, len, cap, ms, hc, h2⟩
set_option maxRecDepth 100000 in
theorem open_acs17 {a : Option Addr} {len cap : Nat} {d : DataW H} {p : List MemPlace} (h : DataW.Trod enc Try.prog w base spare held 36 (.slice a len cap) d p) : ∃ l, IsL AL w (.slice a len cap) l := by
  obtain ⟨fuel, hf⟩ := h
  obtain ⟨a', l', c', ks, e, hk⟩ := open_acC17 hf
  simp [Value.cells] at e
  obtain ⟨rfl, rfl, rfl⟩ := e
  exact ⟨ks, hk⟩
set_option maxRecDepth 100000 in
/-- A slice of texts. -/
theorem open_lsC {n : Nat} {cs : List Value} {y : DataW H × List MemPlace} (h : DataW.trod enc Try.prog w base spare held n 22 cs = some y) : ∃ a l c ms, cs = [.slice a l c] ∧ IsL LS w (.slice a l c) ms ∧ NilOk (.slice a l c) := by
  rcases open_slice Try.underlying22 h with ⟨hc, _⟩ | ⟨x, len, cap, m, n, D, Pl, hc, _, hl, hm, hmm, _, hi⟩
  · exact ⟨none, 0, 0, [], hc, IsL.nil w none 0, fun n c e => by injection e with _ _ e; exact e.symm⟩
  · have hlm : len ≤ m := by rw [hmm]; split <;> omega
    have hS : Try.prog.cellsOf 9 = 1 := by kernel_rfl
    rw [hS] at hi
    obtain ⟨ms, h2⟩ := isL_at17 (Y := LS) (w := w) (x := x) (len := len) (cap := cap) hl (by omega) (fun i hil => by
      obtain ⟨cs', hcs, ht⟩ := hi i (by omega)
      obtain ⟨_, hlen, hat⟩ := World.cells?_some hcs
      obtain ⟨c0, rfl⟩ : ∃ c0, cs' = [c0] := by
        match cs', hlen with
        | [c0], _ => exact ⟨c0, rfl⟩
      obtain ⟨rz, hz, _, wz⟩ := DataW.trod_string Try.underlying9 ht
      simp at hz
      subst hz
      refine ⟨rz, trivial, fun j u hj => ?_⟩
      have hjl : j < 1 := (List.getElem?_eq_some_iff.1 hj).1
      have := hat j hjl
      exact this.trans hj)
    exact ⟨some x, len, cap, ms, hc, h2, nil_some _ _ _⟩

/-- A link, a message, a place, and how many there may be. -/
structure Ask17 where
  f : Int
  t : Int
  a : Option Addr
  n : Nat
  c : Nat
  l : List ByteArray
  s : ByteArray
  k : Int
  m : Int
def Ask17.val (g : Ask17) : Value := .agg #[.int .i64 g.f, .int .i64 g.t, .slice g.a g.n g.c, .string g.s, .int .i64 g.k, .int .i64 g.m]
structure Ask17.Ok (w : World) (g : Ask17) : Prop where
  l : IsL LS w (.slice g.a g.n g.c) g.l
  n : NilOk (.slice g.a g.n g.c)
set_option maxRecDepth 100000 in
theorem open_ask17 {r : Reach} {b0 : Nat} {v : Value} {d : DataW H} {p : List MemPlace}
    (hv : Value.okWide Try.prog w r b0 26 v) (h : DataW.Trod enc Try.prog w base spare held 26 v d p) : ∃ x : Ask17, v = x.val ∧ x.Ok w := by
  have hC : Try.prog.cellsOf 26 = 6 := by kernel_rfl
  have hL : Try.prog.cellsOf 24 = 3 := by kernel_rfl
  have hT : Try.prog.cellsOf 22 = 1 := by kernel_rfl
  have hO : Try.prog.cellsOf 3 = 1 := by kernel_rfl
  have hS : Try.prog.cellsOf 9 = 1 := by kernel_rfl
  obtain ⟨cs, rfl, hsz⟩ := okWide_struct Try.underlying26 hv
  obtain ⟨l⟩ := cs
  match l, hsz.trans hC with
  | [c0, c1, c2, c3, c4, c5], _ =>
    obtain ⟨fuel, hf⟩ := h
    obtain ⟨y0, y1, y2, y3, n, _, _, h0, h1, h2, h3⟩ := trod_struct4 Try.underlying26 hf
    simp [Value.cells, hL, hO, hS] at h0 h1 h2 h3
    obtain ⟨z0, z1, z2, n', _, _, g0, g1, g2⟩ := trod_struct3 Try.underlying24 h0
    simp [hT, hO] at g0 g1 g2
    obtain ⟨rf, ef, _, _⟩ := DataW.trod_int Try.underlying3 g0
    obtain ⟨rt, et, _, _⟩ := DataW.trod_int Try.underlying3 g1
    obtain ⟨ka, kn, kc, ks, hkc, hks, hkn⟩ := open_lsC g2
    obtain ⟨rs, es, _, _⟩ := DataW.trod_string Try.underlying9 h1
    obtain ⟨rk, ek, _, _⟩ := DataW.trod_int Try.underlying3 h2
    obtain ⟨rm, em, _, _⟩ := DataW.trod_int Try.underlying3 h3
    simp at ef et hkc es ek em
    subst ef et hkc es ek em
    exact ⟨⟨rf, rt, ka, kn, kc, ks, rs, rk, rm⟩, rfl, ⟨hks, hkn⟩⟩
end

end Go.Proofs.Ytfocdjpopjllpaa.Lk
