/-
  An ask of layer 8 handed in by value: six cells side by side.
-/
import Derived.Test.YtailajcepjklaaaMarkOpen
namespace Go.Proofs.Ytailajcepjklaaa.Mks
open Go.RowKit Go.ChangeShapes Go.WideShapes Go.Deep Go.Joins Go.Proofs.Ytailajcepjklaaa.Mp

/-- An ask: its slice of marks, what it holds, a mark more, an offset, two bytes. -/
structure Ak where
  a : Option Addr
  n : Nat
  c : Nat
  l : List Mk
  m : Mk
  off : Int
  h0 : Int
  h1 : Int
def akVal (x : Ak) : Value := .agg #[.slice x.a x.n x.c, .int .i64 x.m.o, .int .i64 x.m.p, .int .i64 x.off, .int .u8 x.h0, .int .u8 x.h1]
structure AkOk (w : World) (x : Ak) : Prop where
  l : IsMks w (.slice x.a x.n x.c) x.l
  m : MkB x.m
  o : -9223372036854775808 ≤ x.off ∧ x.off ≤ 9223372036854775807
  h0 : 0 ≤ x.h0 ∧ x.h0 ≤ 255
  h1 : 0 ≤ x.h1 ∧ x.h1 ≤ 255

theorem open_ask {H : Type} {enc : TypeId × Value → H} {w : World} {base : Nat} {spare : Nat → Bool} {held : Bool} {r : Reach} {b0 : Nat} {v : Value} {d : DataW H} {p : List MemPlace}
    (hv : Value.okWide Try.prog w r b0 27 v) (h : DataW.Trod enc Try.prog w base spare held 27 v d p) : ∃ x, v = akVal x ∧ AkOk w x := by
  have hC : Try.prog.cellsOf 27 = 6 := by kernel_rfl
  have hS : Try.prog.cellsOf 22 = 1 := by kernel_rfl
  have hM : Try.prog.cellsOf 24 = 2 := by kernel_rfl
  have hO : Try.prog.cellsOf 3 = 1 := by kernel_rfl
  have hA : Try.prog.cellsOf 25 = 2 := by kernel_rfl
  have hB : Try.prog.cellsOf 5 = 1 := by kernel_rfl
  obtain ⟨cs, rfl, hsz⟩ := okWide_struct Try.underlying27 hv
  obtain ⟨l⟩ := cs
  match l, hsz.trans hC with
  | [c0, c1, c2, c3, c4, c5], _ =>
    obtain ⟨fuel, hf⟩ := h
    obtain ⟨y0, y1, y2, y3, n, _, _, h0, h1, h2, h3⟩ := trod_struct4 Try.underlying27 hf
    simp [Value.cells, hS, hM, hO, hA] at h0 h1 h2 h3
    obtain ⟨ka, kn, kc, ks, hkc, hks⟩ := open_mksC h0
    obtain ⟨z0, z1, n', _, _, g0, g1⟩ := trod_struct2 Try.underlying24 h1
    obtain ⟨ro, ho, _, wo⟩ := DataW.trod_int Try.underlying3 g0
    obtain ⟨rp, hp, _, wp⟩ := DataW.trod_int Try.underlying3 g1
    obtain ⟨rf, hff, _, wf⟩ := DataW.trod_int Try.underlying3 h2
    obtain ⟨xs, m, _, _, _, hlen, hi⟩ := DataW.trod_array Try.underlying25 h3
    have i0 := hi 0 (by omega)
    have i1 := hi 1 (by omega)
    simp [hB] at i0 i1
    match xs, hlen with
    | [x0, x1], _ =>
      obtain ⟨ra, ha, _, wa⟩ := DataW.trod_int Try.underlying5 i0
      obtain ⟨rb, hb, _, wb⟩ := DataW.trod_int Try.underlying5 i1
      simp [hO] at hkc ho hp hff ha hb
      subst hkc ho hp hff ha hb
      exact ⟨⟨ka, kn, kc, ks, ⟨ro, rp⟩, rf, ra, rb⟩, rfl, ⟨hks, ⟨i64_wf wo, i64_wf wp⟩, i64_wf wf, u8_wf wa, u8_wf wb⟩⟩

end Go.Proofs.Ytailajcepjklaaa.Mks
