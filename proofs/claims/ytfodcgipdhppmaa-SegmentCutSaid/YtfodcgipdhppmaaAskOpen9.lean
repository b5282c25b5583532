/-
  An ask of layer 9 handed in by value: four cells.
-/
import Derived.Test.YtfodcgipdhppmaaLaw09S
import Derived.Lib.SmallJoins
import Derived.Deep.Fields
import Derived.ChangeSame
namespace Go.Proofs.Ytfodcgipdhppmaa
open Go.RowKit Go.ChangeShapes Go.WideShapes Go.Deep Go.Joins

theorem wf_i64 {n : Int} (h : (Lit.int .i64 n).wf = true) : -9223372036854775808 ≤ n ∧ n ≤ 9223372036854775807 := by
  simpa [Lit.wf, IntKind.min, IntKind.max, IntKind.signed, IntKind.bits] using h
theorem wf_u8 {n : Int} (h : (Lit.int .u8 n).wf = true) : 0 ≤ n ∧ n ≤ 255 := by
  simpa [Lit.wf, IntKind.min, IntKind.max, IntKind.signed, IntKind.bits] using h
theorem wf_u16 {n : Int} (h : (Lit.int .u16 n).wf = true) : 0 ≤ n ∧ n ≤ 65535 := by
  simpa [Lit.wf, IntKind.min, IntKind.max, IntKind.signed, IntKind.bits] using h

theorem open_ask9 {H : Type} {enc : TypeId × Value → H} {w : World} {base : Nat} {spare : Nat → Bool} {held : Bool} {r : Reach} {b0 : Nat} {v : Value} {d : DataW H} {p : List MemPlace}
    (hv : Value.okWide Try.prog w r b0 33 v) (h : DataW.Trod enc Try.prog w base spare held 33 v d p) : ∃ x : Ask9, v = x.val ∧ x.Ok := by
  have hC : Try.prog.cellsOf 33 = 4 := by kernel_rfl
  have hS : Try.prog.cellsOf 9 = 1 := by kernel_rfl
  have hO : Try.prog.cellsOf 3 = 1 := by kernel_rfl
  have hB : Try.prog.cellsOf 5 = 1 := by kernel_rfl
  obtain ⟨cs, rfl, hsz⟩ := okWide_struct Try.underlying33 hv
  obtain ⟨l⟩ := cs
  match l, hsz.trans hC with
  | [c0, c1, c2, c3], _ =>
    obtain ⟨fuel, hf⟩ := h
    obtain ⟨y0, y1, y2, y3, n, _, _, h0, h1, h2, h3⟩ := trod_struct4 Try.underlying33 hf
    simp [Value.cells, hS, hO, hB] at h0 h1 h2 h3
    obtain ⟨rs, hs, _, ws⟩ := DataW.trod_string Try.underlying9 h0
    obtain ⟨rb, hb, _, wb⟩ := DataW.trod_int Try.underlying3 h1
    obtain ⟨ro, ho, _, wo⟩ := DataW.trod_int Try.underlying3 h2
    obtain ⟨re, he, _, we⟩ := DataW.trod_int Try.underlying5 h3
    simp at hs hb ho he
    subst hs hb ho he
    unfold maxLen at ws
    exact ⟨⟨rs, rb, ro, re⟩, rfl, ⟨ws, wf_i64 wb, wf_i64 wo, wf_u8 we⟩⟩

end Go.Proofs.Ytfodcgipdhppmaa
