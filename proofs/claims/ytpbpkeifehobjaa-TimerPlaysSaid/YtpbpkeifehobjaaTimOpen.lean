/-
  Acts handed in to the statements of layer 18.
-/
import Derived.Test.YtpbpkeifehobjaaTimWp
import Derived.Test.YtpbpkeifehobjaaOpn
namespace Go.Proofs.Ytpbpkeifehobjaa.Tm
open Go.RowKit Go.ChangeShapes Go.WideShapes Go.Deep Go.Joins Go.Proofs.Ytpbpkeifehobjaa.Opn

section
variable {H : Type} {enc : TypeId × Value → H} {w : World} {base : Nat} {spare : Nat → Bool} {held : Bool}
set_option maxRecDepth 100000 in
/-- A slice of acts. -/
theorem open_acC18 {n : Nat} {cs : List Value} {y : DataW H × List MemPlace} (h : DataW.trod enc Try.prog w base spare held n 22 cs = some y) : ∃ a l c ms, cs = [.slice a l c] ∧ IsL AcL w (.slice a l c) ms := by
  rcases open_slice Try.underlying22 h with ⟨hc, _⟩ | ⟨x, len, cap, m, n, D, Pl, hc, _, hl, hm, hmm, _, hi⟩
  · exact ⟨none, 0, 0, [], hc, IsL.nil w none 0⟩
  · have hlm : len ≤ m := by rw [hmm]; split <;> omega
    have hC : Try.prog.cellsOf 28 = 3 := by kernel_rfl
    have hO : Try.prog.cellsOf 3 = 1 := by kernel_rfl
    rw [hC] at hi
    obtain ⟨ms, h2⟩ := isL_atO (Y := AcL) (w := w) (x := x) (len := len) (cap := cap) hl (by omega) (fun i hil => by
      obtain ⟨cs', hcs, ht⟩ := hi i (by omega)
      obtain ⟨_, hlen, hat⟩ := World.cells?_some hcs
      obtain ⟨c0, c1, c2, rfl⟩ : ∃ c0 c1 c2, cs' = [c0, c1, c2] := by
        match cs', hlen with
        | [c0, c1, c2], _ => exact ⟨c0, c1, c2, rfl⟩
      obtain ⟨y0, y1, y2, n', _, _, h0, h1, h2⟩ := trod_struct3 Try.underlying28 ht
      simp [hO] at h0 h1 h2
      obtain ⟨r0, e0, _, w0⟩ := DataW.trod_int Try.underlying3 h0
      obtain ⟨r1, e1, _, w1⟩ := DataW.trod_int Try.underlying3 h1
      obtain ⟨r2, e2, _, w2⟩ := DataW.trod_int Try.underlying3 h2
      simp at e0 e1 e2
      subst e0 e1 e2
      exact ⟨⟨r0, r1, r2⟩, ⟨i64_wfO w0, i64_wfO w1, i64_wfO w2⟩, fun j u hj => (hat j (List.getElem?_eq_some_iff.1 hj).1).trans hj⟩)
    exact ⟨some x, len, cap, ms, hc, h2⟩
theorem open_acs18 {a : Option Addr} {len cap : Nat} {d : DataW H} {p : List MemPlace} (h : DataW.Trod enc Try.prog w base spare held 22 (.slice a len cap) d p) : ∃ l, IsL AcL w (.slice a len cap) l := by
  obtain ⟨fuel, hf⟩ := h
  obtain ⟨a', l', c', ks, e, hk⟩ := open_acC18 hf
  simp [Value.cells] at e
  obtain ⟨rfl, rfl, rfl⟩ := e
  exact ⟨ks, hk⟩
end

end Go.Proofs.Ytpbpkeifehobjaa.Tm
