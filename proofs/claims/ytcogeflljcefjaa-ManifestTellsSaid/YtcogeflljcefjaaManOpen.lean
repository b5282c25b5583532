/-
  A manifest handed in: four cells, the second a slice of numbers.
-/
import Derived.Test.YtcogeflljcefjaaManVal
import Derived.Deep.Slices
import Derived.Deep.Strs
import Derived.ChangeArms
import Derived.Lib.SmallJoins
import Derived.Deep.Fields
import Derived.ChangeSame
namespace Go.Proofs.Ytcogeflljcefjaa.Mfs
open Go.RowKit Go.ChangeShapes Go.WideShapes Go.Deep Go.Joins Go.Proofs.Ytcogeflljcefjaa.Qm

theorem i64_wf {n : Int} (h : (Lit.int .i64 n).wf = true) : -9223372036854775808 ≤ n ∧ n ≤ 9223372036854775807 := by
  simpa [Lit.wf, IntKind.min, IntKind.max, IntKind.signed, IntKind.bits] using h
theorem u16_wf {n : Int} (h : (Lit.int .u16 n).wf = true) : 0 ≤ n ∧ n ≤ 65535 := by
  simpa [Lit.wf, IntKind.min, IntKind.max, IntKind.signed, IntKind.bits] using h
theorem u32_wf {n : Int} (h : (Lit.int .u32 n).wf = true) : 0 ≤ n ∧ n ≤ 4294967295 := by
  simpa [Lit.wf, IntKind.min, IntKind.max, IntKind.signed, IntKind.bits] using h
section
variable {H : Type} {enc : TypeId × Value → H} {w : World} {base : Nat} {spare : Nat → Bool} {held : Bool}
/-- Numbers handed in. -/
theorem open_ilC {n : Nat} {cs : List Value} {y : DataW H × List MemPlace} (h : DataW.trod enc Try.prog w base spare held n 22 cs = some y) : ∃ a l c ks, cs = [.slice a l c] ∧ IsL IL w (.slice a l c) ks := by
  rcases open_ints Try.underlying22 Try.underlying3 (by kernel_rfl) h with ⟨hcs, _⟩ | ⟨x, l, c, zs, hcs, _, hl, hm, hz, _, hcell, hwz⟩
  · exact ⟨none, 0, 0, [], by simpa using hcs, IsL.nil w none 0⟩
  · have hll : l ≤ zs.length := by rw [hz]; split <;> omega
    refine ⟨some x, l, c, zs.take l, by simpa using hcs, some x, c, by rw [List.length_take, Nat.min_eq_left (by omega)], by rw [List.length_take]; omega, ?_, ?_⟩
    · intro k hk
      exact i64_wf (hwz k (List.mem_of_mem_take hk))
    · by_cases h0 : l = 0
      · exact .inl (by rw [h0]; rfl)
      · obtain ⟨b, off, spot⟩ := x
        have h1 := hcell 0 (by omega)
        have hspot : spot = none := by simpa [Addr.add] using World.cell?_spot h1
        subst hspot
        refine .inr ⟨b, off, rfl, fun j u hj => ?_⟩
        have hv : IL.vals (zs.take l) = (zs.take l).map fun k => Value.int .i64 k := by
          generalize zs.take l = q
          induction q with
          | nil => rfl
          | cons k q ih => rw [Lay.vals_cons, ih]; rfl
        rw [hv, List.getElem?_map, List.getElem?_take] at hj
        split at hj
        · rename_i hjl
          have hjz : j < zs.length := by omega
          have := hcell j hjz
          rw [addr_plain, List.getD_eq_getElem?_getD, List.getElem?_eq_getElem hjz] at this
          rw [List.getElem?_eq_getElem hjz] at hj
          simp only [Option.map_some, Option.some.injEq] at hj
          rw [this, ← hj]
          rfl
        · simp at hj
/-- A manifest handed in. -/
structure Mi where
  a : Option Addr
  n : Nat
  c : Nat
  m : Mn
theorem open_man {r : Reach} {b0 : Nat} {v : Value} {d : DataW H} {p : List MemPlace}
    (hv : Value.okWide Try.prog w r b0 25 v) (h : DataW.Trod enc Try.prog w base spare held 25 v d p) : ∃ x : Mi, v = mnVal x.a x.n x.c x.m ∧ (IsL IL w (.slice x.a x.n x.c) x.m.l ∧ MnB x.m) := by
  have hC : Try.prog.cellsOf 25 = 4 := by kernel_rfl
  have hS : Try.prog.cellsOf 22 = 1 := by kernel_rfl
  have hO : Try.prog.cellsOf 3 = 1 := by kernel_rfl
  have hB : Try.prog.cellsOf 23 = 1 := by kernel_rfl
  obtain ⟨cs, rfl, hsz⟩ := okWide_struct Try.underlying25 hv
  obtain ⟨l⟩ := cs
  match l, hsz.trans hC with
  | [c0, c1, c2, c3], _ =>
    obtain ⟨fuel, hf⟩ := h
    obtain ⟨y0, y1, y2, y3, n, _, _, h0, h1, h2, h3⟩ := trod_struct4 Try.underlying25 hf
    simp [Value.cells, hS, hO, hB] at h0 h1 h2 h3
    obtain ⟨rv, hv, _, wv⟩ := DataW.trod_int Try.underlying3 h0
    obtain ⟨ka, kn, kc, ks, hkc, hks⟩ := open_ilC h1
    obtain ⟨rz, hz, _, wz⟩ := DataW.trod_int Try.underlying3 h2
    obtain ⟨rc, hc, _, wc⟩ := DataW.trod_int Try.underlying23 h3
    simp at hv hkc hz hc
    subst hv hkc hz hc
    exact ⟨⟨ka, kn, kc, ⟨rv, ks, rz, rc⟩⟩, rfl, hks, i64_wf wv, i64_wf wz, by have := u32_wf wc; dsimp only; omega⟩
end

end Go.Proofs.Ytcogeflljcefjaa.Mfs
