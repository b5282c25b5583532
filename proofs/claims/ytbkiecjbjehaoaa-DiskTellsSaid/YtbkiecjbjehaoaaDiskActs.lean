/-
  Acts handed in, a slice of them as a list; a disk handed in; what the law's short answers.
-/
import Derived.Test.YtbkiecjbjehaoaaDiskCrash
import Derived.Deep.Slices
import Derived.Deep.Strs
import Derived.ChangeArms
namespace Go.Proofs.Ytbkiecjbjehaoaa.Dsk
open Go.RowKit Go.ChangeShapes Go.WideShapes Go.Deep Go.Joins Go.Proofs.Ytbkiecjbjehaoaa.Dp

theorem i64_wf {n : Int} (h : (Lit.int .i64 n).wf = true) : -9223372036854775808 ≤ n ∧ n ≤ 9223372036854775807 := by
  simpa [Lit.wf, IntKind.min, IntKind.max, IntKind.signed, IntKind.bits] using h

/-- An act in memory: its kind, a number, a name, another one, the slice of what a crash keeps (its numbers beside it). -/
structure Ra where
  x : Dp.Act
  a : Option Addr
  n : Nat
  c : Nat
/-- The slice of what a crash keeps. -/
def Ra.kv (r : Ra) : Value := .slice r.a r.n r.c
def raCells (r : Ra) : List Value := [.int .i64 r.x.k, .int .i64 r.x.i, .string r.x.n, .string r.x.t, .slice r.a r.n r.c]
def raVal (r : Ra) : Value := .agg #[.int .i64 r.x.k, .int .i64 r.x.i, .string r.x.n, .string r.x.t, .slice r.a r.n r.c]
def RaB (r : Ra) : Prop := (-9223372036854775808 ≤ r.x.k ∧ r.x.k ≤ 9223372036854775807) ∧ (-9223372036854775808 ≤ r.x.i ∧ r.x.i ≤ 9223372036854775807) ∧ r.x.n.size ≤ 9223372036854775807 ∧ r.x.t.size ≤ 9223372036854775807
def rzero : Ra := ⟨⟨0, 0, ⟨#[]⟩, ⟨#[]⟩, []⟩, none, 0, 0⟩
def AL : Lay Ra where
  enc := raCells
  k := 5
  len := fun _ => rfl
  one := by intro f u hu; simp [raCells] at hu; rcases hu with rfl | rfl | rfl | rfl | rfl <;> rfl
  pos := by decide
  T := 27
  ok := RaB
  z := rzero
/-- An act: its slice is those numbers. -/
def RaOk (w : World) (r : Ra) : Prop := RaB r ∧ IsL KL w r.kv r.x.e
/-- The value v is a slice whose elements are these acts. -/
def IsActs (w : World) (v : Value) (l : List Ra) : Prop := IsL AL w v l ∧ ∀ r ∈ l, RaOk w r
theorem RaOk.keep {w w' : World} {r : Ra} (h : RaOk w r) (b : Below w.heap.size w w') : RaOk w' r := ⟨h.1, h.2.keep b⟩
theorem IsActs.keep {w w' : World} {v : Value} {l : List Ra} (h : IsActs w v l) (b : Below w.heap.size w w') : IsActs w' v l := ⟨h.1.keep b, fun r hr => (h.2 r hr).keep b⟩
theorem at5 {w : World} {b off n cap : Nat} {l : List Ra} (h : IsL AL w (.slice (some ⟨b, off, none⟩) n cap) l) {i : Nat} (hi : i < n) :
    w.cell? ⟨b, off + i * 5, none⟩ = some (.int .i64 (l.getD i rzero).x.k) ∧ w.cell? ⟨b, off + i * 5 + 1, none⟩ = some (.int .i64 (l.getD i rzero).x.i) ∧ w.cell? ⟨b, off + i * 5 + 2, none⟩ = some (.string (l.getD i rzero).x.n) ∧
      w.cell? ⟨b, off + i * 5 + 3, none⟩ = some (.string (l.getD i rzero).x.t) ∧ w.cell? ⟨b, off + i * 5 + 4, none⟩ = some (l.getD i rzero).kv :=
  ⟨h.at_ hi 0 _ rfl, h.at_ hi 1 _ rfl, h.at_ hi 2 _ rfl, h.at_ hi 3 _ rfl, h.at_ hi 4 _ rfl⟩
theorem isA_at {w : World} {fa : Option Addr} {fn fc : Nat} {l : List Ra} (h : IsL AL w (.slice fa fn fc) l) {i : Nat} (hi : i < fn) :
    ∃ b off, fa = some ⟨b, off, none⟩ ∧ w.cell? ⟨b, off + i * 5, none⟩ = some (.int .i64 (l.getD i rzero).x.k) ∧ w.cell? ⟨b, off + i * 5 + 1, none⟩ = some (.int .i64 (l.getD i rzero).x.i) ∧ w.cell? ⟨b, off + i * 5 + 2, none⟩ = some (.string (l.getD i rzero).x.n) ∧
      w.cell? ⟨b, off + i * 5 + 3, none⟩ = some (.string (l.getD i rzero).x.t) ∧ w.cell? ⟨b, off + i * 5 + 4, none⟩ = some (l.getD i rzero).kv := by
  have h' := h
  obtain ⟨a', cap', e, _, _, h3⟩ := h
  injection e with e1 e2 e3
  rcases h3 with h3 | ⟨b, off, h4, _⟩
  · rw [h3] at e2; simp at e2; omega
  · subst e1
    subst h4
    exact ⟨b, off, rfl, at5 h' hi⟩

section
variable {H : Type} {P : Program} {enc : TypeId × Value → H} {w : World} {base : Nat} {spare : Nat → Bool} {held : Bool}
theorem trod_struct5 {t : TypeId} {f0 f1 f2 f3 f4 : Field} {fuel : Nat} {cs : List Value} {x : DataW H × List MemPlace} (ht : P.underlying t = some (.struct #[f0, f1, f2, f3, f4])) (h : DataW.trod enc P w base spare held fuel t cs = some x) :
    ∃ y0 y1 y2 y3 y4 n, cs.length = P.cellsOf t ∧ DataW.trod enc P w base spare held n f0.type ((cs.drop f0.offset).take (P.cellsOf f0.type)) = some y0 ∧
      DataW.trod enc P w base spare held n f1.type ((cs.drop f1.offset).take (P.cellsOf f1.type)) = some y1 ∧ DataW.trod enc P w base spare held n f2.type ((cs.drop f2.offset).take (P.cellsOf f2.type)) = some y2 ∧
      DataW.trod enc P w base spare held n f3.type ((cs.drop f3.offset).take (P.cellsOf f3.type)) = some y3 ∧ DataW.trod enc P w base spare held n f4.type ((cs.drop f4.offset).take (P.cellsOf f4.type)) = some y4 := by
  obtain ⟨xs, n, _, rfl, hl, hlen, hf⟩ := DataW.trod_struct ht h
  match xs, hlen with
  | [y0, y1, y2, y3, y4], _ => exact ⟨y0, y1, y2, y3, y4, n, hl, by simpa using hf 0 f0 rfl, by simpa using hf 1 f1 rfl, by simpa using hf 2 f2 rfl, by simpa using hf 3 f3 rfl, by simpa using hf 4 f4 rfl⟩
end

section
variable {H : Type} {enc : TypeId × Value → H} {w : World} {base : Nat} {spare : Nat → Bool} {held : Bool}
/-- Numbers handed in: the cells of a slice, or of a variable that holds one. -/
theorem open_keepC {n : Nat} {cs : List Value} {y : DataW H × List MemPlace} (h : DataW.trod enc Try.prog w base spare held n 25 cs = some y) : ∃ a l c ks, cs = [.slice a l c] ∧ IsL KL w (.slice a l c) ks := by
  rcases open_ints Try.underlying25 Try.underlying3 (by kernel_rfl) h with ⟨hcs, _⟩ | ⟨x, l, c, zs, hcs, _, hl, hm, hz, _, hcell, hwz⟩
  · exact ⟨none, 0, 0, [], by simpa using hcs, IsL.nil w none 0⟩
  · have hll : l ≤ zs.length := by rw [hz]; split <;> omega
    refine ⟨some x, l, c, zs.take l, by simpa using hcs, some x, c, by rw [List.length_take, Nat.min_eq_left (by omega)], by rw [List.length_take]; omega, ?_, ?_⟩
    · intro k hk
      exact i64_wf (hwz k (List.mem_of_mem_take hk))
    · by_cases h0 : l = 0
      · exact .inl (by rw [h0]; rfl)
      · obtain ⟨b, off, spot⟩ := x
        have h1 := hcell 0 (by omega)
        have hspot : spot = none := by simpa [Addr.add] using World.cell?_spot h1
        subst hspot
        refine .inr ⟨b, off, rfl, fun j u hj => ?_⟩
        have hv : KL.vals (zs.take l) = (zs.take l).map fun k => Value.int .i64 k := by
          generalize zs.take l = q
          induction q with
          | nil => rfl
          | cons k q ih => rw [Lay.vals_cons, ih]; rfl
        rw [hv, List.getElem?_map, List.getElem?_take] at hj
        split at hj
        · rename_i hjl
          have hjz : j < zs.length := by omega
          have := hcell j hjz
          rw [addr_plain, List.getD_eq_getElem?_getD, List.getElem?_eq_getElem hjz] at this
          rw [List.getElem?_eq_getElem hjz] at hj
          simp only [Option.map_some, Option.some.injEq] at hj
          rw [this, ← hj]
          rfl
        · simp at hj
end

end Go.Proofs.Ytbkiecjbjehaoaa.Dsk
