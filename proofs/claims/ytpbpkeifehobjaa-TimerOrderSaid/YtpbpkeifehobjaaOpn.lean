/-
  Lists handed in, out of what is told of their elements one by one. No function of the program.
-/
import Derived.Test.YtpbpkeifehobjaaList
import Derived.Lib.SmallJoins
import Derived.Deep.Slices
import Derived.Deep.Fields
import Derived.ChangeSame
namespace Go.Proofs.Ytpbpkeifehobjaa.Opn
open Go.RowKit Go.ChangeShapes Go.WideShapes Go.Deep Go.Joins

theorem u8_wfO {n : Int} (h : (Lit.int .u8 n).wf = true) : 0 ≤ n ∧ n ≤ 255 := by
  simpa [Lit.wf, IntKind.min, IntKind.max, IntKind.signed, IntKind.bits] using h
theorem i64_wfO {n : Int} (h : (Lit.int .i64 n).wf = true) : -9223372036854775808 ≤ n ∧ n ≤ 9223372036854775807 := by
  simpa [Lit.wf, IntKind.min, IntKind.max, IntKind.signed, IntKind.bits] using h
/-- A slice in memory, element by element. -/
theorem isL_ofO {α : Type} {Y : Lay α} {w : World} {b off cap : Nat} {l : List α} (hm : l.length ≤ maxLen) (hcap : l.length ≤ cap) (hok : ∀ x ∈ l, Y.ok x)
    (hc : ∀ i, i < l.length → ∀ r u, (Y.enc (l.getD i Y.z))[r]? = some u → w.cell? ⟨b, off + (i * Y.k + r), none⟩ = some u) : IsL Y w (.slice (some ⟨b, off, none⟩) l.length cap) l := by
  refine ⟨_, cap, rfl, ⟨hm, hcap⟩, hok, .inr ⟨b, off, rfl, fun j u hj => ?_⟩⟩
  have hlt := (List.getElem?_eq_some_iff.1 hj).1
  rw [Y.vals_len] at hlt
  have hk := Y.pos
  have h1 : j / Y.k < l.length := Nat.div_lt_of_lt_mul (by rw [Nat.mul_comm]; exact hlt)
  have h2 : j % Y.k < Y.k := Nat.mod_lt _ hk
  have e : j = j / Y.k * Y.k + j % Y.k := by rw [Nat.mul_comm]; exact (Nat.div_add_mod j Y.k).symm
  have h3 := Y.vals_get l (j / Y.k) (j % Y.k) h1 h2
  rw [← e, hj] at h3
  have := hc (j / Y.k) h1 (j % Y.k) u h3.symm
  rwa [← e] at this
/-- Elements at an address, one by one, are a list. -/
theorem isL_atO {α : Type} {Y : Lay α} {w : World} {x : Addr} {len cap : Nat} (hl : len ≤ cap) (hm : len ≤ maxLen)
    (key : ∀ i, i < len → ∃ r : α, Y.ok r ∧ ∀ j u, (Y.enc r)[j]? = some u → w.cell? ((x.add (i * Y.k)).add j) = some u) : ∃ ms, IsL Y w (.slice (some x) len cap) ms := by
  obtain ⟨f, hf'⟩ : ∃ f : Nat → α, ∀ i, i < len → Y.ok (f i) ∧ ∀ j u, (Y.enc (f i))[j]? = some u → w.cell? ((x.add (i * Y.k)).add j) = some u := by
    classical
    refine ⟨fun i => if h : i < len then Classical.choose (key i h) else Y.z, fun i h => ?_⟩
    simp only [dif_pos h]
    exact Classical.choose_spec (key i h)
  have hlen : ((List.range len).map f).length = len := by simp
  have hall : ∀ r ∈ (List.range len).map f, Y.ok r := fun r hr => by
    rw [List.mem_map] at hr
    obtain ⟨i, hi', rfl⟩ := hr
    exact (hf' i (by simpa using hi')).1
  refine ⟨(List.range len).map f, ?_⟩
  by_cases h0 : len = 0
  · subst h0
    exact IsL.nil w _ cap
  · obtain ⟨b, off, spot⟩ := x
    obtain ⟨u, hu⟩ : ∃ u, (Y.enc (f 0))[0]? = some u := by
      have h : 0 < (Y.enc (f 0)).length := by rw [Y.len]; exact Y.pos
      exact ⟨_, List.getElem?_eq_getElem h⟩
    have h1 := (hf' 0 (by omega)).2 0 u hu
    rw [Nat.zero_mul] at h1
    have hspot : spot = none := by simpa [Addr.add] using World.cell?_spot h1
    subst hspot
    have := isL_ofO (Y := Y) (w := w) (b := b) (off := off) (cap := cap) (l := (List.range len).map f) (by rw [hlen]; exact hm) (by rw [hlen]; exact hl) hall (fun i hi' r u hu => by
      rw [hlen] at hi'
      have e : ((List.range len).map f).getD i Y.z = f i := by simp [List.getD_eq_getElem?_getD, hi']
      rw [e] at hu
      have := (hf' i hi').2 r u hu
      rw [addr_plain, addr_plain] at this
      rw [← Nat.add_assoc]
      exact this)
    rw [hlen] at this
    exact this

end Go.Proofs.Ytpbpkeifehobjaa.Opn
