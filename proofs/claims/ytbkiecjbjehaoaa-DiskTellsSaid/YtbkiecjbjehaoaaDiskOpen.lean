/-
  Acts and disks handed in.
-/
import Derived.Test.YtbkiecjbjehaoaaDiskActs
namespace Go.Proofs.Ytbkiecjbjehaoaa.Dsk
open Go.RowKit Go.ChangeShapes Go.WideShapes Go.Deep Go.Joins Go.Proofs.Ytbkiecjbjehaoaa.Dp

/-- A slice in memory, element by element. -/
theorem isL_of {α : Type} {Y : Lay α} {w : World} {b off cap : Nat} {l : List α} (hm : l.length ≤ maxLen) (hok : ∀ x ∈ l, Y.ok x)
    (hc : ∀ i, i < l.length → ∀ r u, (Y.enc (l.getD i Y.z))[r]? = some u → w.cell? ⟨b, off + (i * Y.k + r), none⟩ = some u) : IsL Y w (.slice (some ⟨b, off, none⟩) l.length cap) l := by
  refine ⟨_, cap, rfl, hm, hok, .inr ⟨b, off, rfl, fun j u hj => ?_⟩⟩
  have hlt := (List.getElem?_eq_some_iff.1 hj).1
  rw [Y.vals_len] at hlt
  have hk := Y.pos
  have h1 : j / Y.k < l.length := Nat.div_lt_of_lt_mul (by rw [Nat.mul_comm]; exact hlt)
  have h2 : j % Y.k < Y.k := Nat.mod_lt _ hk
  have e : j = j / Y.k * Y.k + j % Y.k := by rw [Nat.mul_comm]; exact (Nat.div_add_mod j Y.k).symm
  have h3 := Y.vals_get l (j / Y.k) (j % Y.k) h1 h2
  rw [← e, hj] at h3
  have := hc (j / Y.k) h1 (j % Y.k) u h3.symm
  rwa [← e] at this

section
variable {H : Type} {enc : TypeId × Value → H} {w : World} {base : Nat} {spare : Nat → Bool} {held : Bool}
theorem open_kl {a : Option Addr} {len cap : Nat} {d : DataW H} {p : List MemPlace} (h : DataW.Trod enc Try.prog w base spare held 25 (.slice a len cap) d p) : ∃ ks, IsL KL w (.slice a len cap) ks := by
  obtain ⟨fuel, hf⟩ := h
  obtain ⟨a', l', c', ks, e, hk⟩ := open_keepC hf
  simp [Value.cells] at e
  obtain ⟨rfl, rfl, rfl⟩ := e
  exact ⟨ks, hk⟩

/-- A slice of acts handed in. -/
theorem open_acts {a : Option Addr} {len cap : Nat} {d : DataW H} {p : List MemPlace} (h : DataW.Trod enc Try.prog w base spare held 30 (.slice a len cap) d p) :
    ∃ l, IsActs w (.slice a len cap) l := by
  obtain ⟨fuel, hf⟩ := h
  rcases open_slice Try.underlying30 hf with ⟨hc, _⟩ | ⟨x, l, c, m, n, D, Pl, hc, _, hl, hm, hmm, _, hi⟩
  · simp [Value.cells] at hc
    obtain ⟨rfl, rfl, rfl⟩ := hc
    exact ⟨[], IsL.nil w none 0, fun r hr => by cases hr⟩
  · simp [Value.cells] at hc
    obtain ⟨rfl, rfl, rfl⟩ := hc
    have hlm : len ≤ m := by rw [hmm]; split <;> omega
    have hC : Try.prog.cellsOf 27 = 5 := by kernel_rfl
    have hO : Try.prog.cellsOf 3 = 1 := by kernel_rfl
    have hS : Try.prog.cellsOf 9 = 1 := by kernel_rfl
    have hK : Try.prog.cellsOf 25 = 1 := by kernel_rfl
    rw [hC] at hi
    have key : ∀ i, i < len → ∃ r : Ra, RaOk w r ∧ ∀ j u, (raCells r)[j]? = some u → w.cell? ((x.add (i * 5)).add j) = some u := by
      intro i hil
      obtain ⟨cs', hcs, ht⟩ := hi i (by omega)
      obtain ⟨_, hlen, hat⟩ := World.cells?_some hcs
      obtain ⟨y0, y1, y2, y3, y4, n', _, h0, h1, h2, h3, h4⟩ := trod_struct5 Try.underlying27 ht
      obtain ⟨rk, hk, _, wk⟩ := DataW.trod_int Try.underlying3 h0
      obtain ⟨ri, hri, _, wi⟩ := DataW.trod_int Try.underlying3 h1
      obtain ⟨rn, hnn, _, wn⟩ := DataW.trod_string Try.underlying9 h2
      obtain ⟨rt, htt, _, wt⟩ := DataW.trod_string Try.underlying9 h3
      obtain ⟨ka, kn, kc, ks, hkc, hks⟩ := open_keepC h4
      obtain ⟨c0, c1, c2, c3, c4, rfl⟩ : ∃ c0 c1 c2 c3 c4, cs' = [c0, c1, c2, c3, c4] := by
        match cs', hlen with
        | [c0, c1, c2, c3, c4], _ => exact ⟨c0, c1, c2, c3, c4, rfl⟩
      simp [hO, hS, hK] at hk hri hnn htt hkc
      subst hk hri hnn htt hkc
      unfold maxLen at wn wt
      refine ⟨⟨⟨rk, ri, rn, rt, ks⟩, ka, kn, kc⟩, ⟨⟨i64_wf wk, i64_wf wi, wn, wt⟩, hks⟩, fun j u hj => ?_⟩
      have hjl : j < 5 := (List.getElem?_eq_some_iff.1 hj).1
      have := hat j hjl
      exact this.trans hj
    obtain ⟨f, hf'⟩ : ∃ f : Nat → Ra, ∀ i, i < len → RaOk w (f i) ∧ ∀ j u, (raCells (f i))[j]? = some u → w.cell? ((x.add (i * 5)).add j) = some u := by
      refine ⟨fun i => if h : i < len then Classical.choose (key i h) else rzero, fun i h => ?_⟩
      simp only [dif_pos h]
      exact Classical.choose_spec (key i h)
    have hlen : ((List.range len).map f).length = len := by simp
    have hall : ∀ r ∈ (List.range len).map f, RaOk w r := fun r hr => by
      rw [List.mem_map] at hr
      obtain ⟨i, hi', rfl⟩ := hr
      exact (hf' i (by simpa using hi')).1
    refine ⟨(List.range len).map f, ?_, hall⟩
    by_cases h0 : len = 0
    · subst h0
      exact IsL.nil w _ cap
    · obtain ⟨b, off, spot⟩ := x
      have h1 := (hf' 0 (by omega)).2 0 _ rfl
      rw [Nat.zero_mul] at h1
      have hspot : spot = none := by simpa [Addr.add] using World.cell?_spot h1
      subst hspot
      have := isL_of (Y := AL) (w := w) (b := b) (off := off) (cap := cap) (l := (List.range len).map f) (by rw [hlen]; omega) (fun r hr => (hall r hr).1) (fun i hi' r u hu => by
        rw [hlen] at hi'
        have e : ((List.range len).map f).getD i AL.z = f i := by simp [List.getD_eq_getElem?_getD, hi']
        rw [e] at hu
        have := (hf' i hi').2 r u hu
        rw [addr_plain, addr_plain] at this
        rw [← Nat.add_assoc]
        exact this)
      rw [hlen] at this
      exact this
end

end Go.Proofs.Ytbkiecjbjehaoaa.Dsk
