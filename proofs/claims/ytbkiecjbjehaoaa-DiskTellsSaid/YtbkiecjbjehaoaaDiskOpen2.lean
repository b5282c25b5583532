/-
  A disk and an act handed in by value.
-/
import Derived.Test.YtbkiecjbjehaoaaDiskOpen
namespace Go.Proofs.Ytbkiecjbjehaoaa.Dsk
open Go.RowKit Go.ChangeShapes Go.WideShapes Go.Deep Go.Joins Go.Proofs.Ytbkiecjbjehaoaa.Dp

theorem array5 {α : Type} {cs : Array α} (h : cs.size = 5) : ∃ c0 c1 c2 c3 c4, cs = #[c0, c1, c2, c3, c4] := by
  obtain ⟨l⟩ := cs
  match l, h with
  | [c0, c1, c2, c3, c4], _ => exact ⟨c0, c1, c2, c3, c4, rfl⟩

section
variable {H : Type} {P : Program} {enc : TypeId × Value → H} {w : World} {base : Nat} {spare : Nat → Bool} {held : Bool}
theorem open_agg5 {r : Reach} {b0 : Nat} {t : TypeId} {f0 f1 f2 f3 f4 : Field} {v : Value} {d : DataW H} {p : List MemPlace} (hs : P.underlying t = some (.struct #[f0, f1, f2, f3, f4])) (hone : oneCellFields P #[f0, f1, f2, f3, f4] = true) (hC : P.cellsOf t = 5)
    (hv : Value.okWide P w r b0 t v) (h : DataW.Trod enc P w base spare held t v d p) :
    ∃ (v0 v1 v2 v3 v4 : Value) (y0 y1 y2 y3 y4 : DataW H × List MemPlace) (n : Nat), v = .agg #[v0, v1, v2, v3, v4] ∧
      DataW.trod enc P w base spare held n f0.type [v0] = some y0 ∧ DataW.trod enc P w base spare held n f1.type [v1] = some y1 ∧ DataW.trod enc P w base spare held n f2.type [v2] = some y2 ∧ DataW.trod enc P w base spare held n f3.type [v3] = some y3 ∧ DataW.trod enc P w base spare held n f4.type [v4] = some y4 := by
  obtain ⟨cs, rfl, hsz⟩ := okWide_struct hs hv
  obtain ⟨c0, c1, c2, c3, c4, rfl⟩ := array5 (hsz.trans hC)
  obtain ⟨fuel, hf⟩ := h
  obtain ⟨y0, y1, y2, y3, y4, n, _, h0, h1, h2, h3, h4⟩ := trod_struct5 hs hf
  obtain ⟨o0, k0⟩ := hone_of hone 0 f0 rfl
  obtain ⟨o1, k1⟩ := hone_of hone 1 f1 rfl
  obtain ⟨o2, k2⟩ := hone_of hone 2 f2 rfl
  obtain ⟨o3, k3⟩ := hone_of hone 3 f3 rfl
  obtain ⟨o4, k4⟩ := hone_of hone 4 f4 rfl
  exact ⟨c0, c1, c2, c3, c4, y0, y1, y2, y3, y4, n, rfl, by simpa [Value.cells, o0, k0] using h0, by simpa [Value.cells, o1, k1] using h1, by simpa [Value.cells, o2, k2] using h2, by simpa [Value.cells, o3, k3] using h3, by simpa [Value.cells, o4, k4] using h4⟩
end

section
variable {H : Type} {enc : TypeId × Value → H} {w : World} {base : Nat} {spare : Nat → Bool} {held : Bool}
/-- An act handed in. -/
theorem open_act {r : Reach} {b0 : Nat} {v : Value} {d : DataW H} {p : List MemPlace} (hv : Value.okWide Try.prog w r b0 27 v) (h : DataW.Trod enc Try.prog w base spare held 27 v d p) :
    ∃ x, v = raVal x ∧ RaOk w x := by
  obtain ⟨v0, v1, v2, v3, v4, y0, y1, y2, y3, y4, n, rfl, h0, h1, h2, h3, h4⟩ := open_agg5 Try.underlying27 (by kernel_rfl) (by kernel_rfl) hv h
  obtain ⟨rk, hk, _, wk⟩ := DataW.trod_int Try.underlying3 h0
  obtain ⟨ri, hi, _, wi⟩ := DataW.trod_int Try.underlying3 h1
  obtain ⟨rn, hn, _, wn⟩ := DataW.trod_string Try.underlying9 h2
  obtain ⟨rt, ht, _, wt⟩ := DataW.trod_string Try.underlying9 h3
  obtain ⟨ka, kn, kc, ks, hkc, hks⟩ := open_keepC h4
  simp only [List.cons.injEq, and_true] at hk hi hn ht hkc
  subst hk hi hn ht hkc
  unfold maxLen at wn wt
  exact ⟨⟨⟨rk, ri, rn, rt, ks⟩, ka, kn, kc⟩, rfl, ⟨⟨i64_wf wk, i64_wf wi, wn, wt⟩, hks⟩⟩

/-- Files handed in. -/
theorem open_files {n : Nat} {cs : List Value} {y : DataW H × List MemPlace} (h : DataW.trod enc Try.prog w base spare held n 22 cs = some y) : ∃ a l c fs, cs = [.slice a l c] ∧ IsL FL w (.slice a l c) fs := by
  rcases open_slice Try.underlying22 h with ⟨hc, _⟩ | ⟨x, len, cap, m, n, D, Pl, hc, _, hl, hm, hmm, _, hi⟩
  · exact ⟨none, 0, 0, [], hc, IsL.nil w none 0⟩
  · refine ⟨some x, len, cap, ?_⟩
    have hlm : len ≤ m := by rw [hmm]; split <;> omega
    have hC : Try.prog.cellsOf 43 = 3 := by kernel_rfl
    have hO : Try.prog.cellsOf 3 = 1 := by kernel_rfl
    have hS : Try.prog.cellsOf 9 = 1 := by kernel_rfl
    rw [hC] at hi
    have key : ∀ i, i < len → ∃ r : Fl, FlB r ∧ ∀ j u, (flCells r)[j]? = some u → w.cell? ((x.add (i * 3)).add j) = some u := by
      intro i hil
      obtain ⟨cs', hcs, ht⟩ := hi i (by omega)
      obtain ⟨_, hlen, hat⟩ := World.cells?_some hcs
      obtain ⟨y0, y1, y2, n', _, _, h0, h1, h2⟩ := trod_struct3 Try.underlying43 ht
      obtain ⟨rn, hnn, _, wn⟩ := DataW.trod_string Try.underlying9 h0
      obtain ⟨rd, hd, _, wd⟩ := DataW.trod_string Try.underlying9 h1
      obtain ⟨rs, hrs, _, ws⟩ := DataW.trod_int Try.underlying3 h2
      obtain ⟨c0, c1, c2, rfl⟩ : ∃ c0 c1 c2, cs' = [c0, c1, c2] := by
        match cs', hlen with
        | [c0, c1, c2], _ => exact ⟨c0, c1, c2, rfl⟩
      simp [hO, hS] at hnn hd hrs
      subst hnn hd hrs
      unfold maxLen at wn wd
      refine ⟨⟨rn, rd, rs⟩, ⟨wn, wd, i64_wf ws⟩, fun j u hj => ?_⟩
      have hjl : j < 3 := (List.getElem?_eq_some_iff.1 hj).1
      have := hat j hjl
      exact this.trans hj
    obtain ⟨f, hf'⟩ : ∃ f : Nat → Fl, ∀ i, i < len → FlB (f i) ∧ ∀ j u, (flCells (f i))[j]? = some u → w.cell? ((x.add (i * 3)).add j) = some u := by
      refine ⟨fun i => if h : i < len then Classical.choose (key i h) else zero, fun i h => ?_⟩
      simp only [dif_pos h]
      exact Classical.choose_spec (key i h)
    have hlen : ((List.range len).map f).length = len := by simp
    have hall : ∀ r ∈ (List.range len).map f, FlB r := fun r hr => by
      rw [List.mem_map] at hr
      obtain ⟨i, hi', rfl⟩ := hr
      exact (hf' i (by simpa using hi')).1
    refine ⟨(List.range len).map f, hc, ?_⟩
    by_cases h0 : len = 0
    · subst h0
      exact IsL.nil w _ cap
    · obtain ⟨b, off, spot⟩ := x
      have h1 := (hf' 0 (by omega)).2 0 _ rfl
      rw [Nat.zero_mul] at h1
      have hspot : spot = none := by simpa [Addr.add] using World.cell?_spot h1
      subst hspot
      have := isL_of (Y := FL) (w := w) (b := b) (off := off) (cap := cap) (l := (List.range len).map f) (by rw [hlen]; omega) hall (fun i hi' r u hu => by
        rw [hlen] at hi'
        have e : ((List.range len).map f).getD i FL.z = f i := by simp [List.getD_eq_getElem?_getD, hi']
        rw [e] at hu
        have := (hf' i hi').2 r u hu
        rw [addr_plain, addr_plain] at this
        rw [← Nat.add_assoc]
        exact this)
      rw [hlen] at this
      exact this

/-- A disk handed in. -/
theorem open_dk {r : Reach} {b0 : Nat} {v : Value} {d : DataW H} {p : List MemPlace} (hv : Value.okWide Try.prog w r b0 24 v) (h : DataW.Trod enc Try.prog w base spare held 24 v d p) :
    ∃ fv D, v = dkVal fv D ∧ IsL FL w fv D.f ∧ DkB D := by
  obtain ⟨v0, v1, v2, v3, v4, y0, y1, y2, y3, y4, n, rfl, h0, h1, h2, h3, h4⟩ := open_agg5 Try.underlying24 (by kernel_rfl) (by kernel_rfl) hv h
  obtain ⟨fa, fn, fc, fs, hf, hfs⟩ := open_files h0
  obtain ⟨rc, hc, _, wc⟩ := DataW.trod_int Try.underlying3 h1
  obtain ⟨ra, ha, _⟩ := DataW.trod_bool Try.underlying4 h2
  obtain ⟨rl, hl, _, wl⟩ := DataW.trod_int Try.underlying3 h3
  obtain ⟨rx, hx, _⟩ := DataW.trod_bool Try.underlying4 h4
  simp only [List.cons.injEq, and_true] at hf hc ha hl hx
  subst hf hc ha hl hx
  exact ⟨_, ⟨fs, rc, ra, rl, rx⟩, rfl, hfs, ⟨i64_wf wc, i64_wf wl⟩⟩
end

end Go.Proofs.Ytbkiecjbjehaoaa.Dsk
