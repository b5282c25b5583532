/-
  Pairs as values; a slice of pairs in memory, as a list; a slice of pairs handed in; one of the call's own.
-/
import Derived.Test.YtndfpbolneofmaaFoldPlain
import Derived.Test.YtndfpbolneofmaaBase
import Derived.Lib.SmallJoins
import Derived.Deep.Slices
import Derived.Deep.Strs
import Derived.ChangeArms
import Derived.Lib.Builder
namespace Go.Proofs.Ytndfpbolneofmaa
open Go.RowKit Go.ChangeShapes Go.WideShapes Go.Deep Go.Joins

/-- A pair as a value. -/
def prVal (p : Fp.Pr) : Value := .agg #[.int .u8 (p.k.toNat : Int), .string p.v]
/-- The value v is a slice whose elements are these pairs. -/
def IsPrs (w : World) (v : Value) (l : List Fp.Pr) : Prop :=
  ∃ a cap, v = .slice a l.length cap ∧ l.length ≤ maxLen ∧ (∀ p ∈ l, p.v.size ≤ 9223372036854775807) ∧
    (l = [] ∨ ∃ b off, a = some ⟨b, off, none⟩ ∧ ∀ i, i < l.length →
      w.cell? ⟨b, off + i * 2, none⟩ = some (.int .u8 ((l.getD i Fp.zero).k.toNat : Int)) ∧ w.cell? ⟨b, off + i * 2 + 1, none⟩ = some (.string (l.getD i Fp.zero).v))
theorem IsPrs.below {B : Nat} {w w' : World} {v : Value} {l : List Fp.Pr} (h : IsPrs w v l) (hb : Below B w w') (hB : w.heap.size ≤ B) : IsPrs w' v l := by
  obtain ⟨a, cap, rfl, h1, h2, h3⟩ := h
  refine ⟨a, cap, rfl, h1, h2, ?_⟩
  rcases h3 with h3 | ⟨b, off, rfl, h4⟩
  · exact .inl h3
  · refine .inr ⟨b, off, rfl, fun i hi => ?_⟩
    obtain ⟨c0, c1⟩ := h4 i hi
    have hl := Nat.lt_of_lt_of_le (block_lt_of_cell c0) hB
    exact ⟨(hb.cell (p := ⟨b, off + i * 2, none⟩) hl).trans c0, (hb.cell (p := ⟨b, off + i * 2 + 1, none⟩) hl).trans c1⟩
theorem IsPrs.nil (w : World) (a : Option Addr) (cap : Nat) : IsPrs w (.slice a 0 cap) [] := ⟨a, cap, rfl, by simp, by simp, .inl rfl⟩

theorem addr_plain (b off j : Nat) : (⟨b, off, none⟩ : Addr).add j = ⟨b, off + j, none⟩ := by
  unfold Addr.add
  split <;> simp_all
theorem u8_wf {n : Int} (h : (Lit.int .u8 n).wf = true) : 0 ≤ n ∧ n ≤ 255 := by
  simpa [Lit.wf, IntKind.min, IntKind.max, IntKind.signed, IntKind.bits] using h
theorem u8_of {n : Int} (h : 0 ≤ n ∧ n ≤ 255) : ((UInt8.ofNat n.toNat).toNat : Int) = n := by
  rw [UInt8.toNat_ofNat', Nat.mod_eq_of_lt (by show n.toNat < 256; omega)]
  omega

section
variable {H : Type} {enc : TypeId × Value → H} {w : World} {base : Nat} {spare : Nat → Bool} {held : Bool}
/-- A slice of pairs handed in. -/
theorem open_prs {a : Option Addr} {len cap : Nat} {d : DataW H} {p : List MemPlace} (h : DataW.Trod enc Try.prog w base spare held 22 (.slice a len cap) d p) :
    ∃ l, IsPrs w (.slice a len cap) l := by
  obtain ⟨fuel, hf⟩ := h
  rcases open_slice Try.underlying22 hf with ⟨hc, _⟩ | ⟨x, l, c, m, n, D, Pl, hc, _, hl, hm, hmm, _, hi⟩
  · simp [Value.cells] at hc
    obtain ⟨rfl, rfl, rfl⟩ := hc
    exact ⟨[], IsPrs.nil w none 0⟩
  · simp [Value.cells] at hc
    obtain ⟨rfl, rfl, rfl⟩ := hc
    have hlm : len ≤ m := by rw [hmm]; split <;> omega
    have hC : Try.prog.cellsOf 40 = 2 := by kernel_rfl
    have hO : Try.prog.cellsOf 5 = 1 := by kernel_rfl
    have hS : Try.prog.cellsOf 9 = 1 := by kernel_rfl
    rw [hC] at hi
    have key : ∀ i, i < len → ∃ r : Fp.Pr, r.v.size ≤ 9223372036854775807 ∧ w.cell? (x.add (i * 2)) = some (.int .u8 (r.k.toNat : Int)) ∧ w.cell? ((x.add (i * 2)).add 1) = some (.string r.v) := by
      intro i hil
      obtain ⟨cs', hcs, ht⟩ := hi i (by omega)
      obtain ⟨_, hlen, hat⟩ := World.cells?_some hcs
      obtain ⟨y0, y1, n', _, _, h0, h1⟩ := trod_struct2 Try.underlying40 ht
      obtain ⟨ra, ha, _, wa⟩ := DataW.trod_int Try.underlying5 h0
      obtain ⟨rs, hs, _, ws⟩ := DataW.trod_string Try.underlying9 h1
      obtain ⟨c0, c1, rfl⟩ : ∃ c0 c1, cs' = [c0, c1] := by
        match cs', hlen with
        | [c0, c1], _ => exact ⟨c0, c1, rfl⟩
      simp [hO, hS] at ha hs
      have ba := u8_wf wa
      unfold maxLen at ws
      refine ⟨⟨UInt8.ofNat ra.toNat, rs⟩, ws, ?_, ?_⟩
      · have := hat 0 (by omega)
        rw [u8_of ba]
        simpa [ha, Addr.add] using this
      · have := hat 1 (by omega); simpa [hs] using this
    obtain ⟨f, hf'⟩ : ∃ f : Nat → Fp.Pr, ∀ i, i < len → (f i).v.size ≤ 9223372036854775807 ∧ w.cell? (x.add (i * 2)) = some (.int .u8 ((f i).k.toNat : Int)) ∧ w.cell? ((x.add (i * 2)).add 1) = some (.string (f i).v) := by
      refine ⟨fun i => if h : i < len then Classical.choose (key i h) else Fp.zero, fun i h => ?_⟩
      simp only [dif_pos h]
      exact Classical.choose_spec (key i h)
    have hlen : ((List.range len).map f).length = len := by simp
    refine ⟨(List.range len).map f, some x, cap, by rw [hlen], by rw [hlen]; omega, ?_, ?_⟩
    · intro r hr
      rw [List.mem_map] at hr
      obtain ⟨i, hi', rfl⟩ := hr
      exact (hf' i (by simpa using hi')).1
    · by_cases h0 : len = 0
      · subst h0; exact .inl rfl
      · obtain ⟨b, off, spot⟩ := x
        have h1 := (hf' 0 (by omega)).2.1
        rw [Nat.zero_mul] at h1
        have hspot : spot = none := by simpa [Addr.add] using World.cell?_spot h1
        subst hspot
        refine .inr ⟨b, off, rfl, fun i hi' => ?_⟩
        rw [hlen] at hi'
        have e : ((List.range len).map f).getD i Fp.zero = f i := by simp [List.getD_eq_getElem?_getD, hi']
        rw [e]
        obtain ⟨_, c0, c1⟩ := hf' i hi'
        rw [addr_plain] at c0 c1
        rw [addr_plain] at c1
        exact ⟨c0, c1⟩
end

/-- Pairs as cells. -/
def prVals (l : List Fp.Pr) : List Value := l.flatMap fun p => [.int .u8 (p.k.toNat : Int), .string p.v]
theorem prVals_nil : prVals [] = [] := rfl
theorem prVals_cons (p : Fp.Pr) (l : List Fp.Pr) : prVals (p :: l) = .int .u8 (p.k.toNat : Int) :: .string p.v :: prVals l := rfl
theorem prVals_append (a b : List Fp.Pr) : prVals (a ++ b) = prVals a ++ prVals b := by unfold prVals; simp
theorem prVals_len (l : List Fp.Pr) : (prVals l).length = l.length * 2 := by
  induction l with
  | nil => rfl
  | cons p l ih => rw [prVals_cons]; simp; omega
theorem prVals_snoc (l : List Fp.Pr) (p : Fp.Pr) : prVals (l ++ [p]) = prVals l ++ [.int .u8 (p.k.toNat : Int), .string p.v] := by rw [prVals_append]; rfl
theorem prVals_one (l : List Fp.Pr) : ∀ u ∈ prVals l, u.oneCell' = true := by
  intro u hu
  unfold prVals at hu
  rw [List.mem_flatMap] at hu
  obtain ⟨p, _, h⟩ := hu
  simp at h
  rcases h with rfl | rfl <;> rfl
theorem prVals_take (l : List Fp.Pr) : ∀ i, (prVals l).take (i * 2) = prVals (l.take i) := by
  induction l with
  | nil => intro i; simp [prVals]
  | cons p l ih =>
    intro i
    cases i with
    | zero => simp [prVals]
    | succ i => rw [show (i + 1) * 2 = i * 2 + 1 + 1 from by omega, prVals_cons, List.take_succ_cons, List.take_succ_cons, List.take_succ_cons, prVals_cons, ih]
theorem prVals_drop (l : List Fp.Pr) : ∀ i, (prVals l).drop (i * 2) = prVals (l.drop i) := by
  induction l with
  | nil => intro i; simp [prVals]
  | cons p l ih =>
    intro i
    cases i with
    | zero => simp
    | succ i => rw [show (i + 1) * 2 = i * 2 + 1 + 1 from by omega, prVals_cons, List.drop_succ_cons, List.drop_succ_cons, List.drop_succ_cons, ih]
theorem prVals_get (l : List Fp.Pr) : ∀ i, i < l.length → (prVals l)[i * 2]? = some (.int .u8 ((l.getD i Fp.zero).k.toNat : Int)) ∧ (prVals l)[i * 2 + 1]? = some (.string (l.getD i Fp.zero).v) := by
  induction l with
  | nil => intro i hi; simp at hi
  | cons p l ih =>
    intro i hi
    rw [prVals_cons]
    cases i with
    | zero => exact ⟨rfl, rfl⟩
    | succ i =>
      have h := ih i (by simpa using hi)
      rw [show (i + 1) * 2 = i * 2 + 2 from by omega]
      simpa using h
theorem prVals_set (l : List Fp.Pr) : ∀ i (v : ByteArray), i < l.length → (prVals l).set (i * 2 + 1) (.string v) = prVals (l.set i ⟨(l.getD i Fp.zero).k, v⟩) := by
  induction l with
  | nil => intro i v hi; simp at hi
  | cons p l ih =>
    intro i v hi
    cases i with
    | zero => rfl
    | succ i =>
      have h := ih i v (by simpa using hi)
      rw [show (i + 1) * 2 + 1 = i * 2 + 1 + 1 + 1 from by omega, prVals_cons, List.set_cons_succ, List.set_cons_succ, List.set_cons_succ, prVals_cons, h]
      rfl

theorem info_pr : (Try.prog.info? 40).map (fun i => (i.zero, i.size, i.bytes)) = some (some (.agg #[.int .u8 0, .string ByteArray.empty]), 2, 24) := by kernel_rfl

/-- A slice of pairs of the call's own, in a block from 'base' on. -/
def Own (w : World) (base : Nat) (v : Value) (l : List Fp.Pr) : Prop := w.ownsRow base 40 2 v l.length (prVals l)
theorem Own.nil (w : World) (base : Nat) : Own w base (.slice none 0 0) [] := World.ownsRow_nil _ _ _ _
theorem Own.below {w w' : World} {base : Nat} {v : Value} {l : List Fp.Pr} (h : Own w base v l) (b : Below w.heap.size w w') : Own w' base v l := own_below h b
theorem Own.is {w : World} {base : Nat} {v : Value} {l : List Fp.Pr} (h : Own w base v l) (hm : l.length ≤ maxLen) (hb : ∀ p ∈ l, p.v.size ≤ 9223372036854775807) : IsPrs w v l := by
  rcases h.2 with ⟨rfl, h0⟩ | ⟨g, cap, cur, rfl, h1⟩
  · have : l = [] := by simpa using h0
    subst this
    exact IsPrs.nil w none 0
  · refine ⟨some ⟨g, 0, none⟩, cap, rfl, hm, hb, .inr ⟨g, 0, rfl, fun i hi => ?_⟩⟩
    obtain ⟨c0, c1⟩ := prVals_get l i hi
    have k0 := World.ownsRow.cells h (g := g) rfl _ _ c0
    have k1 := World.ownsRow.cells h (g := g) rfl _ _ c1
    rw [addr_plain] at k0 k1
    exact ⟨k0, k1⟩

/-- A record's row of a world: the block's cells. -/
theorem Own.open_ {w : World} {base : Nat} {v : Value} {l : List Fp.Pr} (h : Own w base v l) (hl : 0 < l.length) :
    ∃ g cap cur, v = .slice (some ⟨g, 0, none⟩) l.length cap ∧ base ≤ g ∧ w.heap[g]? = some (.cells cur 40 (0, 0)) ∧ l.length ≤ cap ∧ cap ≤ maxLen ∧ cur.size = cap * 2 ∧ cur.toList.take (l.length * 2) = prVals l := by
  rcases h.2 with ⟨_, h0⟩ | h1
  · omega
  · exact h1
theorem Own.mk {w : World} {base g cap : Nat} {cur : Array Value} {l : List Fp.Pr} (hb : base ≤ g) (hg : w.heap[g]? = some (.cells cur 40 (0, 0))) (hc : l.length ≤ cap) (hm : cap ≤ maxLen) (hs : cur.size = cap * 2) (ht : cur.toList.take (l.length * 2) = prVals l) :
    Own w base (.slice (some ⟨g, 0, none⟩) l.length cap) l := ⟨prVals_len l, .inr ⟨g, cap, cur, rfl, hb, hg, hc, hm, hs, ht⟩⟩
/-- A row that is written anew. -/
theorem bel_setRow {w : World} {base g : Nat} (hb : base ≤ g) (cs : Array Value) : Below base w (w.setRow g cs) :=
  ⟨rfl, rfl, rfl, by simp, fun k hk => setRow_other w g k cs (by omega)⟩

end Go.Proofs.Ytndfpbolneofmaa
