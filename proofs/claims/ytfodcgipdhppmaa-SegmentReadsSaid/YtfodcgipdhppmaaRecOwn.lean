/-
  Records in a row of the call's own.
-/
import Derived.Test.YtfodcgipdhppmaaRecOpen
import Derived.Lib.Builder
namespace Go.Proofs.Ytfodcgipdhppmaa
open Go.RowKit

/-- Records as cells. -/
def recVals (rs : List Rp.Rec) : List Value := rs.flatMap fun r => [.int .i64 r.a, .int .i64 r.t, .string r.d]
theorem recVals_len (rs : List Rp.Rec) : (recVals rs).length = rs.length * 3 := by
  induction rs with
  | nil => rfl
  | cons r rs ih => simp [recVals] at ih ⊢; omega
theorem recVals_snoc (rs : List Rp.Rec) (r : Rp.Rec) : recVals (rs ++ [r]) = recVals rs ++ [.int .i64 r.a, .int .i64 r.t, .string r.d] := by simp [recVals]
theorem recVals_get (rs : List Rp.Rec) : ∀ i, i < rs.length → (recVals rs)[i * 3]? = some (.int .i64 (rs.getD i Rp.zero).a) ∧ (recVals rs)[i * 3 + 1]? = some (.int .i64 (rs.getD i Rp.zero).t) ∧ (recVals rs)[i * 3 + 2]? = some (.string (rs.getD i Rp.zero).d) := by
  induction rs with
  | nil => intro i hi; simp at hi
  | cons r rs ih =>
    intro i hi
    have e : recVals (r :: rs) = .int .i64 r.a :: .int .i64 r.t :: .string r.d :: recVals rs := rfl
    rw [e]
    cases i with
    | zero => exact ⟨rfl, rfl, rfl⟩
    | succ i =>
      have h := ih i (by simpa using hi)
      rw [show (i + 1) * 3 = i * 3 + 3 from by omega]
      simpa using h
theorem info_rec : (Try.prog.info? 35).map (fun i => (i.zero, i.size, i.bytes)) = some (some (.agg #[.int .i64 0, .int .i64 0, .string ByteArray.empty]), 3, 32) := by kernel_rfl
theorem RecOk.of {r : Rp.Rec} (h : Rp.Ok r) : RecOk r := ⟨by have := h.1; omega, by have := h.2.1; omega, by have := h.2.2.1; omega, by have := h.2.2.2.1; omega, by have := h.2.2.2.2; omega⟩
theorem IsRecs.own_ok {w : World} {base n : Nat} {v : Value} {rs : List Rp.Rec} (h : w.ownsRow base 35 3 v n (recVals rs)) (hm : n ≤ maxLen) (hb : ∀ r ∈ rs, RecOk r) : IsRecs w v rs := by
  have hn : n = rs.length := by have := h.1; rw [recVals_len] at this; omega
  subst hn
  rcases h.2 with ⟨rfl, h0⟩ | ⟨g, cap, cur, rfl, h1⟩
  · have : rs = [] := by simpa using h0
    subst this
    exact IsRecs.nil w none 0
  · refine ⟨some ⟨g, 0, none⟩, cap, rfl, hm, hb, .inr ⟨g, 0, rfl, fun i hi => ?_⟩⟩
    obtain ⟨c0, c1, c2⟩ := recVals_get rs i hi
    have k0 := h.cells (g := g) rfl _ _ c0
    have k1 := h.cells (g := g) rfl _ _ c1
    have k2 := h.cells (g := g) rfl _ _ c2
    rw [add_plain] at k0 k1 k2
    exact ⟨k0, k1, k2⟩
theorem IsRecs.own {w : World} {base n : Nat} {v : Value} {rs : List Rp.Rec} (h : w.ownsRow base 35 3 v n (recVals rs)) (hm : n ≤ maxLen) (hb : ∀ r ∈ rs, Rp.Ok r) : IsRecs w v rs := IsRecs.own_ok h hm fun r hr => RecOk.of (hb r hr)
theorem own_rec_snoc {w : World} {base : Nat} {v : Value} {rs : List Rp.Rec} {r : Rp.Rec} (h : w.ownsRow base 35 3 v (rs.length + 1) (recVals rs ++ [.int .i64 r.a, .int .i64 r.t, .string r.d])) :
    w.ownsRow base 35 3 v (rs ++ [r]).length (recVals (rs ++ [r])) := by
  rw [recVals_snoc, List.length_append]
  exact h
theorem okAll_snoc {rs : List Rp.Rec} {r : Rp.Rec} (h : ∀ x ∈ rs, Rp.Ok x) (hr : Rp.Ok r) : ∀ x ∈ rs ++ [r], Rp.Ok x := by
  intro x hx
  rcases List.mem_append.1 hx with h1 | h1
  · exact h x h1
  · rw [List.mem_singleton] at h1; subst h1; exact hr
/-- The cells of a record that was just laid, behind another block. -/
theorem news_two (w : World) (o : Obj) (a b c : Value) (T : TypeId) : ∀ (j : Nat) (u : Value), [a, b, c][j]? = some u → ((w.alloc o).alloc (.cells #[a, b, c] T)).cell? ((⟨w.heap.size + 1, 0, none⟩ : Addr).add j) = some u := by
  intro j u h
  have hh : ((w.alloc o).alloc (.cells #[a, b, c] T)).heap[w.heap.size + 1]? = some (.cells #[a, b, c] T (0, 0)) := by
    have := heap_alloc_new (w.alloc o) (.cells #[a, b, c] T)
    simpa using this
  rw [add_plain, Lib.cell_of_heap hh]
  simpa using h

end Go.Proofs.Ytfodcgipdhppmaa
