/-
  What stays true of a link whatever is done, in plain words; acts as they lie in memory.
-/
import Derived.Test.YtfocdjpopjllpaaLnkLb
import Derived.Laws.IdiomStrings
namespace Go.Proofs.Ytfocdjpopjllpaa.Lk
open Go.RowKit

/-- A message of one byte. -/
def one (x : Nat) : ByteArray := ⟨#[UInt8.ofNat x]⟩
theorem one_size (x : Nat) : (one x).size = 1 := rfl

/-- A link's messages, how many came out, how many were sent, whether just the first ones came out and none twice, and the last one that came. -/
structure Pl (n i : Nat) (L : List ByteArray) (came sent : Nat) (fst : Bool) (last : Int) : Prop where
  len : L.length ≤ n
  one : ∀ m ∈ L, ∃ x, x < sent ∧ m = one x
  si : sent ≤ i
  ci : came ≤ i
  lo : -1 ≤ last
  hi : last ≤ 255
  f : fst = true → came + L.length = sent ∧ last = (came : Int) - 1 ∧ ∀ j, j < L.length → L.getD j ⟨#[]⟩ = Lk.one (came + j)
variable {n i came sent : Nat} {L : List ByteArray} {fst : Bool} {last : Int}
theorem Pl.start (n : Nat) : Pl n 0 [] 0 0 true (-1) := ⟨Nat.zero_le _, fun _ h => absurd h List.not_mem_nil, Nat.le_refl _, Nat.le_refl _, by omega, by omega, fun _ => ⟨rfl, rfl, fun j hj => absurd hj (Nat.not_lt_zero j)⟩⟩
theorem Pl.up (h : Pl n i L came sent fst last) : Pl n (i + 1) L came sent fst last := ⟨h.len, h.one, Nat.le_succ_of_le h.si, Nat.le_succ_of_le h.ci, h.lo, h.hi, h.f⟩
theorem Pl.fall (h : Pl n i L came sent fst last) : Pl n i L came sent false last := ⟨h.len, h.one, h.si, h.ci, h.lo, h.hi, fun e => by cases e⟩
theorem Pl.send (h : Pl n i L came sent fst last) (hn : L.length < n) : Pl n (i + 1) (L ++ [Lk.one sent]) came (sent + 1) fst last := by
  refine ⟨by simp; omega, fun m hm => ?_, Nat.succ_le_succ h.si, Nat.le_succ_of_le h.ci, h.lo, h.hi, fun e => ?_⟩
  · rcases List.mem_append.1 hm with hm | hm
    · obtain ⟨x, hx, e⟩ := h.one m hm
      exact ⟨x, by omega, e⟩
    · rw [List.mem_singleton] at hm
      exact ⟨sent, by omega, hm⟩
  · obtain ⟨h1, h2, h3⟩ := h.f e
    refine ⟨by simp; omega, h2, fun j hj => ?_⟩
    rw [List.length_append, List.length_singleton] at hj
    by_cases hl : j < L.length
    · have := h3 j hl
      rw [List.getD_eq_getElem?_getD, List.getElem?_append_left hl, ← List.getD_eq_getElem?_getD]
      exact this
    · obtain rfl : j = L.length := by omega
      rw [List.getD_eq_getElem?_getD, List.getElem?_append_right (Nat.le_refl _), Nat.sub_self, h1]
      rfl
theorem Pl.at_ (h : Pl n i L came sent fst last) {k : Nat} (hk : k < L.length) : ∃ x, x < sent ∧ L.getD k ⟨#[]⟩ = Lk.one x := by
  rw [getD_lt hk]
  exact h.one _ (List.getElem_mem hk)
theorem mem_cut {m : ByteArray} {k : Nat} (h : m ∈ L.take k ++ L.drop (k + 1)) : m ∈ L := by
  rcases List.mem_append.1 h with h | h
  · exact List.mem_of_mem_take h
  · exact List.mem_of_mem_drop h
theorem Pl.take (h : Pl n i L came sent fst last) {k : Nat} (hk : k < L.length) {x : Nat} (hx : x < sent) (h6 : sent ≤ 60) : Pl n (i + 1) (L.take k ++ L.drop (k + 1)) (came + 1) sent false (x : Int) := by
  refine ⟨by have := h.len; simp; omega, fun m hm => h.one m (mem_cut hm), Nat.le_succ_of_le h.si, Nat.succ_le_succ h.ci, by omega, by omega, fun e => by cases e⟩
theorem Pl.first (h : Pl n i L came sent fst last) (hk : 0 < L.length) {x : Nat} (hx : x < sent) (h6 : sent ≤ 60) (e0 : L.getD 0 ⟨#[]⟩ = Lk.one x) :
    Pl n (i + 1) (L.take 0 ++ L.drop (0 + 1)) (came + 1) sent fst (x : Int) ∧ (fst = true → last < x) := by
  have key : fst = true → came = x := fun e => by
    obtain ⟨h1, h2, h3⟩ := h.f e
    have h4 := h3 0 hk
    rw [e0] at h4
    unfold Lk.one at h4
    injection h4 with h4
    have h5 : UInt8.ofNat x = UInt8.ofNat (came + 0) := by injection h4 with h4; injection h4
    have h7 := congrArg UInt8.toNat h5
    simp at h7
    omega
  refine ⟨⟨by have := h.len; simp; omega, fun m hm => h.one m (mem_cut hm), Nat.le_succ_of_le h.si, Nat.succ_le_succ h.ci, by omega, by omega, fun e => ?_⟩, fun e => ?_⟩
  · obtain ⟨h1, h2, h3⟩ := h.f e
    have hc := key e
    refine ⟨by simp; omega, by omega, fun j hj => ?_⟩
    simp at hj
    have := h3 (j + 1) (by omega)
    rw [List.take_zero, List.nil_append, List.getD_eq_getElem?_getD, List.getElem?_drop, ← List.getD_eq_getElem?_getD, show 0 + 1 + j = j + 1 by omega, this]
    congr 1
    omega
  · obtain ⟨h1, h2, h3⟩ := h.f e
    have hc := key e
    omega
theorem Pl.twice (h : Pl n i L came sent fst last) {k : Nat} (hk : k < L.length) (hn : L.length < n) : Pl n (i + 1) (L ++ [L.getD k ⟨#[]⟩]) came sent false last := by
  refine ⟨by simp; omega, fun m hm => ?_, Nat.le_succ_of_le h.si, Nat.le_succ_of_le h.ci, h.lo, h.hi, fun e => by cases e⟩
  rcases List.mem_append.1 hm with hm | hm
  · exact h.one m hm
  · rw [List.mem_singleton] at hm
    subst hm
    exact h.at_ hk
theorem Pl.done (h : Pl n i L came sent fst last) : (!fst || decide (came + L.length = sent)) = true := by
  cases fst with
  | false => rfl
  | true => simpa using (h.f rfl).1

/-- 'string([]byte{x})'. -/
theorem conv_one (W : World) {n : Nat} (h : n ≤ 255) : (convert 39 9 (.slice (some ⟨W.heap.size, 0, none⟩) 1 1)).run Try.prog (W.alloc (.cells #[.int .u8 (n : Int)] 5)) = .ok (.string (Lk.one n)) (W.alloc (.cells #[.int .u8 (n : Int)] 5)) := by
  refine run_convert_bytes_back _ 39 9 5 ⟨W.heap.size, 0, none⟩ 1 [UInt8.ofNat n] Try.underlying39 Try.underlying5 Try.underlying9 (fun j hj => ?_)
  obtain rfl : j = 0 := by simpa using hj
  have e : (⟨W.heap.size, 0, none⟩ : Addr).add 0 = ⟨W.heap.size, 0, none⟩ := by unfold Addr.add; rfl
  rw [e, cell_of_row _ _ 0 _ _ _ (heap_alloc_new W _)]
  have h2 : (UInt8.ofNat n).toNat = n := by simp; omega
  simp [h2]
/-- Acts. -/
structure Ac where
  k : Nat
  p : Nat
def azero : Ac := ⟨0, 0⟩
def AcB (r : Ac) : Prop := r.k ≤ 255 ∧ r.p ≤ 255
def acCells (r : Ac) : List Value := [.int .u8 (r.k : Int), .int .u8 (r.p : Int)]
def AL : Lay Ac where
  enc := acCells
  k := 2
  len := fun _ => rfl
  one := by intro f u hu; unfold acCells at hu; simp at hu; rcases hu with rfl | rfl <;> rfl
  pos := by decide
  T := 38
  ok := AcB
  z := azero
theorem al_at {w : World} {a : Option Addr} {n cap : Nat} {l : List Ac} (h : IsL AL w (.slice a n cap) l) {i : Nat} (hi : i < n) : ∃ b off, a = some ⟨b, off, none⟩ ∧ w.cell? ⟨b, off + i * 2, none⟩ = some (.int .u8 ((l.getD i azero).k : Int)) ∧ w.cell? ⟨b, off + i * 2 + 1, none⟩ = some (.int .u8 ((l.getD i azero).p : Int)) ∧ (l.getD i azero).k ≤ 255 ∧ (l.getD i azero).p ≤ 255 := by
  have h' := h
  have hok := h.ok
  obtain ⟨a', cap', e, _, _, h3⟩ := h
  injection e with e1 e2 e3
  have hb : AcB (l.getD i azero) := by
    rw [getD_lt (by omega)]
    exact hok _ (List.getElem_mem _)
  rcases h3 with h3 | ⟨b, off, h4, _⟩
  · rw [h3] at e2; simp at e2; omega
  · subst e1
    subst h4
    exact ⟨b, off, rfl, h'.at_ hi 0 _ rfl, h'.at_ hi 1 _ rfl, hb⟩

end Go.Proofs.Ytfocdjpopjllpaa.Lk
