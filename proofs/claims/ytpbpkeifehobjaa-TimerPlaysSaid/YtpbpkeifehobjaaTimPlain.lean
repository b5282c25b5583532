/-
  Alarms, in plain words. No function of the program.
-/
import Derived.Test.YtpbpkeifehobjaaBase
namespace Go.Proofs.Ytpbpkeifehobjaa.Tp

/-- An alarm: its Id, its time. -/
structure Al where
  i : Int
  t : Int
deriving DecidableEq
def azero : Al := ⟨0, 0⟩
/-- By time, then by Id. -/
def Lt (a b : Al) : Prop := a.t < b.t ∨ (a.t = b.t ∧ a.i < b.i)
instance (a b : Al) : Decidable (Lt a b) := by unfold Lt; infer_instance
theorem Lt.trans {a b c : Al} (h : Lt a b) (k : Lt b c) : Lt a c := by unfold Lt at *; omega
theorem Lt.of_not {a b : Al} (h : ¬ Lt b a) (hi : b.i ≠ a.i) : Lt a b := by unfold Lt at *; omega
/-- In its place. -/
def ins (a : Al) : List Al → List Al
  | [] => [a]
  | b :: l => if Lt b a then b :: ins a l else a :: b :: l
def cancel (l : List Al) (i : Int) : List Al := l.filter fun b => decide (b.i ≠ i)
def armA (now i after : Int) : Al := ⟨i, now + max after 1⟩
def arm (now : Int) (l : List Al) (i after : Int) : List Al := ins (armA now i after) (cancel l i)
def armed (l : List Al) (i : Int) : Bool := l.any fun b => decide (b.i = i)
def rings (l : List Al) (t : Int) : List Int := (l.filter fun b => decide (b.t ≤ t)).map (·.i)
def rest (l : List Al) (t : Int) : List Al := l.filter fun b => decide (¬ b.t ≤ t)

/-- In order, each of another Id. -/
structure Right (l : List Al) : Prop where
  s : l.Pairwise Lt
  u : l.Pairwise fun a b => a.i ≠ b.i
theorem Right.nil : Right [] := ⟨List.Pairwise.nil, List.Pairwise.nil⟩
theorem Right.filter {l : List Al} (h : Right l) (p : Al → Bool) : Right (l.filter p) := ⟨h.s.filter p, h.u.filter p⟩
theorem mem_ins {a b : Al} : ∀ {l : List Al}, b ∈ ins a l ↔ b = a ∨ b ∈ l
  | [] => by simp [ins]
  | c :: l => by
    unfold ins
    split
    · rw [List.mem_cons, mem_ins, List.mem_cons]
      constructor
      · rintro (h | h | h)
        · exact .inr (.inl h)
        · exact .inl h
        · exact .inr (.inr h)
      · rintro (h | h | h)
        · exact .inr (.inl h)
        · exact .inl h
        · exact .inr (.inr h)
    · rw [List.mem_cons, List.mem_cons]
theorem ins_len {a : Al} : ∀ {l : List Al}, (ins a l).length = l.length + 1
  | [] => rfl
  | c :: l => by
    unfold ins
    split
    · rw [List.length_cons, ins_len, List.length_cons]
    · rfl
theorem Right.ins {a : Al} : ∀ {l : List Al}, Right l → (∀ b ∈ l, b.i ≠ a.i) → Right (ins a l)
  | [], _, _ => ⟨List.pairwise_singleton _ _, List.pairwise_singleton _ _⟩
  | c :: l, h, hn => by
    have hs := List.pairwise_cons.1 h.s
    have hu := List.pairwise_cons.1 h.u
    have hc := hn c List.mem_cons_self
    unfold Tp.ins
    split
    · rename_i hlt
      have ih := Right.ins ⟨hs.2, hu.2⟩ (fun b hb => hn b (List.mem_cons_of_mem _ hb))
      refine ⟨List.pairwise_cons.2 ⟨fun b hb => ?_, ih.s⟩, List.pairwise_cons.2 ⟨fun b hb => ?_, ih.u⟩⟩
      · rcases mem_ins.1 hb with rfl | hb
        · exact hlt
        · exact hs.1 b hb
      · rcases mem_ins.1 hb with rfl | hb
        · exact hc
        · exact hu.1 b hb
    · rename_i hlt
      have hac := Lt.of_not hlt hc
      refine ⟨List.pairwise_cons.2 ⟨fun b hb => ?_, h.s⟩, List.pairwise_cons.2 ⟨fun b hb => (hn b hb).symm, h.u⟩⟩
      rcases List.mem_cons.1 hb with rfl | hb
      · exact hac
      · exact hac.trans (hs.1 b hb)
theorem mem_cancel {l : List Al} {i : Int} {b : Al} : b ∈ cancel l i ↔ b ∈ l ∧ b.i ≠ i := by unfold cancel; rw [List.mem_filter]; simp
theorem Right.cancel {l : List Al} (h : Right l) (i : Int) : Right (cancel l i) := h.filter _
theorem Right.arm {l : List Al} (h : Right l) (now i after : Int) : Right (arm now l i after) := Right.ins (h.cancel i) fun _ hb => (mem_cancel.1 hb).2
theorem Right.rest {l : List Al} (h : Right l) (t : Int) : Right (rest l t) := h.filter _
/-- Where it goes. -/
theorem ins_at {a : Al} : ∀ {l : List Al} {k : Nat}, k ≤ l.length → (∀ j, j < k → Lt (l.getD j azero) a) → (k < l.length → ¬ Lt (l.getD k azero) a) → ins a l = l.take k ++ [a] ++ l.drop k
  | [], k, hk, _, _ => by
    obtain rfl : k = 0 := by simpa using hk
    rfl
  | c :: l, 0, _, _, hn => by
    have := hn (by simp)
    rw [List.getD_cons_zero] at this
    unfold ins
    rw [if_neg this]
    rfl
  | c :: l, k + 1, hk, hl, hn => by
    have h0 := hl 0 (Nat.succ_pos _)
    rw [List.getD_cons_zero] at h0
    unfold ins
    rw [if_pos h0, ins_at (k := k) (by simpa using hk) (fun j hj => by have := hl (j + 1) (by omega); simpa using this) (fun h => by have := hn (by simpa using h); simpa using this)]
    rfl
theorem cancel_snoc {l : List Al} {k : Nat} (h : k < l.length) (i : Int) : cancel (l.take (k + 1)) i = cancel (l.take k) i ++ (if (l.getD k azero).i = i then [] else [l.getD k azero]) := by
  have e : l.getD k azero = l[k] := by simp [List.getD_eq_getElem?_getD, h]
  unfold cancel
  rw [List.take_succ_eq_append_getElem h, List.filter_append, e]
  congr 1
  by_cases hi : l[k].i = i
  · rw [if_pos hi]; simp [hi]
  · rw [if_neg hi]; simp [hi]
theorem rest_snoc {l : List Al} {k : Nat} (h : k < l.length) (t : Int) : rest (l.take (k + 1)) t = rest (l.take k) t ++ (if (l.getD k azero).t ≤ t then [] else [l.getD k azero]) := by
  have e : l.getD k azero = l[k] := by simp [List.getD_eq_getElem?_getD, h]
  unfold rest
  rw [List.take_succ_eq_append_getElem h, List.filter_append, e]
  congr 1
  by_cases hi : l[k].t ≤ t
  · rw [if_pos hi]
    have : ¬ t < l[k].t := by omega
    simp [this]
  · rw [if_neg hi]
    have : t < l[k].t := by omega
    simp [this]
theorem rings_snoc {l : List Al} {k : Nat} (h : k < l.length) (t : Int) : rings (l.take (k + 1)) t = rings (l.take k) t ++ (if (l.getD k azero).t ≤ t then [(l.getD k azero).i] else []) := by
  have e : l.getD k azero = l[k] := by simp [List.getD_eq_getElem?_getD, h]
  unfold rings
  rw [List.take_succ_eq_append_getElem h, List.filter_append, List.map_append, e]
  congr 1
  by_cases hi : l[k].t ≤ t
  · rw [if_pos hi]; simp [hi]
  · rw [if_neg hi]
    have : t < l[k].t := by omega
    simp [this]
theorem cancel_len (l : List Al) (i : Int) : (cancel l i).length ≤ l.length := List.length_filter_le _ _
theorem rest_len (l : List Al) (t : Int) : (rest l t).length ≤ l.length := List.length_filter_le _ _
theorem rings_len (l : List Al) (t : Int) : (rings l t).length ≤ l.length := by unfold rings; rw [List.length_map]; exact List.length_filter_le _ _
theorem armed_iff {l : List Al} {i : Int} : armed l i = true ↔ ∃ b ∈ l, b.i = i := by unfold armed; simp [List.any_eq_true]

end Go.Proofs.Ytpbpkeifehobjaa.Tp
