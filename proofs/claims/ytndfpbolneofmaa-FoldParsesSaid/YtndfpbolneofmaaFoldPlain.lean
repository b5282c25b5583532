/-
  States, in plain Lean: what records come to, a state's bytes, and the state that bytes are. No program is imported.
-/
import Derived.Test.YtndfpbolneofmaaVarPlain
namespace Go.Proofs.Ytndfpbolneofmaa.Fp

/-- A key, and its value. -/
structure Pr where
  k : UInt8
  v : ByteArray

def zero : Pr := ⟨0, ⟨#[]⟩⟩

/-- The pairs ahead of a key, and behind it. -/
def lo (c : UInt8) (l : List Pr) : List Pr := l.filter fun p => decide (p.k.toNat < c.toNat)
def hi (c : UInt8) (l : List Pr) : List Pr := l.filter fun p => decide (c.toNat < p.k.toNat)
/-- Data's key, its value, and what they put in place. -/
def key (s : ByteArray) : UInt8 := s.data.toList.headD 0
def val (s : ByteArray) : ByteArray := s.extract 1 s.size
def mid (s : ByteArray) : List Pr := if s.size = 1 then [] else [⟨key s, val s⟩]
/-- The state behind data. -/
def step (l : List Pr) (s : ByteArray) : List Pr := if s.size = 0 then l else lo (key s) l ++ mid s ++ hi (key s) l
def fold (l : List Pr) (ss : List ByteArray) : List Pr := ss.foldl step l

/-- Keys rise. -/
def Up (l : List Pr) : Prop := l.Pairwise fun a b => a.k.toNat < b.k.toNat
/-- A value may be. -/
def OkV (v : ByteArray) : Prop := 1 ≤ v.size ∧ v.size ≤ 63
/-- It is a state. -/
def St (l : List Pr) : Prop := (∀ p ∈ l, OkV p.v) ∧ Up l
noncomputable def stB (l : List Pr) : Bool := @decide (St l) (Classical.propDecidable _)
theorem stB_yes {l : List Pr} (h : St l) : stB l = true := by unfold stB; exact @decide_eq_true _ (Classical.propDecidable _) h
theorem stB_no {l : List Pr} (h : ¬ St l) : stB l = false := by unfold stB; exact @decide_eq_false _ (Classical.propDecidable _) h
theorem stB_st {l : List Pr} (h : stB l = true) : St l := by unfold stB at h; exact @of_decide_eq_true _ (Classical.propDecidable _) h
theorem stB_nst {l : List Pr} (h : stB l = false) : ¬ St l := by unfold stB at h; exact @of_decide_eq_false _ (Classical.propDecidable _) h

theorem Up.nil : Up [] := List.Pairwise.nil
theorem St.nil : St [] := ⟨by simp, Up.nil⟩
theorem Up.parts {l : List Pr} (c : UInt8) (h : Up l) : lo c l ++ l.filter (fun p => decide (p.k.toNat = c.toNat)) ++ hi c l = l := by
  unfold lo hi
  induction l with
  | nil => rfl
  | cons p l ih =>
    have hp := List.pairwise_cons.1 h
    have ih := ih hp.2
    simp only [List.filter_cons]
    by_cases h1 : p.k.toNat < c.toNat
    · rw [if_pos (by simpa using h1), if_neg (by simp; omega), if_neg (by simp; omega)]
      simpa using ih
    · have hlo : l.filter (fun p => decide (p.k.toNat < c.toNat)) = [] := by
        rw [List.filter_eq_nil_iff]
        intro q hq
        have := hp.1 q hq
        simp; omega
      by_cases h2 : p.k.toNat = c.toNat
      · have hm : l.filter (fun p => decide (p.k.toNat = c.toNat)) = [] := by
          rw [List.filter_eq_nil_iff]
          intro q hq
          have := hp.1 q hq
          simp; omega
        rw [hlo, hm] at ih
        rw [if_neg (by simpa using h1), if_pos (by simpa using h2), if_neg (by simp; omega), hlo, hm]
        simpa using ih
      · have hm : l.filter (fun p => decide (p.k.toNat = c.toNat)) = [] := by
          rw [List.filter_eq_nil_iff]
          intro q hq
          have := hp.1 q hq
          simp; omega
        rw [hlo, hm] at ih
        rw [if_neg (by simpa using h1), if_neg (by simpa using h2), if_pos (by simp; omega), hlo, hm]
        simpa using ih
theorem Up.lo {l : List Pr} (c : UInt8) (h : Up l) : Up (lo c l) := List.Pairwise.filter _ h
theorem Up.hi {l : List Pr} (c : UInt8) (h : Up l) : Up (hi c l) := List.Pairwise.filter _ h
theorem mem_lo {c : UInt8} {l : List Pr} {p : Pr} : p ∈ lo c l ↔ p ∈ l ∧ p.k.toNat < c.toNat := by unfold lo; simp
theorem mem_hi {c : UInt8} {l : List Pr} {p : Pr} : p ∈ hi c l ↔ p ∈ l ∧ c.toNat < p.k.toNat := by unfold hi; simp
theorem mem_mid {s : ByteArray} {p : Pr} (h : p ∈ mid s) : p = ⟨key s, val s⟩ ∧ s.size ≠ 1 := by
  unfold mid at h
  split at h
  · cases h
  · rename_i h1; exact ⟨by simpa using h, h1⟩
theorem Up.step {l : List Pr} (s : ByteArray) (h : Up l) : Up (step l s) := by
  unfold Fp.step
  split
  · exact h
  · unfold Up
    rw [List.pairwise_append, List.pairwise_append]
    refine ⟨⟨h.lo _, ?_, ?_⟩, h.hi _, ?_⟩
    · unfold mid; split <;> simp
    · intro a ha b hb
      rw [(mem_mid hb).1]
      exact (mem_lo.1 ha).2
    · intro a ha b hb
      have := (mem_hi.1 hb).2
      rcases List.mem_append.1 ha with h1 | h1
      · have := (mem_lo.1 h1).2; omega
      · rw [(mem_mid h1).1]; exact this
theorem St.step {l : List Pr} {s : ByteArray} (h : St l) (hs : s.size ≤ 64) : St (step l s) := by
  refine ⟨?_, h.2.step s⟩
  intro p hp
  unfold Fp.step at hp
  split at hp
  · exact h.1 p hp
  · rename_i h0
    rcases List.mem_append.1 hp with hp | hp
    · rcases List.mem_append.1 hp with hp | hp
      · exact h.1 p (mem_lo.1 hp).1
      · obtain ⟨rfl, h1⟩ := mem_mid hp
        unfold OkV val
        simp
        omega
    · exact h.1 p (mem_hi.1 hp).1
theorem fold_nil (l : List Pr) : fold l [] = l := rfl
theorem fold_snoc (l : List Pr) (ss : List ByteArray) (s : ByteArray) : fold l (ss ++ [s]) = step (fold l ss) s := by unfold fold; simp
theorem fold_append (l : List Pr) (a b : List ByteArray) : fold l (a ++ b) = fold (fold l a) b := by unfold fold; simp
theorem Up.fold {l : List Pr} (ss : List ByteArray) (h : Up l) : Up (fold l ss) := by
  induction ss generalizing l with
  | nil => exact h
  | cons s ss ih => exact ih (h.step s)
theorem St.fold {l : List Pr} {ss : List ByteArray} (h : St l) (hs : ∀ s ∈ ss, s.size ≤ 64) : St (fold l ss) := by
  induction ss generalizing l with
  | nil => exact h
  | cons s ss ih => exact ih (h.step (hs s (by simp))) (fun t ht => hs t (by simp [ht]))

/-- Rising keys are few. -/
theorem Up.le_key {l : List Pr} (h : Up l) : ∀ i (hi : i < l.length), i ≤ (l[i]).k.toNat := by
  intro i
  induction i with
  | zero => intro _; omega
  | succ i ih =>
    intro hi
    have h1 := ih (by omega)
    have h2 := List.pairwise_iff_getElem.1 h i (i + 1) (by omega) hi (by omega)
    omega
theorem Up.len {l : List Pr} (h : Up l) : l.length ≤ 256 := by
  rcases Nat.lt_or_ge 256 l.length with h1 | h1
  · have := h.le_key 256 h1
    have := (l[256]).k.toNat_lt
    omega
  · exact h1

/-- Where a key is, or would be: what the search finds. -/
theorem lo_at {l : List Pr} (c : UInt8) (i : Nat) (h1 : ∀ j (hj : j < l.length), j < i → (l[j]).k.toNat < c.toNat) (h2 : ∀ j (hj : j < l.length), i ≤ j → c.toNat ≤ (l[j]).k.toNat) :
    lo c l = l.take i := by
  unfold lo
  conv => lhs; rw [← List.take_append_drop i l, List.filter_append]
  have e1 : (l.take i).filter (fun p => decide (p.k.toNat < c.toNat)) = l.take i := by
    rw [List.filter_eq_self]
    intro p hp
    obtain ⟨j, hj, rfl⟩ := List.getElem_of_mem hp
    rw [List.length_take] at hj
    rw [List.getElem_take]
    simpa using h1 j (by omega) (by omega)
  have e2 : (l.drop i).filter (fun p => decide (p.k.toNat < c.toNat)) = [] := by
    rw [List.filter_eq_nil_iff]
    intro p hp
    obtain ⟨j, hj, rfl⟩ := List.getElem_of_mem hp
    rw [List.length_drop] at hj
    rw [List.getElem_drop]
    have := h2 (i + j) (by omega) (by omega)
    simp; omega
  rw [e1, e2, List.append_nil]
theorem hi_at {l : List Pr} (c : UInt8) (i : Nat) (h1 : ∀ j (hj : j < l.length), j < i → (l[j]).k.toNat ≤ c.toNat) (h2 : ∀ j (hj : j < l.length), i ≤ j → c.toNat < (l[j]).k.toNat) :
    hi c l = l.drop i := by
  unfold hi
  conv => lhs; rw [← List.take_append_drop i l, List.filter_append]
  have e1 : (l.take i).filter (fun p => decide (c.toNat < p.k.toNat)) = [] := by
    rw [List.filter_eq_nil_iff]
    intro p hp
    obtain ⟨j, hj, rfl⟩ := List.getElem_of_mem hp
    rw [List.length_take] at hj
    rw [List.getElem_take]
    have := h1 j (by omega) (by omega)
    simp; omega
  have e2 : (l.drop i).filter (fun p => decide (c.toNat < p.k.toNat)) = l.drop i := by
    rw [List.filter_eq_self]
    intro p hp
    obtain ⟨j, hj, rfl⟩ := List.getElem_of_mem hp
    rw [List.length_drop] at hj
    rw [List.getElem_drop]
    simpa using h2 (i + j) (by omega) (by omega)
  rw [e1, e2, List.nil_append]
theorem Up.at {l : List Pr} (h : Up l) {i j : Nat} (hj : j < l.length) (hij : i < j) : (l[i]).k.toNat < (l[j]).k.toNat := List.pairwise_iff_getElem.1 h i j (by omega) hj hij

/-- What the search finds: so many pairs stand ahead of the key; it is there, or it isn't. -/
structure Found (l : List Pr) (c : UInt8) (i : Nat) (b : Bool) : Prop where
  le : i ≤ l.length
  lt : ∀ j (hj : j < l.length), j < i → (l[j]).k.toNat < c.toNat
  ge : ∀ j (hj : j < l.length), i ≤ j → c.toNat ≤ (l[j]).k.toNat
  hit : b = true → ∃ h : i < l.length, (l[i]).k = c
  miss : b = false → ∀ h : i < l.length, (l[i]).k ≠ c

theorem Found.parts {l : List Pr} {c : UInt8} {i : Nat} (h : Found l c i true) (hu : Up l) : lo c l = l.take i ∧ hi c l = l.drop (i + 1) := by
  obtain ⟨hi, he⟩ := h.hit rfl
  have he' : (l[i]).k.toNat = c.toNat := by rw [he]
  refine ⟨lo_at c i h.lt h.ge, hi_at c (i + 1) ?_ ?_⟩
  · intro j hj hji
    rcases Nat.lt_or_ge j i with h1 | h1
    · have := h.lt j hj h1; omega
    · obtain rfl : j = i := by omega
      omega
  · intro j hj hij
    have := hu.at hj (show i < j by omega)
    omega
theorem Found.parts_miss {l : List Pr} {c : UInt8} {i : Nat} (h : Found l c i false) (hu : Up l) : lo c l = l.take i ∧ hi c l = l.drop i := by
  refine ⟨lo_at c i h.lt h.ge, hi_at c i (fun j hj hji => Nat.le_of_lt (h.lt j hj hji)) ?_⟩
  intro j hj hij
  have h1 := h.ge j hj hij
  rcases Nat.lt_or_ge i j with h2 | h2
  · have h3 := hu.at hj h2
    have h4 := h.ge i (by omega) (by omega)
    omega
  · obtain rfl : j = i := by omega
    have h5 := h.miss rfl hj
    rcases Nat.lt_or_ge c.toNat (l[j]).k.toNat with h6 | h6
    · exact h6
    · exact absurd (UInt8.toNat_inj.1 (by omega)) h5
theorem step_del {l : List Pr} {s : ByteArray} {i : Nat} (h : Found l (key s) i true) (hu : Up l) (hs : s.size = 1) : step l s = l.take i ++ l.drop (i + 1) := by
  unfold step mid
  rw [if_neg (by omega), if_pos hs, (h.parts hu).1, (h.parts hu).2, List.append_nil]
theorem step_set {l : List Pr} {s : ByteArray} {i : Nat} (h : Found l (key s) i true) (hu : Up l) (hs : 1 < s.size) : step l s = l.set i ⟨key s, val s⟩ := by
  unfold step mid
  rw [if_neg (by omega), if_neg (by omega), (h.parts hu).1, (h.parts hu).2]
  obtain ⟨hi, _⟩ := h.hit rfl
  rw [List.set_eq_take_append_cons_drop, if_pos hi]
  simp
theorem step_ins {l : List Pr} {s : ByteArray} {i : Nat} (h : Found l (key s) i false) (hu : Up l) (hs : 1 < s.size) : step l s = l.take i ++ [⟨key s, val s⟩] ++ l.drop i := by
  unfold step mid
  rw [if_neg (by omega), if_neg (by omega), (h.parts_miss hu).1, (h.parts_miss hu).2]
theorem step_none {l : List Pr} {s : ByteArray} {i : Nat} (h : Found l (key s) i false) (hu : Up l) (hs : s.size = 1) : step l s = l := by
  unfold step mid
  rw [if_neg (by omega), if_pos hs, (h.parts_miss hu).1, (h.parts_miss hu).2, List.append_nil, List.take_append_drop]
theorem step_zero (l : List Pr) {s : ByteArray} (hs : s.size = 0) : step l s = l := by unfold step; rw [if_pos hs]

/-- States of the same pairs are the same. -/
theorem Up.ext {a b : List Pr} (ha : Up a) (hb : Up b) (h : ∀ p, p ∈ a ↔ p ∈ b) : a = b := by
  induction a generalizing b with
  | nil =>
    cases b with
    | nil => rfl
    | cons q b => exact absurd ((h q).2 (by simp)) (by simp)
  | cons p a ih =>
    cases b with
    | nil => exact absurd ((h p).1 (by simp)) (by simp)
    | cons q b =>
      have ha' := List.pairwise_cons.1 ha
      have hb' := List.pairwise_cons.1 hb
      have e : p = q := by
        rcases List.mem_cons.1 ((h p).1 (by simp)) with e | hp
        · exact e
        · rcases List.mem_cons.1 ((h q).2 (by simp)) with e | hq
          · exact e.symm
          · have := hb'.1 p hp
            have := ha'.1 q hq
            omega
      subst e
      congr 1
      refine ih ha'.2 hb'.2 (fun r => ⟨fun hr => ?_, fun hr => ?_⟩)
      · rcases List.mem_cons.1 ((h r).1 (by simp [hr])) with e | hr'
        · subst e; have := ha'.1 r hr; omega
        · exact hr'
      · rcases List.mem_cons.1 ((h r).2 (by simp [hr])) with e | hr'
        · subst e; have := hb'.1 r hr; omega
        · exact hr'
theorem mem_step {l : List Pr} {s : ByteArray} {p : Pr} (hs : s.size ≠ 0) : p ∈ step l s ↔ (p ∈ l ∧ p.k ≠ key s) ∨ (p = ⟨key s, val s⟩ ∧ s.size ≠ 1) := by
  unfold step
  rw [if_neg hs, List.mem_append, List.mem_append, mem_lo, mem_hi]
  have hk : p.k ≠ key s ↔ p.k.toNat < (key s).toNat ∨ (key s).toNat < p.k.toNat := by
    rw [Ne, ← UInt8.toNat_inj]; omega
  have hm : p ∈ mid s ↔ (p = ⟨key s, val s⟩ ∧ s.size ≠ 1) := by
    refine ⟨mem_mid, fun h => ?_⟩
    unfold mid; rw [if_neg h.2]; simpa using h.1
  rw [hk, hm]
  constructor
  · rintro ((⟨h1, h2⟩ | h) | ⟨h1, h2⟩)
    · exact .inl ⟨h1, .inl h2⟩
    · exact .inr h
    · exact .inl ⟨h1, .inr h2⟩
  · rintro (⟨h1, h2 | h2⟩ | h)
    · exact .inl (.inl ⟨h1, h2⟩)
    · exact .inr ⟨h1, h2⟩
    · exact .inl (.inr h)
theorem step_same {l : List Pr} {s t : ByteArray} (hu : Up l) (ht : t.size ≠ 0) (h : key t = key s) : step (step l s) t = step l t := by
  by_cases hs : s.size = 0
  · rw [step_zero l hs]
  · refine Up.ext ((hu.step s).step t) (hu.step t) (fun p => ?_)
    rw [mem_step ht, mem_step hs, mem_step ht, h]
    constructor
    · rintro (⟨⟨h1, _⟩ | ⟨rfl, _⟩, h2⟩ | h1)
      · exact .inl ⟨h1, h2⟩
      · exact absurd rfl h2
      · exact .inr h1
    · rintro (⟨h1, h2⟩ | h1)
      · exact .inl ⟨.inl ⟨h1, h2⟩, h2⟩
      · exact .inr h1
theorem step_comm {l : List Pr} {s t : ByteArray} (hu : Up l) (h : t.size = 0 ∨ key t ≠ key s) : step (step l s) t = step (step l t) s := by
  by_cases hs : s.size = 0
  · rw [step_zero l hs, step_zero _ hs]
  by_cases ht : t.size = 0
  · rw [step_zero l ht, step_zero _ ht]
  have h : key t ≠ key s := by rcases h with h | h; exact absurd h ht; exact h
  refine Up.ext ((hu.step s).step t) ((hu.step t).step s) (fun p => ?_)
  rw [mem_step ht, mem_step hs, mem_step hs, mem_step ht]
  constructor
  · rintro (⟨⟨h1, h2⟩ | ⟨rfl, h2⟩, h3⟩ | ⟨rfl, h2⟩)
    · exact .inl ⟨.inl ⟨h1, h3⟩, h2⟩
    · exact .inr ⟨rfl, h2⟩
    · exact .inl ⟨.inr ⟨rfl, h2⟩, h⟩
  · rintro (⟨⟨h1, h2⟩ | ⟨rfl, h2⟩, h3⟩ | ⟨rfl, h2⟩)
    · exact .inl ⟨.inl ⟨h1, h3⟩, h2⟩
    · exact .inr ⟨rfl, h2⟩
    · exact .inl ⟨.inr ⟨rfl, h2⟩, fun e => h e.symm⟩
/-- What comes again needn't have come. -/
theorem fold_again {l : List Pr} {s : ByteArray} {ts : List ByteArray} (hu : Up l) (h : ∃ t ∈ ts, t.size ≠ 0 ∧ key t = key s) : fold (step l s) ts = fold l ts := by
  induction ts generalizing l with
  | nil => obtain ⟨t, ht, _⟩ := h; cases ht
  | cons t ts ih =>
    show fold (step (step l s) t) ts = fold (step l t) ts
    by_cases h1 : t.size ≠ 0 ∧ key t = key s
    · rw [step_same hu h1.1 h1.2]
    · rw [step_comm hu (by by_cases h2 : t.size = 0; exact .inl h2; exact .inr fun h3 => h1 ⟨h2, h3⟩)]
      refine ih (hu.step t) ?_
      obtain ⟨t', ht', h2⟩ := h
      rcases List.mem_cons.1 ht' with rfl | h3
      · exact absurd h2 h1
      · exact ⟨t', h3, h2⟩

/-- The last ones of each key. -/
def Over {α : Type} (d : α → ByteArray) (x : α) (r : List α) : Prop := (d x).size ≠ 0 ∧ ∀ t ∈ r, (d t).size = 0 ∨ key (d t) ≠ key (d x)
noncomputable def lastBy {α : Type} (d : α → ByteArray) : List α → List α
  | [] => []
  | x :: r => if @decide (Over d x r) (Classical.propDecidable _) = true then x :: lastBy d r else lastBy d r
theorem lastBy_yes {α : Type} {d : α → ByteArray} {x : α} {r : List α} (h : Over d x r) : lastBy d (x :: r) = x :: lastBy d r := by
  rw [lastBy, if_pos (@decide_eq_true _ (Classical.propDecidable _) h)]
theorem lastBy_no {α : Type} {d : α → ByteArray} {x : α} {r : List α} (h : ¬ Over d x r) : lastBy d (x :: r) = lastBy d r := by
  rw [lastBy, if_neg (by rw [@decide_eq_false _ (Classical.propDecidable _) h]; simp)]
theorem lastBy_sub {α : Type} (d : α → ByteArray) (r : List α) : ∀ x ∈ lastBy d r, x ∈ r := by
  induction r with
  | nil => simp [lastBy]
  | cons y r ih =>
    intro x hx
    by_cases h : Over d y r
    · rw [lastBy_yes h] at hx
      rcases List.mem_cons.1 hx with rfl | h1
      · simp
      · simp [ih x h1]
    · rw [lastBy_no h] at hx
      simp [ih x hx]
theorem lastBy_len {α : Type} (d : α → ByteArray) (r : List α) : (lastBy d r).length ≤ r.length := by
  induction r with
  | nil => simp [lastBy]
  | cons y r ih =>
    by_cases h : Over d y r
    · rw [lastBy_yes h]; simp; exact ih
    · rw [lastBy_no h]; simp; omega
theorem lastBy_has {α : Type} (d : α → ByteArray) (c : UInt8) (r : List α) (h : ∃ t ∈ r, (d t).size ≠ 0 ∧ key (d t) = c) : ∃ t ∈ lastBy d r, (d t).size ≠ 0 ∧ key (d t) = c := by
  induction r with
  | nil => obtain ⟨t, ht, _⟩ := h; cases ht
  | cons y r ih =>
    by_cases h1 : ∃ t ∈ r, (d t).size ≠ 0 ∧ key (d t) = c
    · obtain ⟨t, ht, h2⟩ := ih h1
      by_cases h3 : Over d y r
      · exact ⟨t, by rw [lastBy_yes h3]; simp [ht], h2⟩
      · exact ⟨t, by rw [lastBy_no h3]; exact ht, h2⟩
    · obtain ⟨t, ht, h2, h4⟩ := h
      rcases List.mem_cons.1 ht with rfl | h5
      · refine ⟨t, ?_, h2, h4⟩
        rw [lastBy_yes ⟨h2, fun u hu => ?_⟩]
        · simp
        · rcases Classical.em ((d u).size = 0) with h6 | h6
          · exact .inl h6
          · exact .inr fun h7 => h1 ⟨u, hu, h6, by rw [h7, h4]⟩
      · exact absurd ⟨t, h5, h2, h4⟩ h1
/-- Only the last one of each key counts. -/
theorem fold_last {α : Type} (d : α → ByteArray) (r : List α) : ∀ l, Up l → fold l ((lastBy d r).map d) = fold l (r.map d) := by
  induction r with
  | nil => intro l _; rfl
  | cons x r ih =>
    intro l hu
    by_cases h : Over d x r
    · rw [lastBy_yes h]
      exact ih _ (hu.step (d x))
    · rw [lastBy_no h]
      show _ = fold (step l (d x)) (r.map d)
      rw [← ih _ (hu.step (d x))]
      by_cases h0 : (d x).size = 0
      · rw [step_zero l h0]
      · have h1 : ∃ t ∈ r, (d t).size ≠ 0 ∧ key (d t) = key (d x) := by
          rcases Classical.em (∃ t ∈ r, (d t).size ≠ 0 ∧ key (d t) = key (d x)) with h1 | h1
          · exact h1
          · refine absurd ⟨h0, fun t ht => ?_⟩ h
            rcases Classical.em ((d t).size = 0) with h2 | h2
            · exact .inl h2
            · exact .inr fun h3 => h1 ⟨t, ht, h2, h3⟩
        obtain ⟨t, ht, h2⟩ := lastBy_has d _ r h1
        exact (fold_again hu ⟨d t, List.mem_map_of_mem ht, h2⟩).symm

/-- A pair's bytes, and a state's. -/
def one (p : Pr) : List UInt8 := p.k :: (Vp.put p.v.size ++ p.v.data.toList)
def flat (l : List Pr) : List UInt8 := l.flatMap one
def bytes (l : List Pr) : List UInt8 := Vp.put l.length ++ flat l
theorem flat_nil : flat [] = [] := rfl
theorem flat_snoc (l : List Pr) (p : Pr) : flat (l ++ [p]) = flat l ++ one p := by unfold flat; simp
theorem flat_cons (l : List Pr) (p : Pr) : flat (p :: l) = one p ++ flat l := by unfold flat; simp
theorem one_len (p : Pr) : (one p).length ≤ 10 + p.v.size := by
  have := Vp.put_len_le p.v.size
  have e : p.v.data.toList.length = p.v.size := rfl
  unfold one
  simp only [List.length_cons, List.length_append, e]
  omega
theorem flat_len (l : List Pr) (m : Nat) (h : ∀ p ∈ l, p.v.size ≤ m) : (flat l).length ≤ l.length * (10 + m) := by
  induction l with
  | nil => simp [flat]
  | cons p l ih =>
    have h1 := ih (fun q hq => h q (by simp [hq]))
    have h2 := one_len p
    have h3 := h p (by simp)
    rw [flat_cons, List.length_append, List.length_cons, Nat.add_mul]
    omega

/-- The pair that stands at the beginning, and how many bytes it has. -/
def pairAt : List UInt8 → Option (Pr × Nat)
  | [] => none
  | k :: r => match Vp.take r with
    | none => none
    | some (n, j) => if r.length < j + n then none else some (⟨k, ⟨((r.drop j).take n).toArray⟩⟩, 1 + j + n)
/-- So many pairs, from a place on. -/
def run : Nat → List UInt8 → List Pr → Nat → Option (List Pr × Nat)
  | 0, _, acc, i => some (acc, i)
  | n + 1, L, acc, i => match pairAt (L.drop i) with
    | none => none
    | some (p, j) => run n L (acc ++ [p]) (i + j)
/-- The state that bytes are. -/
noncomputable def parse (L : List UInt8) : Option (List Pr) :=
  match Vp.take L with
  | none => none
  | some (n, j) => if 256 < n then none else match run n L [] j with
    | none => none
    | some (ps, i) => if i = L.length ∧ stB ps = true then some ps else none
theorem pairAt_len {l : List UInt8} {p : Pr} {j : Nat} (h : pairAt l = some (p, j)) : 0 < j ∧ j ≤ l.length ∧ p.v.size ≤ l.length := by
  cases l with
  | nil => simp [pairAt] at h
  | cons k r =>
    simp only [pairAt] at h
    rcases ht : Vp.take r with _ | ⟨n, i⟩
    · rw [ht] at h; cases h
    · rw [ht] at h
      simp only at h
      split at h
      · cases h
      · have e := Option.some.inj h
        have e1 := congrArg Prod.fst e
        have e2 := congrArg Prod.snd e
        simp only at e1 e2
        subst e1 e2
        refine ⟨by omega, by simp; omega, ?_⟩
        simp [ByteArray.size]; omega
theorem pairAt_one (p : Pr) (r : List UInt8) (h : p.v.size < 9223372036854775808) : pairAt (one p ++ r) = some (p, (one p).length) := by
  have e : p.v.data.toList.length = p.v.size := rfl
  unfold one
  rw [List.cons_append, pairAt, List.append_assoc, Vp.take_put _ _ h]
  simp only
  rw [if_neg (by simp only [List.length_append, e]; omega)]
  congr 2
  · cases p with
    | mk k v =>
      congr 1
      rw [List.drop_left, List.take_left' e]
  · simp only [List.length_cons, List.length_append, e]; omega
theorem run_flat (l : List Pr) : ∀ (A : List UInt8) (acc : List Pr), (∀ p ∈ l, p.v.size < 9223372036854775808) → run l.length (A ++ flat l) acc A.length = some (acc ++ l, A.length + (flat l).length) := by
  induction l with
  | nil => intro A acc _; simp [run, flat]
  | cons p l ih =>
    intro A acc h
    rw [List.length_cons, run, List.drop_left, flat_cons, pairAt_one p _ (h p (by simp))]
    simp only
    have h1 := ih (A ++ one p) (acc ++ [p]) (fun q hq => h q (by simp [hq]))
    rw [List.length_append, List.append_assoc] at h1
    rw [h1]
    simp [Nat.add_assoc]
theorem parse_bytes {l : List Pr} (h : St l) : parse (bytes l) = some l := by
  have hl := h.2.len
  unfold parse bytes
  rw [Vp.take_put _ _ (by omega)]
  simp only
  rw [if_neg (by omega), run_flat l _ _ (fun p hp => by have := (h.1 p hp).2; omega)]
  simp only
  rw [if_pos ⟨by simp, by rw [List.nil_append]; exact stB_yes h⟩]
  simp
theorem parse_st {L : List UInt8} {l : List Pr} (h : parse L = some l) : St l := by
  unfold parse at h
  split at h
  · cases h
  · split at h
    · cases h
    · split at h
      · cases h
      · split at h
        · rename_i h1
          have e := Option.some.inj h
          subst e
          exact stB_st h1.2
        · cases h

end Go.Proofs.Ytndfpbolneofmaa.Fp
