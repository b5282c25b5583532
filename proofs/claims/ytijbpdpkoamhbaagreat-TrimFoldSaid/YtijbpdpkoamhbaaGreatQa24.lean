/-
  Parts of what the laws of this seat stand on: FoldPlain, LogDisk.
-/
import Derived.Test.YtijbpdpkoamhbaaGreatQa1
import Derived.Test.YtijbpdpkoamhbaaGreatQa8
import Derived.Test.YtijbpdpkoamhbaaGreatQa9
set_option maxRecDepth 100000
set_option maxHeartbeats 6400000
namespace Go.Proofs.YtijbpdpkoamhbaaGreat
namespace Fp
structure Pr where
 k : UInt8
 v : ByteArray
def zero : Pr := ⟨0, ⟨#[]⟩⟩
def lo (c : UInt8) (l : List Pr) : List Pr := l.filter fun p => decide (p.k.toNat < c.toNat)
def hi (c : UInt8) (l : List Pr) : List Pr := l.filter fun p => decide (c.toNat < p.k.toNat)
def key (s : ByteArray) : UInt8 := s.data.toList.headD 0
def val (s : ByteArray) : ByteArray := s.extract 1 s.size
def mid (s : ByteArray) : List Pr := if s.size = 1 then [] else [⟨key s, val s⟩]
def step (l : List Pr) (s : ByteArray) : List Pr := if s.size = 0 then l else lo (key s) l ++ mid s ++ hi (key s) l
def fold (l : List Pr) (ss : List ByteArray) : List Pr := ss.foldl step l
def Up (l : List Pr) : Prop := l.Pairwise fun a b => a.k.toNat < b.k.toNat
def OkV (v : ByteArray) : Prop := 1 ≤ v.size ∧ v.size ≤ 63
def St (l : List Pr) : Prop := (∀ p ∈ l, OkV p.v) ∧ Up l
noncomputable def stB (l : List Pr) : Bool := @decide (St l) (Classical.propDecidable _)
theorem stB_yes {l : List Pr} (h : St l) : stB l = true := by unfold stB; exact @decide_eq_true _ (Classical.propDecidable _) h
theorem stB_no {l : List Pr} (h : ¬ St l) : stB l = false := by unfold stB; exact @decide_eq_false _ (Classical.propDecidable _) h
theorem stB_st {l : List Pr} (h : stB l = true) : St l := by unfold stB at h; exact @of_decide_eq_true _ (Classical.propDecidable _) h
theorem Up.nil : Up [] := List.Pairwise.nil
theorem St.nil : St [] := ⟨by simp, Up.nil⟩
theorem Up.lo {l : List Pr} (c : UInt8) (h : Up l) : Up (lo c l) := List.Pairwise.filter _ h
theorem Up.hi {l : List Pr} (c : UInt8) (h : Up l) : Up (hi c l) := List.Pairwise.filter _ h
theorem mem_lo {c : UInt8} {l : List Pr} {p : Pr} : p ∈ lo c l ↔ p ∈ l ∧ p.k.toNat < c.toNat := by unfold lo; simp
theorem mem_hi {c : UInt8} {l : List Pr} {p : Pr} : p ∈ hi c l ↔ p ∈ l ∧ c.toNat < p.k.toNat := by unfold hi; simp
theorem mem_mid {s : ByteArray} {p : Pr} (h : p ∈ mid s) : p = ⟨key s, val s⟩ ∧ s.size ≠ 1 := by
 unfold mid at h
 split at h
 · cases h
 · rename_i h1; exact ⟨by simpa using h, h1⟩
theorem Up.step {l : List Pr} (s : ByteArray) (h : Up l) : Up (step l s) := by
 unfold Fp.step
 split
 · exact h
 · unfold Up
   rw [List.pairwise_append, List.pairwise_append]
   refine ⟨⟨h.lo _, ?_, ?_⟩, h.hi _, ?_⟩
   · unfold mid; split <;> simp
   · intro a ha b hb
     rw [(mem_mid hb).1]
     exact (mem_lo.1 ha).2
   · intro a ha b hb
     have := (mem_hi.1 hb).2
     rcases List.mem_append.1 ha with h1 | h1
     · have := (mem_lo.1 h1).2; omega
     · rw [(mem_mid h1).1]; exact this
theorem St.step {l : List Pr} {s : ByteArray} (h : St l) (hs : s.size ≤ 64) : St (step l s) := by
 refine ⟨?_, h.2.step s⟩
 intro p hp
 unfold Fp.step at hp
 split at hp
 · exact h.1 p hp
 · rename_i h0
   rcases List.mem_append.1 hp with hp | hp
   · rcases List.mem_append.1 hp with hp | hp
     · exact h.1 p (mem_lo.1 hp).1
     · obtain ⟨rfl, h1⟩ := mem_mid hp
       unfold OkV val
       simp
       omega
   · exact h.1 p (mem_hi.1 hp).1
theorem fold_snoc (l : List Pr) (ss : List ByteArray) (s : ByteArray) : fold l (ss ++ [s]) = step (fold l ss) s := by unfold fold; simp
theorem fold_append (l : List Pr) (a b : List ByteArray) : fold l (a ++ b) = fold (fold l a) b := by unfold fold; simp
theorem St.fold {l : List Pr} {ss : List ByteArray} (h : St l) (hs : ∀ s ∈ ss, s.size ≤ 64) : St (fold l ss) := by
 induction ss generalizing l with
 | nil => exact h
 | cons s ss ih => exact ih (h.step (hs s (by simp))) (fun t ht => hs t (by simp [ht]))
theorem Up.le_key {l : List Pr} (h : Up l) : ∀ i (hi : i < l.length), i ≤ (l[i]).k.toNat := by
 intro i
 induction i with
 | zero => intro _; omega
 | succ i ih =>
  intro hi
  have h1 := ih (by omega)
  have h2 := List.pairwise_iff_getElem.1 h i (i + 1) (by omega) hi (by omega)
  omega
theorem Up.len {l : List Pr} (h : Up l) : l.length ≤ 256 := by
 rcases Nat.lt_or_ge 256 l.length with h1 | h1
 · have := h.le_key 256 h1
   have := (l[256]).k.toNat_lt
   omega
 · exact h1
theorem lo_at {l : List Pr} (c : UInt8) (i : Nat) (h1 : ∀ j (hj : j < l.length), j < i → (l[j]).k.toNat < c.toNat) (h2 : ∀ j (hj : j < l.length), i ≤ j → c.toNat ≤ (l[j]).k.toNat) :
 lo c l = l.take i := by
 unfold lo
 conv => lhs; rw [← List.take_append_drop i l, List.filter_append]
 have e1 : (l.take i).filter (fun p => decide (p.k.toNat < c.toNat)) = l.take i := by
  rw [List.filter_eq_self]
  intro p hp
  obtain ⟨j, hj, rfl⟩ := List.getElem_of_mem hp
  rw [List.length_take] at hj
  rw [List.getElem_take]
  simpa using h1 j (by omega) (by omega)
 have e2 : (l.drop i).filter (fun p => decide (p.k.toNat < c.toNat)) = [] := by
  rw [List.filter_eq_nil_iff]
  intro p hp
  obtain ⟨j, hj, rfl⟩ := List.getElem_of_mem hp
  rw [List.length_drop] at hj
  rw [List.getElem_drop]
  have := h2 (i + j) (by omega) (by omega)
  simp; omega
 rw [e1, e2, List.append_nil]
theorem hi_at {l : List Pr} (c : UInt8) (i : Nat) (h1 : ∀ j (hj : j < l.length), j < i → (l[j]).k.toNat ≤ c.toNat) (h2 : ∀ j (hj : j < l.length), i ≤ j → c.toNat < (l[j]).k.toNat) :
 hi c l = l.drop i := by
 unfold hi
 conv => lhs; rw [← List.take_append_drop i l, List.filter_append]
 have e1 : (l.take i).filter (fun p => decide (c.toNat < p.k.toNat)) = [] := by
  rw [List.filter_eq_nil_iff]
  intro p hp
  obtain ⟨j, hj, rfl⟩ := List.getElem_of_mem hp
  rw [List.length_take] at hj
  rw [List.getElem_take]
  have := h1 j (by omega) (by omega)
  simp; omega
 have e2 : (l.drop i).filter (fun p => decide (c.toNat < p.k.toNat)) = l.drop i := by
  rw [List.filter_eq_self]
  intro p hp
  obtain ⟨j, hj, rfl⟩ := List.getElem_of_mem hp
  rw [List.length_drop] at hj
  rw [List.getElem_drop]
  simpa using h2 (i + j) (by omega) (by omega)
 rw [e1, e2, List.nil_append]
theorem Up.at {l : List Pr} (h : Up l) {i j : Nat} (hj : j < l.length) (hij : i < j) : (l[i]).k.toNat < (l[j]).k.toNat := List.pairwise_iff_getElem.1 h i j (by omega) hj hij
structure Found (l : List Pr) (c : UInt8) (i : Nat) (b : Bool) : Prop where
 le : i ≤ l.length
 lt : ∀ j (hj : j < l.length), j < i → (l[j]).k.toNat < c.toNat
 ge : ∀ j (hj : j < l.length), i ≤ j → c.toNat ≤ (l[j]).k.toNat
 hit : b = true → ∃ h : i < l.length, (l[i]).k = c
 miss : b = false → ∀ h : i < l.length, (l[i]).k ≠ c
theorem Found.parts {l : List Pr} {c : UInt8} {i : Nat} (h : Found l c i true) (hu : Up l) : lo c l = l.take i ∧ hi c l = l.drop (i + 1) := by
 obtain ⟨hi, he⟩ := h.hit rfl
 have he' : (l[i]).k.toNat = c.toNat := by rw [he]
 refine ⟨lo_at c i h.lt h.ge, hi_at c (i + 1) ?_ ?_⟩
 · intro j hj hji
   rcases Nat.lt_or_ge j i with h1 | h1
   · have := h.lt j hj h1; omega
   · obtain rfl : j = i := by omega
     omega
 · intro j hj hij
   have := hu.at hj (show i < j by omega)
   omega
theorem Found.parts_miss {l : List Pr} {c : UInt8} {i : Nat} (h : Found l c i false) (hu : Up l) : lo c l = l.take i ∧ hi c l = l.drop i := by
 refine ⟨lo_at c i h.lt h.ge, hi_at c i (fun j hj hji => Nat.le_of_lt (h.lt j hj hji)) ?_⟩
 intro j hj hij
 have h1 := h.ge j hj hij
 rcases Nat.lt_or_ge i j with h2 | h2
 · have h3 := hu.at hj h2
   have h4 := h.ge i (by omega) (by omega)
   omega
 · obtain rfl : j = i := by omega
   have h5 := h.miss rfl hj
   rcases Nat.lt_or_ge c.toNat (l[j]).k.toNat with h6 | h6
   · exact h6
   · exact absurd (UInt8.toNat_inj.1 (by omega)) h5
theorem step_del {l : List Pr} {s : ByteArray} {i : Nat} (h : Found l (key s) i true) (hu : Up l) (hs : s.size = 1) : step l s = l.take i ++ l.drop (i + 1) := by
 unfold step mid
 rw [if_neg (by omega), if_pos hs, (h.parts hu).1, (h.parts hu).2, List.append_nil]
theorem step_set {l : List Pr} {s : ByteArray} {i : Nat} (h : Found l (key s) i true) (hu : Up l) (hs : 1 < s.size) : step l s = l.set i ⟨key s, val s⟩ := by
 unfold step mid
 rw [if_neg (by omega), if_neg (by omega), (h.parts hu).1, (h.parts hu).2]
 obtain ⟨hi, _⟩ := h.hit rfl
 rw [List.set_eq_take_append_cons_drop, if_pos hi]
 simp
theorem step_ins {l : List Pr} {s : ByteArray} {i : Nat} (h : Found l (key s) i false) (hu : Up l) (hs : 1 < s.size) : step l s = l.take i ++ [⟨key s, val s⟩] ++ l.drop i := by
 unfold step mid
 rw [if_neg (by omega), if_neg (by omega), (h.parts_miss hu).1, (h.parts_miss hu).2]
theorem step_none {l : List Pr} {s : ByteArray} {i : Nat} (h : Found l (key s) i false) (hu : Up l) (hs : s.size = 1) : step l s = l := by
 unfold step mid
 rw [if_neg (by omega), if_pos hs, (h.parts_miss hu).1, (h.parts_miss hu).2, List.append_nil, List.take_append_drop]
theorem step_zero (l : List Pr) {s : ByteArray} (hs : s.size = 0) : step l s = l := by unfold step; rw [if_pos hs]
theorem mem_step {l : List Pr} {s : ByteArray} {p : Pr} (hs : s.size ≠ 0) : p ∈ step l s ↔ (p ∈ l ∧ p.k ≠ key s) ∨ (p = ⟨key s, val s⟩ ∧ s.size ≠ 1) := by
 unfold step
 rw [if_neg hs, List.mem_append, List.mem_append, mem_lo, mem_hi]
 have hk : p.k ≠ key s ↔ p.k.toNat < (key s).toNat ∨ (key s).toNat < p.k.toNat := by
  rw [Ne, ← UInt8.toNat_inj]; omega
 have hm : p ∈ mid s ↔ (p = ⟨key s, val s⟩ ∧ s.size ≠ 1) := by
  refine ⟨mem_mid, fun h => ?_⟩
  unfold mid; rw [if_neg h.2]; simpa using h.1
 rw [hk, hm]
 constructor
 · rintro ((⟨h1, h2⟩ | h) | ⟨h1, h2⟩)
   · exact .inl ⟨h1, .inl h2⟩
   · exact .inr h
   · exact .inl ⟨h1, .inr h2⟩
 · rintro (⟨h1, h2 | h2⟩ | h)
   · exact .inl (.inl ⟨h1, h2⟩)
   · exact .inr ⟨h1, h2⟩
   · exact .inl (.inr h)
def one (p : Pr) : List UInt8 := p.k :: (Vp.put p.v.size ++ p.v.data.toList)
def flat (l : List Pr) : List UInt8 := l.flatMap one
def bytes (l : List Pr) : List UInt8 := Vp.put l.length ++ flat l
theorem flat_snoc (l : List Pr) (p : Pr) : flat (l ++ [p]) = flat l ++ one p := by unfold flat; simp
theorem flat_cons (l : List Pr) (p : Pr) : flat (p :: l) = one p ++ flat l := by unfold flat; simp
theorem one_len (p : Pr) : (one p).length ≤ 10 + p.v.size := by
 have := Vp.put_len_le p.v.size
 have e : p.v.data.toList.length = p.v.size := rfl
 unfold one
 simp only [List.length_cons, List.length_append, e]
 omega
theorem flat_len (l : List Pr) (m : Nat) (h : ∀ p ∈ l, p.v.size ≤ m) : (flat l).length ≤ l.length * (10 + m) := by
 induction l with
 | nil => simp [flat]
 | cons p l ih =>
  have h1 := ih (fun q hq => h q (by simp [hq]))
  have h2 := one_len p
  have h3 := h p (by simp)
  rw [flat_cons, List.length_append, List.length_cons, Nat.add_mul]
  omega
def pairAt : List UInt8 → Option (Pr × Nat)
 | [] => none
 | k :: r => match Vp.take r with
  | none => none
  | some (n, j) => if r.length < j + n then none else some (⟨k, ⟨((r.drop j).take n).toArray⟩⟩, 1 + j + n)
def run : Nat → List UInt8 → List Pr → Nat → Option (List Pr × Nat)
 | 0, _, acc, i => some (acc, i)
 | n + 1, L, acc, i => match pairAt (L.drop i) with
  | none => none
  | some (p, j) => run n L (acc ++ [p]) (i + j)
noncomputable def parse (L : List UInt8) : Option (List Pr) :=
 match Vp.take L with
 | none => none
 | some (n, j) => if 256 < n then none else match run n L [] j with
  | none => none
  | some (ps, i) => if i = L.length ∧ stB ps = true then some ps else none
theorem pairAt_len {l : List UInt8} {p : Pr} {j : Nat} (h : pairAt l = some (p, j)) : 0 < j ∧ j ≤ l.length ∧ p.v.size ≤ l.length := by
 cases l with
 | nil => simp [pairAt] at h
 | cons k r =>
  simp only [pairAt] at h
  rcases ht : Vp.take r with _ | ⟨n, i⟩
  · rw [ht] at h; cases h
  · rw [ht] at h
    simp only at h
    split at h
    · cases h
    · have e := Option.some.inj h
      have e1 := congrArg Prod.fst e
      have e2 := congrArg Prod.snd e
      simp only at e1 e2
      subst e1 e2
      refine ⟨by omega, by simp; omega, ?_⟩
      simp [ByteArray.size]; omega
theorem pairAt_one (p : Pr) (r : List UInt8) (h : p.v.size < 9223372036854775808) : pairAt (one p ++ r) = some (p, (one p).length) := by
 have e : p.v.data.toList.length = p.v.size := rfl
 unfold one
 rw [List.cons_append, pairAt, List.append_assoc, Vp.take_put _ _ h]
 simp only
 rw [if_neg (by simp only [List.length_append, e]; omega)]
 congr 2
 · cases p with
   | mk k v =>
    congr 1
    rw [List.drop_left, List.take_left' e]
 · simp only [List.length_cons, List.length_append, e]; omega
theorem run_flat (l : List Pr) : ∀ (A : List UInt8) (acc : List Pr), (∀ p ∈ l, p.v.size < 9223372036854775808) → run l.length (A ++ flat l) acc A.length = some (acc ++ l, A.length + (flat l).length) := by
 induction l with
 | nil => intro A acc _; simp [run, flat]
 | cons p l ih =>
  intro A acc h
  rw [List.length_cons, run, List.drop_left, flat_cons, pairAt_one p _ (h p (by simp))]
  simp only
  have h1 := ih (A ++ one p) (acc ++ [p]) (fun q hq => h q (by simp [hq]))
  rw [List.length_append, List.append_assoc] at h1
  rw [h1]
  simp [Nat.add_assoc]
theorem parse_bytes {l : List Pr} (h : St l) : parse (bytes l) = some l := by
 have hl := h.2.len
 unfold parse bytes
 rw [Vp.take_put _ _ (by omega)]
 simp only
 rw [if_neg (by omega), run_flat l _ _ (fun p hp => by have := (h.1 p hp).2; omega)]
 simp only
 rw [if_pos ⟨by simp, by rw [List.nil_append]; exact stB_yes h⟩]
 simp
theorem parse_st {L : List UInt8} {l : List Pr} (h : parse L = some l) : St l := by
 unfold parse at h
 split at h
 · cases h
 · split at h
   · cases h
   · split at h
     · cases h
     · split at h
       · rename_i h1
         have e := Option.some.inj h
         subst e
         exact stB_st h1.2
       · cases h
end Fp
namespace Lg
open Dp So
structure Dead (D : Dk) (R : Dk × Int) : Prop where
 e : R.2 = 10
 x : R.1.x = true
 f : R.1.f = D.f
structure Done (D : Dk) (R : Dk × Int) (F : ByteArray → Option Fl) : Prop where
 x : D.x = false
 e : R.2 = 0
 y : R.1.x = false
 f : ∀ m, get R.1.f m = F m
 c : R.1.c = D.c
theorem chg (D : Dk) (l : List Fl) (own : Int) : Dead D (change D l own) ∨ (D.x = false ∧ own ≠ 0 ∧ change D l own = (D, own)) ∨ (D.x = false ∧ own = 0 ∧ (change D l own).2 = 0 ∧ (change D l own).1.x = false ∧ (change D l own).1.f = l ∧ (change D l own).1.c = D.c) := by
 rcases change_cases D l own with ⟨e, h⟩ | ⟨e, h1, h2⟩ | ⟨e, h0, h1, _⟩ | ⟨e, h0, h1, _⟩ | ⟨e, h0, h1, _⟩
 · exact .inl ⟨by rw [e], by rw [e]; exact h, by rw [e]⟩
 · exact .inr (.inl ⟨h2, h1, e⟩)
 · exact .inl ⟨by rw [e], by rw [e], by rw [e]⟩
 · exact .inr (.inr ⟨h1, h0, by rw [e], by rw [e]; exact h1, by rw [e], by rw [e]⟩)
 · exact .inr (.inr ⟨h1, h0, by rw [e], by rw [e]; exact h1, by rw [e], by rw [e]⟩)
theorem create_cases {D : Dk} (hR : Right D) {n : ByteArray} (hn : Named n) : Dead D (create D n) ∨ (D.x = false ∧ get D.f n ≠ none ∧ create D n = (D, 8)) ∨ (get D.f n = none ∧ Done D (create D n) (fun m => if m = n then some ⟨n, ⟨#[]⟩, 0⟩ else get D.f m)) := by
 unfold create
 rw [if_neg (by simpa using hn)]
 split
 · rename_i h
   rcases chg D [] 8 with h1 | ⟨h1, _, h2⟩ | ⟨_, h1, _⟩
   · exact .inl h1
   · exact .inr (.inl ⟨h1, by intro e; rw [e] at h; simp at h, h2⟩)
   · cases h1
 · rename_i h
   rcases chg D (withF D.f ⟨n, ⟨#[]⟩, 0⟩) 0 with h1 | ⟨_, h1, _⟩ | ⟨h1, _, h2, h3, h4, h5⟩
   · exact .inl h1
   · exact absurd rfl h1
   · exact .inr (.inr ⟨by simpa using h, h1, h2, h3, fun m => by rw [h4]; exact get_withF hR.2.1 _ _, h5⟩)
theorem append_cases {D : Dk} (hR : Right D) (n s : ByteArray) : Dead D (Dp.append D n s) ∨ (D.x = false ∧ get D.f n = none ∧ Dp.append D n s = (D, 7)) ∨ (D.x = false ∧ 0 < D.c ∧ Dp.append D n s = (D, 9)) ∨ ∃ f, get D.f n = some f ∧ Done D (Dp.append D n s) (fun m => if m = n then some ⟨n, f.d ++ s, f.s⟩ else get D.f m) := by
 unfold Dp.append
 split
 · rename_i h
   rcases chg D [] 7 with h1 | ⟨h1, _, h2⟩ | ⟨_, h1, _⟩
   · exact .inl h1
   · exact .inr (.inl ⟨h1, h, h2⟩)
   · cases h1
 · rename_i f h
   have hfn := (get_mem h).2
   split
   · rename_i hc
     rcases chg D [] 9 with h1 | ⟨h1, _, h2⟩ | ⟨_, h1, _⟩
     · exact .inl h1
     · exact .inr (.inr (.inl ⟨h1, hc.1, h2⟩))
     · cases h1
   · rcases chg D (withF D.f ⟨f.n, f.d ++ s, f.s⟩) 0 with h1 | ⟨_, h1, _⟩ | ⟨h1, _, h2, h3, h4, h5⟩
     · exact .inl h1
     · exact absurd rfl h1
     · refine .inr (.inr (.inr ⟨f, h, h1, h2, h3, fun m => ?_, h5⟩))
       rw [h4, hfn]
       exact get_withF hR.2.1 _ _
theorem sync_cases {D : Dk} (hR : Right D) (n : ByteArray) : Dead D (sync D n) ∨ (D.x = false ∧ get D.f n = none ∧ sync D n = (D, 7)) ∨ ∃ f, get D.f n = some f ∧ Done D (sync D n) (fun m => if m = n then some ⟨n, f.d, f.d.size⟩ else get D.f m) := by
 unfold sync
 split
 · rename_i h
   rcases chg D [] 7 with h1 | ⟨h1, _, h2⟩ | ⟨_, h1, _⟩
   · exact .inl h1
   · exact .inr (.inl ⟨h1, h, h2⟩)
   · cases h1
 · rename_i f h
   have hfn := (get_mem h).2
   rcases chg D (withF D.f ⟨f.n, f.d, f.d.size⟩) 0 with h1 | ⟨_, h1, _⟩ | ⟨h1, _, h2, h3, h4, h5⟩
   · exact .inl h1
   · exact absurd rfl h1
   · refine .inr (.inr ⟨f, h, h1, h2, h3, fun m => ?_, h5⟩)
     rw [h4, hfn]
     exact get_withF hR.2.1 _ _
theorem rename_cases {D : Dk} (hR : Right D) (n m : ByteArray) (hm : Named m) : Dead D (rename D n m) ∨ (D.x = false ∧ get D.f n = none ∧ rename D n m = (D, 7)) ∨ ∃ f, get D.f n = some f ∧ Done D (rename D n m) (fun x => if x = m then some ⟨m, f.d, f.s⟩ else if x = n then none else get D.f x) := by
 unfold rename
 split
 · rename_i h
   rcases chg D [] 7 with h1 | ⟨h1, _, h2⟩ | ⟨_, h1, _⟩
   · exact .inl h1
   · exact .inr (.inl ⟨h1, h, h2⟩)
   · cases h1
 · rename_i f h
   rw [if_neg (by simpa using hm)]
   rcases chg D (withF (without D.f n) ⟨m, f.d, f.s⟩) 0 with h1 | ⟨_, h1, _⟩ | ⟨h1, _, h2, h3, h4, h5⟩
   · exact .inl h1
   · exact absurd rfl h1
   · refine .inr (.inr ⟨f, h, h1, h2, h3, fun x => ?_, h5⟩)
     rw [h4, get_withF (hR.2.1.without n), get_without hR.2.1]
theorem delete_cases {D : Dk} (hR : Right D) (n : ByteArray) : Dead D (delete D n) ∨ (D.x = false ∧ get D.f n = none ∧ delete D n = (D, 7)) ∨ (get D.f n ≠ none ∧ Done D (delete D n) (fun m => if m = n then none else get D.f m)) := by
 unfold delete
 split
 · rename_i h
   rcases chg D [] 7 with h1 | ⟨h1, _, h2⟩ | ⟨_, h1, _⟩
   · exact .inl h1
   · exact .inr (.inl ⟨h1, h, h2⟩)
   · cases h1
 · rename_i f h
   rcases chg D (without D.f n) 0 with h1 | ⟨_, h1, _⟩ | ⟨h1, _, h2, h3, h4, h5⟩
   · exact .inl h1
   · exact absurd rfl h1
   · exact .inr (.inr ⟨by rw [h]; simp, h1, h2, h3, fun m => by rw [h4]; exact get_without hR.2.1 _ _, h5⟩)
theorem snapN_len {b : Int} (h0 : 0 ≤ b) (h1 : b ≤ 1099511627776) (c : UInt8) : (Np.nameL c b).length = 14 := by
 obtain ⟨n, rfl⟩ : ∃ n : Nat, b = (n : Int) := ⟨b.toNat, by omega⟩
 exact Np.name_len c (by omega)
def snapN (b : Int) : ByteArray := ⟨(Np.nameL 116 b).toArray⟩
theorem snapN_nm {b : Int} (h0 : 0 ≤ b) (h1 : b ≤ 1099511627776) : snapN b ≠ nm ∧ snapN b ≠ nn := by
 have hl : (snapN b).data.toList.length = 14 := snapN_len h0 h1 116
 exact ⟨fun e => by rw [e] at hl; exact absurd hl (by decide), fun e => by rw [e] at hl; exact absurd hl (by decide)⟩
theorem snapN_inj {a b : Int} (h0 : 0 ≤ a) (h1 : a ≤ 1099511627776) (h2 : 0 ≤ b) (h3 : b ≤ 1099511627776) (h : snapN a = snapN b) : a = b := by
 obtain ⟨n, rfl⟩ : ∃ n : Nat, a = (n : Int) := ⟨a.toNat, by omega⟩
 obtain ⟨m, rfl⟩ : ∃ m : Nat, b = (m : Int) := ⟨b.toNat, by omega⟩
 have e : Np.nameL 116 (n : Int) = Np.nameL 116 (m : Int) := congrArg (fun x : ByteArray => x.data.toList) h
 rw [Np.name_inj (.inr rfl) (by omega) (by omega) e]
theorem snapN_segN {a b : Int} (h0 : 0 ≤ a) (h1 : a ≤ 1099511627776) (h2 : 0 ≤ b) (h3 : b ≤ 1099511627776) : snapN a ≠ segN b := fun h => by
 have e : Np.nameL 116 a = Np.nameL 115 b := congrArg (fun x : ByteArray => x.data.toList) h
 unfold Np.nameL at e
 rw [if_pos ⟨h0, h1⟩, if_pos ⟨h2, h3⟩] at e
 exact absurd (List.cons.inj e).1 (by decide)
theorem named_snap {b : Int} (h0 : 0 ≤ b) (h1 : b ≤ 1099511627776) : Named (snapN b) := by
 have : (snapN b).size = 14 := snapN_len h0 h1 116
 exact ⟨by omega, by omega⟩
theorem named_seg' {b : Int} (h0 : 0 ≤ b) (h1 : b ≤ 1099511627776) : Named (segN b) := by
 have : (segN b).size = 14 := snapN_len h0 h1 115
 exact ⟨by omega, by omega⟩
theorem nmn : nm ≠ nn := by decide
theorem named_mn : Named nm ∧ Named nn := ⟨⟨by decide, by decide⟩, ⟨by decide, by decide⟩⟩
def Whole (D : Dk) (n : ByteArray) (L : List UInt8) : Prop := ∃ f, get D.f n = some f ∧ f.d.data.toList = L ∧ f.s = (f.d.size : Int)
theorem Whole.keep {D D' : Dk} {n : ByteArray} {L : List UInt8} (h : Whole D n L) (e : get D'.f n = get D.f n) : Whole D' n L := by
 obtain ⟨f, h1, h2⟩ := h
 exact ⟨f, e.trans h1, h2⟩
theorem Whole.dat {D : Dk} {n : ByteArray} {L : List UInt8} (h : Whole D n L) : dat D n = some L := by
 obtain ⟨f, h1, h2, _⟩ := h
 unfold So.dat
 rw [h1, ← h2]
 rfl
structure Gone (D : Dk) (R : Dk × Int) (ns : ByteArray → Prop) : Prop where
 e : R.2 = 10
 x : R.1.x = true
 f : ∀ n, ¬ ns n → get R.1.f n = get D.f n
theorem Dead.gone {D : Dk} {R : Dk × Int} (h : Dead D R) (ns : ByteArray → Prop) : Gone D R ns := ⟨h.e, h.x, fun n _ => by rw [h.f]⟩
theorem swapS_cases {D : Dk} (hR : Right D) (hn : D.x = false → get D.f nn = none) (s : ByteArray) :
 Gone D (swapS D s) (fun n => n = nn) ∨ (D.x = false ∧ (swapS D s).2 = 9 ∧ (swapS D s).1.x = false ∧ (∀ n, get (swapS D s).1.f n = get D.f n) ∧ 0 < D.c) ∨ Done D (swapS D s) (fun n => if n = nm then some ⟨nm, s, s.size⟩ else get D.f n) := by
 have r1 := right0 hR nn
 have r2 := right1 r1 nn s
 have r3 := right2 r2 nn
 unfold swapS
 rcases create_cases hR named_mn.2 with h1 | ⟨h1, h2, _⟩ | ⟨h1, hC⟩
 · rw [if_pos (by rw [h1.e]; decide)]
   exact .inl (h1.gone _)
 · exact absurd (hn h1) h2
 rw [if_neg (by rw [hC.e]; decide)]
 have hCf := hC.f
 have hCy := hC.y
 have hx := hC.x
 have hCc := hC.c
 clear hC
 generalize (create D nn).1 = C at *
 rcases append_cases r1 nn s with h3 | ⟨_, h4, _⟩ | ⟨h3, h4, h5⟩ | ⟨f, h4, hA⟩
 · rw [if_neg (by rw [h3.e]; decide), if_pos (by rw [h3.e]; decide)]
   exact .inl ⟨h3.e, h3.x, fun n hn => by rw [h3.f, hCf, if_neg hn]⟩
 · rw [hCf, if_pos rfl] at h4; cases h4
 · rw [h5]
   dsimp only
   rw [if_pos rfl]
   rcases delete_cases r1 nn with h6 | ⟨_, h6, _⟩ | ⟨h6, hX⟩
   · rw [if_neg (by rw [h6.e]; decide)]
     exact .inl ⟨h6.e, h6.x, fun n hn => by show get (delete C nn).1.f n = _; rw [h6.f, hCf, if_neg hn]⟩
   · rw [hCf, if_pos rfl] at h6; cases h6
   · rw [if_pos hX.e]
     refine .inr (.inl ⟨hx, rfl, hX.y, fun n => ?_, by omega⟩)
     show get (delete C nn).1.f n = _
     rw [hX.f]
     by_cases e : n = nn
     · rw [if_pos e, e, h1]
     · rw [if_neg e, hCf, if_neg e]
 · rw [hCf, if_pos rfl] at h4
   obtain rfl := Option.some.inj h4
   rw [if_neg (by rw [hA.e]; decide), if_neg (by rw [hA.e]; decide)]
   have hAf := hA.f
   have hAc := hA.c
   clear hA
   generalize (Dp.append C nn s).1 = A at *
   rcases sync_cases r2 nn with h5 | ⟨_, h5, _⟩ | ⟨f, h5, hS⟩
   · rw [if_pos (by rw [h5.e]; decide)]
     exact .inl ⟨h5.e, h5.x, fun n hn => by rw [h5.f, hAf, if_neg hn, hCf, if_neg hn]⟩
   · rw [hAf, if_pos rfl] at h5; cases h5
   rw [hAf, if_pos rfl] at h5
   obtain rfl := Option.some.inj h5
   rw [if_neg (by rw [hS.e]; decide)]
   have hSf := hS.f
   have hSc := hS.c
   clear hS
   generalize (sync A nn).1 = B at *
   rcases rename_cases r3 nn nm named_mn.1 with h6 | ⟨_, h6, _⟩ | ⟨f, h6, hN⟩
   · exact .inl ⟨h6.e, h6.x, fun n hn => by rw [h6.f, hSf, if_neg hn, hAf, if_neg hn, hCf, if_neg hn]⟩
   · rw [hSf, if_pos rfl] at h6; cases h6
   rw [hSf, if_pos rfl] at h6
   obtain rfl := Option.some.inj h6
   refine .inr (.inr ⟨hx, hN.e, hN.y, fun n => ?_, by rw [hN.c, hSc, hAc, hCc]⟩)
   rw [hN.f]
   have e0 : (⟨#[]⟩ : ByteArray) ++ s = s := by ext1; simp
   by_cases e : n = nm
   · rw [if_pos e, if_pos e, e0]
   · rw [if_neg e, if_neg e]
     by_cases e2 : n = nn
     · rw [if_pos e2, e2, h1]
     · rw [if_neg e2, hSf, if_neg e2, hAf, if_neg e2, hCf, if_neg e2]
theorem swap_dead {D : Dk} {m : Qm.Mn} (hm : Qm.Ok m) (hx : D.x = true) : swap D m = (D, 10) := by
 have hc : ∀ (l : List Fl) (own : Int), change D l own = (D, 10) := fun l own => by unfold change; rw [if_pos hx]
 have h1 : create D nn = (D, 10) := by
  unfold create
  split
  · exact hc _ _
  · split <;> exact hc _ _
 have h2 : delete D nn = (D, 10) := by unfold delete; split <;> exact hc _ _
 have h3 : ∀ s, swapS D s = (D, 10) := fun s => by unfold swapS; rw [h1, if_pos (by show (10 : Int) ≠ 0; decide)]
 unfold swap
 rw [Qm.putM_yes hm, if_neg (by show ¬ (0 : Int) ≠ 0; decide)]
 split
 · rw [h2, if_pos (by show (10 : Int) ≠ 0; decide)]
 · exact h3 _
theorem swap_cases {D : Dk} (hR : Right D) {m : Qm.Mn} (hm : Qm.Ok m) (hn : D.x = false → get D.f nn = none) :
 Gone D (swap D m) (fun n => n = nn) ∨ (D.x = false ∧ (swap D m).2 = 9 ∧ (swap D m).1.x = false ∧ (∀ n, get (swap D m).1.f n = get D.f n) ∧ 0 < D.c) ∨ Done D (swap D m) (fun n => if n = nm then some ⟨nm, ⟨(Qm.putM m).1.toArray⟩, (⟨(Qm.putM m).1.toArray⟩ : ByteArray).size⟩ else get D.f n) := by
 by_cases hx : D.x = true
 · rw [swap_dead hm hx]; exact .inl ⟨rfl, hx, fun _ _ => rfl⟩
 · have hx : D.x = false := by simpa using hx
   have e : swap D m = swapS D ⟨(Qm.putM m).1.toArray⟩ := by
    unfold swap
    rw [if_neg (by rw [Qm.putM_yes hm]; show ¬ (0 : Int) ≠ 0; decide), if_neg (by rw [hn hx]; decide)]
   rw [e]
   exact swapS_cases hR hn _
end Lg
end Go.Proofs.YtijbpdpkoamhbaaGreat
