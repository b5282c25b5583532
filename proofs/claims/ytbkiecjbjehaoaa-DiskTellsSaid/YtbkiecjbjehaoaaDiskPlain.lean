/-
  Disks, in plain Lean: files by rising names, changes, the fuse, a crash. No program is imported.
-/
namespace Go.Proofs.Ytbkiecjbjehaoaa.Dp

/-- A file: its name, its bytes, how many of them are sure. -/
structure Fl where
  n : ByteArray
  d : ByteArray
  s : Int

/-- A disk: files, how many bytes there may be, whether a fuse is armed, how many changes it lets, whether the power is gone. -/
structure Dk where
  f : List Fl
  c : Int
  a : Bool
  l : Int
  x : Bool

/-- Texts by their bytes. -/
def Lt (a b : ByteArray) : Prop := a.data.toList < b.data.toList
instance (a b : ByteArray) : Decidable (Lt a b) := inferInstanceAs (Decidable (a.data.toList < b.data.toList))
theorem ext_iff {a b : ByteArray} : a = b ↔ a.data.toList = b.data.toList :=
  ⟨fun h => by rw [h], fun h => ByteArray.ext (Array.ext' h)⟩
instance (a b : ByteArray) : Decidable (a = b) := decidable_of_iff _ ext_iff.symm
theorem Lt.irrefl (a : ByteArray) : ¬ Lt a a := List.lt_irrefl _
theorem Lt.trans {a b c : ByteArray} (h : Lt a b) (k : Lt b c) : Lt a c := List.lt_trans h k
theorem Lt.asymm {a b : ByteArray} (h : Lt a b) : ¬ Lt b a := fun k => Lt.irrefl a (h.trans k)
theorem Lt.ne {a b : ByteArray} (h : Lt a b) : a ≠ b := fun e => Lt.irrefl b (e ▸ h)
theorem lt_tri (a b : ByteArray) : Lt a b ∨ a = b ∨ Lt b a := by
  by_cases h : Lt a b
  · exact .inl h
  · by_cases k : Lt b a
    · exact .inr (.inr k)
    · exact .inr (.inl (ext_iff.2 (List.le_antisymm (List.not_lt.1 k) (List.not_lt.1 h))))

/-- May a file have a name? -/
def Named (n : ByteArray) : Prop := 1 ≤ n.size ∧ n.size ≤ 32
instance (n : ByteArray) : Decidable (Named n) := inferInstanceAs (Decidable (_ ∧ _))
/-- Names rise. -/
def Up (l : List Fl) : Prop := l.Pairwise fun a b => Lt a.n b.n
/-- May a file be? -/
def FOk (f : Fl) : Prop := Named f.n ∧ 0 ≤ f.s ∧ f.s ≤ (f.d.size : Int)
/-- May a disk be? -/
def Right (D : Dk) : Prop := (∀ f ∈ D.f, FOk f) ∧ Up D.f ∧ 0 ≤ D.c ∧ 0 ≤ D.l

/-- The file of a name, the files but one, and the files with one in its place. -/
def get (l : List Fl) (n : ByteArray) : Option Fl := l.find? fun f => decide (f.n = n)
def without (l : List Fl) (n : ByteArray) : List Fl := l.filter fun f => decide (f.n ≠ n)
def withF (l : List Fl) (f : Fl) : List Fl := (l.filter fun g => decide (Lt g.n f.n)) ++ [f] ++ (l.filter fun g => decide (Lt f.n g.n))
def used (l : List Fl) : Nat := (l.map fun f => f.d.size).sum

/-- Files that are others now, or why they aren't. -/
def change (D : Dk) (l : List Fl) (own : Int) : Dk × Int :=
  if D.x = true then (D, 10) else if own ≠ 0 then (D, own) else if D.a = true ∧ D.l = 0 then ({ D with x := true }, 10)
  else if D.a = true then ({ D with f := l, l := D.l - 1 }, 0) else ({ D with f := l }, 0)
def create (D : Dk) (n : ByteArray) : Dk × Int :=
  if ¬ Named n then change D [] 1 else if (get D.f n).isSome then change D [] 8 else change D (withF D.f ⟨n, ⟨#[]⟩, 0⟩) 0
def append (D : Dk) (n s : ByteArray) : Dk × Int :=
  match get D.f n with
  | none => change D [] 7
  | some f => if 0 < D.c ∧ D.c < (used D.f : Int) + (s.size : Int) then change D [] 9 else change D (withF D.f ⟨f.n, f.d ++ s, f.s⟩) 0
def sync (D : Dk) (n : ByteArray) : Dk × Int :=
  match get D.f n with
  | none => change D [] 7
  | some f => change D (withF D.f ⟨f.n, f.d, f.d.size⟩) 0
def cut (D : Dk) (n : ByteArray) (k : Int) : Dk × Int :=
  match get D.f n with
  | none => change D [] 7
  | some f => if k < 0 ∨ (f.d.size : Int) < k then change D [] 6 else change D (withF D.f ⟨f.n, f.d.extract 0 k.toNat, min f.s k⟩) 0
def rename (D : Dk) (n m : ByteArray) : Dk × Int :=
  match get D.f n with
  | none => change D [] 7
  | some f => if ¬ Named m then change D [] 1 else change D (withF (without D.f n) ⟨m, f.d, f.s⟩) 0
def delete (D : Dk) (n : ByteArray) : Dk × Int :=
  match get D.f n with
  | none => change D [] 7
  | some _ => change D (without D.f n) 0
def arm (D : Dk) (k : Int) : Dk := { D with a := decide (0 ≤ k), l := max k 0 }
def limit (D : Dk) (k : Int) : Dk := { D with c := max k 0 }
/-- What is left of the i-th file. -/
def left (f : Fl) (k : Int) : Fl := let m := f.s + max 0 (min k ((f.d.size : Int) - f.s)); ⟨f.n, f.d.extract 0 m.toNat, (f.d.extract 0 m.toNat).size⟩
def crashF : List Fl → List Int → List Fl
  | [], _ => []
  | f :: l, [] => left f 0 :: crashF l []
  | f :: l, k :: r => left f k :: crashF l r
def crash (D : Dk) (keep : List Int) : Dk := ⟨crashF D.f keep, D.c, false, 0, false⟩

/-- An act: its kind, a number, a name, another one or bytes, and how much a crash keeps. -/
structure Act where
  k : Int
  i : Int
  n : ByteArray
  t : ByteArray
  e : List Int
def act (D : Dk) (a : Act) : Dk × Int :=
  if a.k = 0 then create D a.n else if a.k = 1 then append D a.n a.t else if a.k = 2 then sync D a.n else if a.k = 3 then cut D a.n a.i
  else if a.k = 4 then rename D a.n a.t else if a.k = 5 then delete D a.n else if a.k = 6 then (arm D a.i, 0) else if a.k = 7 then (limit D a.i, 0) else (crash D a.e, 0)
def empty : Dk := ⟨[], 0, false, 0, false⟩

theorem Right.empty : Right empty := ⟨by simp [Dp.empty], List.Pairwise.nil, by simp [Dp.empty], by simp [Dp.empty]⟩
theorem Up.filter {l : List Fl} (h : Up l) (p : Fl → Bool) : Up (l.filter p) := List.Pairwise.filter _ h
theorem mem_withF {l : List Fl} {f g : Fl} : g ∈ withF l f ↔ (g ∈ l ∧ g.n ≠ f.n) ∨ g = f := by
  unfold withF
  rw [List.mem_append, List.mem_append, List.mem_filter, List.mem_filter, List.mem_singleton, decide_eq_true_iff, decide_eq_true_iff]
  constructor
  · rintro ((⟨h1, h2⟩ | h) | ⟨h1, h2⟩)
    · exact .inl ⟨h1, h2.ne⟩
    · exact .inr h
    · exact .inl ⟨h1, fun e => h2.ne e.symm⟩
  · rintro (⟨h1, h2⟩ | h)
    · rcases lt_tri g.n f.n with h3 | h3 | h3
      · exact .inl (.inl ⟨h1, h3⟩)
      · exact absurd h3 h2
      · exact .inr ⟨h1, h3⟩
    · exact .inl (.inr h)
theorem Up.withF {l : List Fl} (h : Up l) (f : Fl) : Up (withF l f) := by
  unfold Up Dp.withF
  rw [List.pairwise_append, List.pairwise_append]
  refine ⟨⟨h.filter _, by simp, ?_⟩, h.filter _, ?_⟩
  · intro a ha b hb
    rw [List.mem_singleton] at hb
    rw [hb]
    exact of_decide_eq_true (List.mem_filter.1 ha).2
  · intro a ha b hb
    have h2 : Lt f.n b.n := of_decide_eq_true (List.mem_filter.1 hb).2
    rcases List.mem_append.1 ha with h1 | h1
    · exact Lt.trans (of_decide_eq_true (List.mem_filter.1 h1).2) h2
    · rw [List.mem_singleton] at h1
      rw [h1]; exact h2
theorem mem_without {l : List Fl} {n : ByteArray} {g : Fl} : g ∈ without l n ↔ g ∈ l ∧ g.n ≠ n := by unfold without; simp
theorem Up.without {l : List Fl} (h : Up l) (n : ByteArray) : Up (without l n) := h.filter _
theorem get_mem {l : List Fl} {n : ByteArray} {f : Fl} (h : get l n = some f) : f ∈ l ∧ f.n = n := by
  unfold get at h
  have h2 := List.find?_some h
  exact ⟨List.mem_of_find?_eq_some h, by simpa using h2⟩
theorem get_none {l : List Fl} {n : ByteArray} : get l n = none ↔ ∀ f ∈ l, f.n ≠ n := by
  unfold get
  simp
/-- Of rising names each is one file's. -/
theorem Up.one {l : List Fl} (h : Up l) {f g : Fl} (hf : f ∈ l) (hg : g ∈ l) (he : f.n = g.n) : f = g := by
  induction l with
  | nil => cases hf
  | cons a l ih =>
    have hp := List.pairwise_cons.1 h
    rcases List.mem_cons.1 hf with e1 | hf2
    · rcases List.mem_cons.1 hg with e2 | hg2
      · rw [e1, e2]
      · exact absurd (e1 ▸ he) (hp.1 g hg2).ne
    · rcases List.mem_cons.1 hg with e2 | hg2
      · exact absurd (e2 ▸ he.symm) (hp.1 f hf2).ne
      · exact ih hp.2 hf2 hg2
theorem get_of {l : List Fl} (h : Up l) {f : Fl} (hf : f ∈ l) : get l f.n = some f := by
  rcases hg : get l f.n with _ | g
  · exact absurd rfl (get_none.1 hg f hf)
  · obtain ⟨h1, h2⟩ := get_mem hg
    rw [h.one h1 hf h2]

/-- What a change makes: nothing but its own, the fuse, the power. -/
theorem change_cases (D : Dk) (l : List Fl) (own : Int) : (change D l own = (D, 10) ∧ D.x = true) ∨ (change D l own = (D, own) ∧ own ≠ 0 ∧ D.x = false) ∨ (change D l own = ({ D with x := true }, 10) ∧ own = 0 ∧ D.x = false ∧ D.a = true ∧ D.l = 0) ∨
    (change D l own = ({ D with f := l, l := D.l - 1 }, 0) ∧ own = 0 ∧ D.x = false ∧ D.a = true ∧ D.l ≠ 0) ∨ (change D l own = ({ D with f := l }, 0) ∧ own = 0 ∧ D.x = false ∧ D.a = false) := by
  unfold change
  by_cases h1 : D.x = true
  · exact .inl ⟨by rw [if_pos h1], h1⟩
  · have h1' : D.x = false := by simpa using h1
    rw [if_neg h1]
    by_cases h2 : own ≠ 0
    · exact .inr (.inl ⟨by rw [if_pos h2], h2, h1'⟩)
    · have h2' : own = 0 := by simpa using h2
      rw [if_neg h2]
      by_cases h3 : D.a = true
      · by_cases h4 : D.l = 0
        · exact .inr (.inr (.inl ⟨by rw [if_pos ⟨h3, h4⟩], h2', h1', h3, h4⟩))
        · exact .inr (.inr (.inr (.inl ⟨by rw [if_neg (fun h => h4 h.2), if_pos h3], h2', h1', h3, h4⟩)))
      · exact .inr (.inr (.inr (.inr ⟨by rw [if_neg (fun h => h3 h.1), if_neg h3], h2', h1', by simpa using h3⟩)))
theorem Right.change {D : Dk} (h : Right D) {l : List Fl} {own : Int} (hl : own = 0 → (∀ f ∈ l, FOk f) ∧ Up l) : Right (change D l own).1 := by
  rcases change_cases D l own with ⟨e, _⟩ | ⟨e, _⟩ | ⟨e, _⟩ | ⟨e, h0, _, _, h1⟩ | ⟨e, h0, _⟩
  all_goals rw [e]
  · exact h
  · exact h
  · exact h
  · exact ⟨(hl h0).1, (hl h0).2, h.2.2.1, by have := h.2.2.2; show 0 ≤ D.l - 1; omega⟩
  · exact ⟨(hl h0).1, (hl h0).2, h.2.2.1, h.2.2.2⟩
theorem withF_ok {D : Dk} (h : Right D) {f : Fl} (hf : FOk f) : (∀ g ∈ withF D.f f, FOk g) ∧ Up (withF D.f f) := by
  refine ⟨fun g hg => ?_, h.2.1.withF f⟩
  rcases mem_withF.1 hg with h1 | rfl
  · exact h.1 g h1.1
  · exact hf
theorem left_ok {f : Fl} (h : FOk f) (k : Int) : FOk (left f k) := ⟨h.1, by unfold left; exact Int.natCast_nonneg _, Int.le_refl _⟩
theorem crashF_names : ∀ (l : List Fl) (k : List Int), (crashF l k).map (·.n) = l.map (·.n)
  | [], _ => rfl
  | f :: l, [] => by rw [crashF, List.map_cons, List.map_cons, crashF_names l []]; rfl
  | f :: l, k :: r => by rw [crashF, List.map_cons, List.map_cons, crashF_names l r]; rfl
theorem crashF_ok : ∀ (l : List Fl) (k : List Int), (∀ f ∈ l, FOk f) → ∀ f ∈ crashF l k, FOk f
  | [], _, _, f, hf => by cases hf
  | g :: l, [], h, f, hf => by
    rcases List.mem_cons.1 hf with rfl | hf
    · exact left_ok (h g (by simp)) 0
    · exact crashF_ok l [] (fun q hq => h q (by simp [hq])) f hf
  | g :: l, k :: r, h, f, hf => by
    rcases List.mem_cons.1 hf with rfl | hf
    · exact left_ok (h g (by simp)) k
    · exact crashF_ok l r (fun q hq => h q (by simp [hq])) f hf
theorem up_names {l : List Fl} : Up l ↔ (l.map (·.n)).Pairwise Lt := by unfold Up; rw [List.pairwise_map]
theorem Right.crash {D : Dk} (h : Right D) (k : List Int) : Right (crash D k) :=
  ⟨crashF_ok D.f k h.1, up_names.2 (by show ((crashF D.f k).map _).Pairwise _; rw [crashF_names]; exact up_names.1 h.2.1), h.2.2.1, Int.le_refl _⟩
theorem Right.act {D : Dk} (h : Right D) (a : Act) : Right (act D a).1 := by
  unfold Dp.act
  have none : ∀ e : Int, e ≠ 0 → Right (Dp.change D [] e).1 := fun e he => h.change fun h0 => absurd h0 he
  split
  · unfold create
    split
    · exact none 1 (by decide)
    · rename_i hn
      split
      · exact none 8 (by decide)
      · exact h.change fun _ => withF_ok h ⟨by simpa using hn, Int.le_refl _, Int.natCast_nonneg _⟩
  split
  · unfold append
    split
    · exact none 7 (by decide)
    · rename_i f hf
      have hf' := h.1 f (get_mem hf).1
      split
      · exact none 9 (by decide)
      · exact h.change fun _ => withF_ok h ⟨hf'.1, hf'.2.1, by have h3 := hf'.2.2; show f.s ≤ ((f.d ++ a.t).size : Int); rw [ByteArray.size_append]; omega⟩
  split
  · unfold sync
    split
    · exact none 7 (by decide)
    · rename_i f hf
      have hf' := h.1 f (get_mem hf).1
      exact h.change fun _ => withF_ok h ⟨hf'.1, Int.natCast_nonneg _, Int.le_refl _⟩
  split
  · unfold cut
    split
    · exact none 7 (by decide)
    · rename_i f hf
      have hf' := h.1 f (get_mem hf).1
      split
      · exact none 6 (by decide)
      · refine h.change fun _ => withF_ok h ⟨hf'.1, by have := hf'.2.1; show 0 ≤ min f.s a.i; omega, ?_⟩
        show min f.s a.i ≤ ((f.d.extract 0 a.i.toNat).size : Int)
        rw [ByteArray.size_extract]
        omega
  split
  · unfold rename
    split
    · exact none 7 (by decide)
    · rename_i f hf
      have hf' := h.1 f (get_mem hf).1
      split
      · exact none 1 (by decide)
      · rename_i hn
        refine h.change fun _ => ⟨fun g hg => ?_, (h.2.1.without a.n).withF _⟩
        rcases mem_withF.1 hg with h1 | rfl
        · exact h.1 g (mem_without.1 h1.1).1
        · exact ⟨by simpa using hn, hf'.2.1, hf'.2.2⟩
  split
  · unfold delete
    split
    · exact none 7 (by decide)
    · exact h.change fun _ => ⟨fun g hg => h.1 g (mem_without.1 hg).1, h.2.1.without a.n⟩
  split
  · exact ⟨h.1, h.2.1, h.2.2.1, by show 0 ≤ max a.i 0; omega⟩
  split
  · exact ⟨h.1, h.2.1, by show 0 ≤ max a.i 0; omega, h.2.2.2⟩
  · exact h.crash a.e

end Go.Proofs.Ytbkiecjbjehaoaa.Dp
