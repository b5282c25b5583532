/-
  Disks, in plain Lean: what is sure stays, there are never too many bytes, a fuse lets so many changes.
-/
import Derived.Test.YtbkiecjbjehaoaaDiskPlain
namespace Go.Proofs.Ytbkiecjbjehaoaa.Dp

/-- The own errors of an act, and what it would make of the files: the acts 0 to 5 are changes. -/
theorem act_change {D : Dk} {a : Act} (h0 : 0 ≤ a.k) (h5 : a.k ≤ 5) : ∃ l own, act D a = change D l own ∧ (own = 0 ∨ own = 1 ∨ own = 6 ∨ own = 7 ∨ own = 8 ∨ own = 9) := by
  unfold act
  split
  · unfold create
    split
    · exact ⟨_, _, rfl, by simp⟩
    · split
      · exact ⟨_, _, rfl, by simp⟩
      · exact ⟨_, _, rfl, by simp⟩
  split
  · unfold append
    split
    · exact ⟨_, _, rfl, by simp⟩
    · split
      · exact ⟨_, _, rfl, by simp⟩
      · exact ⟨_, _, rfl, by simp⟩
  split
  · unfold sync
    split
    · exact ⟨_, _, rfl, by simp⟩
    · exact ⟨_, _, rfl, by simp⟩
  split
  · unfold cut
    split
    · exact ⟨_, _, rfl, by simp⟩
    · split
      · exact ⟨_, _, rfl, by simp⟩
      · exact ⟨_, _, rfl, by simp⟩
  split
  · unfold rename
    split
    · exact ⟨_, _, rfl, by simp⟩
    · split
      · exact ⟨_, _, rfl, by simp⟩
      · exact ⟨_, _, rfl, by simp⟩
  split
  · unfold delete
    split
    · exact ⟨_, _, rfl, by simp⟩
    · exact ⟨_, _, rfl, by simp⟩
  · omega

/-- What a fuse keeps: N changes at most, and no power only when all are done. -/
structure Fuse (N : Int) (D : Dk) (done : Int) : Prop where
  armed : D.a = true
  left : D.l = N - done
  ge : 0 ≤ D.l
  down : D.x = true → D.l = 0
theorem Fuse.start (N : Int) (h : 0 ≤ N) : Fuse N (arm empty N) 0 := ⟨decide_eq_true h, by show max N 0 = N - 0; omega, by show 0 ≤ max N 0; omega, fun h => by cases h⟩
theorem Fuse.step {N done : Int} {D : Dk} (h : Fuse N D done) {a : Act} (h0 : 0 ≤ a.k) (h5 : a.k ≤ 5) :
    ∃ e x, act D a = (x, e) ∧ ((e = 0 ∧ Fuse N x (done + 1) ∧ x.x = false) ∨ (e ≠ 0 ∧ Fuse N x done ∧ ((e = 10 ∧ x.x = true ∧ done = N) ∨ (e ≠ 10 ∧ x.x = false)))) := by
  obtain ⟨l, own, ha, ho⟩ := act_change (D := D) h0 h5
  rw [ha]
  rcases change_cases D l own with ⟨e, h1⟩ | ⟨e, h1, h2⟩ | ⟨e, h1, h2, h3, h4⟩ | ⟨e, h1, h2, h3, h4⟩ | ⟨e, h1, h2, h3⟩
  · exact ⟨10, D, e, .inr ⟨by decide, h, .inl ⟨rfl, h1, by have := h.left; have := h.down h1; omega⟩⟩⟩
  · exact ⟨own, D, e, .inr ⟨h1, h, .inr ⟨by omega, h2⟩⟩⟩
  · exact ⟨10, _, e, .inr ⟨by decide, ⟨h3, h.left, h.ge, fun _ => h4⟩, .inl ⟨rfl, rfl, by have := h.left; omega⟩⟩⟩
  · exact ⟨0, _, e, .inl ⟨rfl, ⟨h3, by have := h.left; show D.l - 1 = N - (done + 1); omega, by have := h.ge; show 0 ≤ D.l - 1; omega, fun hx => by rw [show ({ D with f := l, l := D.l - 1 } : Dk).x = D.x from rfl, h2] at hx; cases hx⟩, h2⟩⟩
  · exact absurd h3 (by rw [h.armed]; decide)

/-- How many bytes there are. -/
theorem used_append (a b : List Fl) : used (a ++ b) = used a + used b := by unfold used; simp
theorem used_cons (f : Fl) (l : List Fl) : used (f :: l) = f.d.size + used l := by unfold used; simp
theorem used_split (l : List Fl) (n : ByteArray) : used (l.filter fun g => decide (Lt g.n n)) + used (l.filter fun g => decide (Lt n g.n)) = used (without l n) := by
  induction l with
  | nil => rfl
  | cons g l ih =>
    unfold without at ih ⊢
    rcases lt_tri g.n n with h | h | h
    · rw [List.filter_cons_of_pos (by simpa using h), List.filter_cons_of_neg (by simpa using h.asymm), List.filter_cons_of_pos (by simpa using h.ne), used_cons, used_cons]
      omega
    · rw [List.filter_cons_of_neg (by rw [h]; simpa using Lt.irrefl n), List.filter_cons_of_neg (by rw [h]; simpa using Lt.irrefl n), List.filter_cons_of_neg (by simpa using h)]
      exact ih
    · rw [List.filter_cons_of_neg (by simpa using h.asymm), List.filter_cons_of_pos (by simpa using h), List.filter_cons_of_pos (by simpa using fun e : g.n = n => h.ne e.symm), used_cons, used_cons]
      omega
theorem used_withF (l : List Fl) (f : Fl) : used (withF l f) = f.d.size + used (without l f.n) := by
  unfold withF
  rw [used_append, used_append, used_cons, ← used_split l f.n]
  show used _ + (f.d.size + 0) + used _ = _
  omega
theorem used_without_le (l : List Fl) (n : ByteArray) : used (without l n) ≤ used l := by
  induction l with
  | nil => exact Nat.le_refl _
  | cons g l ih =>
    unfold without at ih ⊢
    by_cases h : g.n = n
    · rw [List.filter_cons_of_neg (by simpa using h), used_cons]; omega
    · rw [List.filter_cons_of_pos (by simpa using h), used_cons, used_cons]; omega
theorem used_without {l : List Fl} {n : ByteArray} {f : Fl} (h : get l n = some f) : f.d.size + used (without l n) ≤ used l := by
  induction l with
  | nil => cases h
  | cons g l ih =>
    unfold get at h ih
    unfold without at ih ⊢
    by_cases hg : g.n = n
    · rw [List.find?_cons_of_pos (by simpa using hg)] at h
      have e := Option.some.inj h
      subst e
      have := used_without_le l n
      unfold without at this
      rw [List.filter_cons_of_neg (by simpa using hg), used_cons]
      omega
    · rw [List.find?_cons_of_neg (by simpa using hg)] at h
      rw [List.filter_cons_of_pos (by simpa using hg), used_cons, used_cons]
      have := ih h
      omega
theorem left_size (f : Fl) (k : Int) : (left f k).d.size ≤ f.d.size := by
  show (f.d.extract 0 _).size ≤ _
  rw [ByteArray.size_extract]
  omega
theorem crashF_used : ∀ (l : List Fl) (k : List Int), used (crashF l k) ≤ used l
  | [], _ => Nat.le_refl _
  | f :: l, [] => by rw [crashF, used_cons, used_cons]; have := left_size f 0; have := crashF_used l []; omega
  | f :: l, k :: r => by rw [crashF, used_cons, used_cons]; have := left_size f k; have := crashF_used l r; omega

/-- What an act makes of a disk that has a bound: no more bytes than that, and where it is refused nothing but the power. -/
theorem change_full {D : Dk} {l : List Fl} {own : Int} (hu : (used D.f : Int) ≤ D.c) (hl : own = 0 → (used l : Int) ≤ D.c) :
    (used (change D l own).1.f : Int) ≤ D.c ∧ (change D l own).1.c = D.c ∧ ((change D l own).2 ≠ 0 → { (change D l own).1 with x := D.x } = D) := by
  rcases change_cases D l own with ⟨e, _⟩ | ⟨e, _⟩ | ⟨e, _⟩ | ⟨e, h0, _, _, h1⟩ | ⟨e, h0, _⟩
  all_goals rw [e]
  · exact ⟨hu, rfl, fun _ => rfl⟩
  · exact ⟨hu, rfl, fun _ => rfl⟩
  · exact ⟨hu, rfl, fun _ => rfl⟩
  · exact ⟨hl h0, rfl, fun h => absurd rfl h⟩
  · exact ⟨hl h0, rfl, fun h => absurd rfl h⟩
theorem act_full {D : Dk} {a : Act} (hc : 0 < D.c) (hu : (used D.f : Int) ≤ D.c) (h7 : a.k ≠ 7) :
    (used (act D a).1.f : Int) ≤ D.c ∧ (act D a).1.c = D.c ∧ ((act D a).2 ≠ 0 → { (act D a).1 with x := D.x } = D) := by
  have no : ∀ e : Int, e ≠ 0 → _ := fun e he => change_full (D := D) (l := []) (own := e) hu (fun h => absurd h he)
  unfold act
  split
  · unfold create
    split
    · exact no 1 (by decide)
    · split
      · exact no 8 (by decide)
      · refine change_full hu fun _ => ?_
        rw [used_withF]
        have := used_without_le D.f a.n
        show ((0 + used (without D.f a.n) : Nat) : Int) ≤ D.c
        omega
  split
  · unfold append
    split
    · exact no 7 (by decide)
    · rename_i f hf
      split
      · exact no 9 (by decide)
      · rename_i h9
        refine change_full hu fun _ => ?_
        rw [used_withF]
        have h1 := used_without hf
        rw [← (get_mem hf).2] at h1
        show (((f.d ++ a.t).size + used (without D.f f.n) : Nat) : Int) ≤ D.c
        rw [ByteArray.size_append]
        omega
  split
  · unfold sync
    split
    · exact no 7 (by decide)
    · rename_i f hf
      refine change_full hu fun _ => ?_
      rw [used_withF]
      have h1 := used_without hf
      rw [← (get_mem hf).2] at h1
      show ((f.d.size + used (without D.f f.n) : Nat) : Int) ≤ D.c
      omega
  split
  · unfold cut
    split
    · exact no 7 (by decide)
    · rename_i f hf
      split
      · exact no 6 (by decide)
      · refine change_full hu fun _ => ?_
        rw [used_withF]
        have h1 := used_without hf
        rw [← (get_mem hf).2] at h1
        show (((f.d.extract 0 a.i.toNat).size + used (without D.f f.n) : Nat) : Int) ≤ D.c
        rw [ByteArray.size_extract]
        omega
  split
  · unfold rename
    split
    · exact no 7 (by decide)
    · rename_i f hf
      split
      · exact no 1 (by decide)
      · refine change_full hu fun _ => ?_
        rw [used_withF]
        have h1 := used_without hf
        have h2 := used_without_le (without D.f a.n) a.t
        show ((f.d.size + used (without (without D.f a.n) a.t) : Nat) : Int) ≤ D.c
        omega
  split
  · unfold delete
    split
    · exact no 7 (by decide)
    · refine change_full hu fun _ => ?_
      have := used_without_le D.f a.n
      omega
  by_cases h6 : a.k = 6
  · rw [if_pos h6]
    exact ⟨hu, rfl, fun h => absurd rfl h⟩
  · rw [if_neg h6]
    exact ⟨by have := crashF_used D.f a.e; show (used (crashF D.f a.e) : Int) ≤ D.c; omega, rfl, fun h => absurd rfl h⟩

/-- What is sure of a file is at the beginning of another one. -/
def Keeps (f g : Fl) : Prop := g.n = f.n ∧ f.s ≤ (g.d.size : Int) ∧ g.d.data.toList.take f.s.toNat = f.d.data.toList.take f.s.toNat
theorem Keeps.refl {f : Fl} (h : FOk f) : Keeps f f := ⟨rfl, h.2.2, rfl⟩
theorem left_m {f : Fl} (h : FOk f) (k : Int) : ∃ m : Nat, (left f k) = ⟨f.n, f.d.extract 0 m, m⟩ ∧ f.s ≤ (m : Int) ∧ m ≤ f.d.size := by
  refine ⟨(f.s + max 0 (min k ((f.d.size : Int) - f.s))).toNat, ?_, ?_, ?_⟩
  · unfold left
    simp only
    congr 1
    rw [ByteArray.size_extract]
    have := h.2.1
    have := h.2.2
    omega
  · have := h.2.1
    omega
  · have := h.2.2
    omega
theorem ext_take (s : ByteArray) (m : Nat) : (s.extract 0 m).data.toList = s.data.toList.take m := by simp
theorem left_keeps {f : Fl} (h : FOk f) (k : Int) : Keeps f (left f k) := by
  obtain ⟨m, e, h1, h2⟩ := left_m h k
  rw [e]
  refine ⟨rfl, ?_, ?_⟩
  · show f.s ≤ ((f.d.extract 0 m).size : Int)
    rw [ByteArray.size_extract]
    omega
  · show (f.d.extract 0 m).data.toList.take f.s.toNat = _
    rw [ext_take, List.take_take, Nat.min_eq_left (by omega)]
theorem crashF_keeps : ∀ (l : List Fl) (k : List Int), (∀ f ∈ l, FOk f) → ∀ f ∈ l, ∃ g ∈ crashF l k, Keeps f g
  | [], _, _, f, hf => by cases hf
  | g :: l, [], h, f, hf => by
    rcases List.mem_cons.1 hf with rfl | hf
    · exact ⟨_, by rw [crashF]; exact List.mem_cons_self, left_keeps (h f (by simp)) 0⟩
    · obtain ⟨q, h1, h2⟩ := crashF_keeps l [] (fun q hq => h q (by simp [hq])) f hf
      exact ⟨q, by rw [crashF]; exact List.mem_cons_of_mem _ h1, h2⟩
  | g :: l, k :: r, h, f, hf => by
    rcases List.mem_cons.1 hf with rfl | hf
    · exact ⟨_, by rw [crashF]; exact List.mem_cons_self, left_keeps (h f (by simp)) k⟩
    · obtain ⟨q, h1, h2⟩ := crashF_keeps l r (fun q hq => h q (by simp [hq])) f hf
      exact ⟨q, by rw [crashF]; exact List.mem_cons_of_mem _ h1, h2⟩
theorem change_keeps {D : Dk} (h : Right D) {l : List Fl} {own : Int} (hl : own = 0 → ∀ f ∈ D.f, ∃ g ∈ l, Keeps f g) : ∀ f ∈ D.f, ∃ g ∈ (change D l own).1.f, Keeps f g := by
  have same : ∀ f ∈ D.f, ∃ g ∈ D.f, Keeps f g := fun f hf => ⟨f, hf, Keeps.refl (h.1 f hf)⟩
  rcases change_cases D l own with ⟨e, _⟩ | ⟨e, _⟩ | ⟨e, _⟩ | ⟨e, h0, _, _, h1⟩ | ⟨e, h0, _⟩
  all_goals rw [e]
  · exact same
  · exact same
  · exact same
  · exact hl h0
  · exact hl h0
theorem withF_keeps {D : Dk} (h : Right D) {f0 f1 : Fl} (hm : get D.f f1.n = some f0) (hk : Keeps f0 f1) : ∀ f ∈ D.f, ∃ g ∈ withF D.f f1, Keeps f g := by
  intro f hf
  by_cases he : f.n = f1.n
  · have e : f = f0 := h.2.1.one hf (get_mem hm).1 (he.trans (get_mem hm).2.symm)
    rw [e]
    exact ⟨f1, mem_withF.2 (.inr rfl), hk⟩
  · exact ⟨f, mem_withF.2 (.inl ⟨hf, he⟩), Keeps.refl (h.1 f hf)⟩
/-- What is sure stays, unless it is cut, renamed, deleted. -/
theorem act_keeps {D : Dk} (h : Right D) {a : Act} (hk : a.k < 3 ∨ 5 < a.k) : ∀ f ∈ D.f, ∃ g, get (act D a).1.f f.n = some g ∧ Keeps f g := by
  have key : ∀ f ∈ D.f, ∃ g ∈ (act D a).1.f, Keeps f g := by
    have no : ∀ e : Int, e ≠ 0 → ∀ f ∈ D.f, ∃ g ∈ (change D [] e).1.f, Keeps f g := fun e he => change_keeps h fun h0 => absurd h0 he
    unfold act
    split
    · unfold create
      split
      · exact no 1 (by decide)
      · split
        · exact no 8 (by decide)
        · rename_i hs
          refine change_keeps h fun _ f hf => ⟨f, mem_withF.2 (.inl ⟨hf, ?_⟩), Keeps.refl (h.1 f hf)⟩
          rcases hg : get D.f a.n with _ | g
          · exact get_none.1 hg f hf
          · rw [hg] at hs; simp at hs
    split
    · unfold append
      split
      · exact no 7 (by decide)
      · rename_i f0 hf0
        split
        · exact no 9 (by decide)
        · refine change_keeps h fun _ => withF_keeps (f0 := f0) h (by rw [(get_mem hf0).2]; exact hf0) ⟨rfl, ?_, ?_⟩
          · have := (h.1 f0 (get_mem hf0).1).2.2
            show f0.s ≤ ((f0.d ++ a.t).size : Int)
            rw [ByteArray.size_append]
            omega
          · have h1 := (h.1 f0 (get_mem hf0).1).2
            show (f0.d ++ a.t).data.toList.take f0.s.toNat = _
            rw [ByteArray.data_append, Array.toList_append, List.take_append_of_le_length (by show f0.s.toNat ≤ f0.d.size; omega)]
    split
    · unfold sync
      split
      · exact no 7 (by decide)
      · rename_i f0 hf0
        exact change_keeps h fun _ => withF_keeps (f0 := f0) h (by rw [(get_mem hf0).2]; exact hf0) ⟨rfl, (h.1 f0 (get_mem hf0).1).2.2, rfl⟩
    split
    · omega
    split
    · omega
    split
    · omega
    split
    · exact fun f hf => ⟨f, hf, Keeps.refl (h.1 f hf)⟩
    split
    · exact fun f hf => ⟨f, hf, Keeps.refl (h.1 f hf)⟩
    · exact crashF_keeps D.f a.e h.1
  intro f hf
  obtain ⟨g, hg, hk⟩ := key f hf
  exact ⟨g, by rw [← hk.1]; exact get_of (h.act a).2.1 hg, hk⟩

/-- A crash leaves what is sure, and of the rest the beginning; a second one leaves all. -/
theorem crashF_len : ∀ (l : List Fl) (k : List Int), (crashF l k).length = l.length
  | [], _ => rfl
  | f :: l, [] => by rw [crashF, List.length_cons, List.length_cons, crashF_len l []]
  | f :: l, k :: r => by rw [crashF, List.length_cons, List.length_cons, crashF_len l r]
theorem left_left {f : Fl} (h : FOk f) (k k' : Int) : left (left f k) k' = left f k := by
  obtain ⟨m, e, h1, h2⟩ := left_m h k
  have hok : FOk (left f k) := left_ok h k
  obtain ⟨m', e', h1', h2'⟩ := left_m hok k'
  rw [e', e]
  rw [e] at h1' h2'
  have hs : (f.d.extract 0 m).size = m := by rw [ByteArray.size_extract]; omega
  have e1 : m' = m := by
    have a1 : (m : Int) ≤ (m' : Int) := h1'
    have a2 : m' ≤ (f.d.extract 0 m).size := h2'
    omega
  subst e1
  congr 1
  exact ext_iff.2 (by rw [ext_take, ext_take, List.take_take, Nat.min_self])
theorem crashF_twice : ∀ (l : List Fl) (k k' : List Int), (∀ f ∈ l, FOk f) → crashF (crashF l k) k' = crashF l k
  | [], _, _, _ => rfl
  | f :: l, [], [], h => by rw [crashF, crashF, left_left (h f (by simp)), crashF_twice l [] [] (fun q hq => h q (by simp [hq]))]
  | f :: l, [], k' :: r', h => by rw [crashF, crashF, left_left (h f (by simp)), crashF_twice l [] r' (fun q hq => h q (by simp [hq]))]
  | f :: l, k :: r, [], h => by rw [crashF, crashF, left_left (h f (by simp)), crashF_twice l r [] (fun q hq => h q (by simp [hq]))]
  | f :: l, k :: r, k' :: r', h => by rw [crashF, crashF, left_left (h f (by simp)), crashF_twice l r r' (fun q hq => h q (by simp [hq]))]
theorem crash_twice {D : Dk} (h : Right D) (k k' : List Int) : crash (crash D k) k' = crash D k := by
  unfold crash
  simp only
  rw [crashF_twice D.f k k' h.1]

end Go.Proofs.Ytbkiecjbjehaoaa.Dp
