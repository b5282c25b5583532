/-
  A disk whose files are the call's own, held in a variable; what acts make of its bulk; what the law's awake answers.
-/
import Derived.Test.YtbkiecjbjehaoaaDiskDo
namespace Go.Proofs.Ytbkiecjbjehaoaa.Dp

/-- What an act makes of a disk's bulk. -/
theorem change_small {D : Dk} {l : List Fl} {own : Int} {a b : Nat} (hn : D.f.length ≤ a) (hu : used D.f ≤ b) (hl : own = 0 → l.length ≤ a ∧ used l ≤ b) : (change D l own).1.f.length ≤ a ∧ used (change D l own).1.f ≤ b := by
  rcases change_cases D l own with ⟨e, _⟩ | ⟨e, _⟩ | ⟨e, _⟩ | ⟨e, h0, _⟩ | ⟨e, h0, _⟩
  all_goals rw [e]
  · exact ⟨hn, hu⟩
  · exact ⟨hn, hu⟩
  · exact ⟨hn, hu⟩
  · exact hl h0
  · exact hl h0
theorem length_withF' (l : List Fl) (f : Fl) : (withF l f).length ≤ (without l f.n).length + 1 := by
  unfold withF
  rw [List.length_append, List.length_append]
  have h : (l.filter fun g => decide (Lt g.n f.n)).length + (l.filter fun g => decide (Lt f.n g.n)).length ≤ (without l f.n).length := by
    unfold without
    induction l with
    | nil => exact Nat.le_refl _
    | cons g l ih =>
      rcases lt_tri g.n f.n with h | h | h
      · rw [List.filter_cons_of_pos (by simpa using h), List.filter_cons_of_neg (by simpa using h.asymm), List.filter_cons_of_pos (by simpa using h.ne), List.length_cons, List.length_cons]; omega
      · rw [List.filter_cons_of_neg (by rw [h]; simpa using Lt.irrefl f.n), List.filter_cons_of_neg (by rw [h]; simpa using Lt.irrefl f.n), List.filter_cons_of_neg (by simpa using h)]; exact ih
      · rw [List.filter_cons_of_neg (by simpa using h.asymm), List.filter_cons_of_pos (by simpa using h), List.filter_cons_of_pos (by simpa using fun e : g.n = f.n => h.ne e.symm), List.length_cons, List.length_cons]; omega
  simp only [List.length_singleton]
  omega
theorem length_wo (l : List Fl) (n : ByteArray) : (without l n).length ≤ l.length := List.length_filter_le _ _
theorem act_small (D : Dk) (a : Act) : (act D a).1.f.length ≤ D.f.length + 1 ∧ used (act D a).1.f ≤ used D.f + a.t.size := by
  have no : ∀ e : Int, e ≠ 0 → (change D [] e).1.f.length ≤ D.f.length + 1 ∧ used (change D [] e).1.f ≤ used D.f + a.t.size := fun e he => change_small (by omega) (by omega) (fun h => absurd h he)
  unfold act
  split
  · unfold create
    split
    · exact no 1 (by decide)
    · split
      · exact no 8 (by decide)
      · refine change_small (by omega) (by omega) fun _ => ⟨?_, ?_⟩
        · have := length_withF' D.f ⟨a.n, ⟨#[]⟩, 0⟩; have := length_wo D.f a.n; dsimp only at *; omega
        · rw [used_withF]
          have := used_without_le D.f a.n
          show 0 + used (without D.f a.n) ≤ _
          omega
  split
  · unfold append
    split
    · exact no 7 (by decide)
    · rename_i f hf
      split
      · exact no 9 (by decide)
      · refine change_small (by omega) (by omega) fun _ => ⟨?_, ?_⟩
        · have := length_withF' D.f ⟨f.n, f.d ++ a.t, f.s⟩; have := length_wo D.f f.n; dsimp only at *; omega
        · rw [used_withF]
          have h1 := used_without hf
          rw [← (get_mem hf).2] at h1
          show (f.d ++ a.t).size + used (without D.f f.n) ≤ _
          rw [ByteArray.size_append]
          omega
  split
  · unfold sync
    split
    · exact no 7 (by decide)
    · rename_i f hf
      refine change_small (by omega) (by omega) fun _ => ⟨?_, ?_⟩
      · have := length_withF' D.f ⟨f.n, f.d, f.d.size⟩; have := length_wo D.f f.n; dsimp only at *; omega
      · rw [used_withF]
        have h1 := used_without hf
        rw [← (get_mem hf).2] at h1
        show f.d.size + used (without D.f f.n) ≤ _
        omega
  split
  · unfold cut
    split
    · exact no 7 (by decide)
    · rename_i f hf
      split
      · exact no 6 (by decide)
      · refine change_small (by omega) (by omega) fun _ => ⟨?_, ?_⟩
        · have := length_withF' D.f ⟨f.n, f.d.extract 0 a.i.toNat, min f.s a.i⟩; have := length_wo D.f f.n; dsimp only at *; omega
        · rw [used_withF]
          have h1 := used_without hf
          rw [← (get_mem hf).2] at h1
          show (f.d.extract 0 a.i.toNat).size + used (without D.f f.n) ≤ _
          rw [ByteArray.size_extract]
          omega
  split
  · unfold rename
    split
    · exact no 7 (by decide)
    · rename_i f hf
      split
      · exact no 1 (by decide)
      · refine change_small (by omega) (by omega) fun _ => ⟨?_, ?_⟩
        · have := length_withF' (without D.f a.n) ⟨a.t, f.d, f.s⟩; have := length_wo (without D.f a.n) a.t; have := length_wo D.f a.n; dsimp only at *; omega
        · rw [used_withF]
          have h1 := used_without hf
          have h2 := used_without_le (without D.f a.n) a.t
          show f.d.size + used (without (without D.f a.n) a.t) ≤ _
          omega
  split
  · unfold delete
    split
    · exact no 7 (by decide)
    · refine change_small (by omega) (by omega) fun _ => ⟨?_, ?_⟩
      · have := length_wo D.f a.n; omega
      · have := used_without_le D.f a.n; omega
  split
  · exact ⟨Nat.le_succ _, Nat.le_add_right _ _⟩
  split
  · exact ⟨Nat.le_succ _, Nat.le_add_right _ _⟩
  · exact ⟨by show (crashF D.f a.e).length ≤ _; rw [crashF_len]; omega, by have := crashF_used D.f a.e; show used (crashF D.f a.e) ≤ _; omega⟩

end Go.Proofs.Ytbkiecjbjehaoaa.Dp
namespace Go.Proofs.Ytbkiecjbjehaoaa.Dsk
open Go.RowKit Go.Proofs.Ytbkiecjbjehaoaa.Dp

theorem change_dkb {D : Dk} {l : List Fl} {own : Int} (h : DkB D) (h0 : 0 ≤ D.l) : DkB (change D l own).1 := by
  obtain ⟨⟨h1, h2⟩, h3, h4⟩ := h
  rcases change_cases D l own with ⟨e, _⟩ | ⟨e, _⟩ | ⟨e, _⟩ | ⟨e, _, _, _, hd⟩ | ⟨e, _⟩
  all_goals rw [e]
  · exact ⟨⟨h1, h2⟩, h3, h4⟩
  · exact ⟨⟨h1, h2⟩, h3, h4⟩
  · exact ⟨⟨h1, h2⟩, h3, h4⟩
  · exact ⟨⟨h1, h2⟩, by show _ ≤ D.l - 1; omega, by show D.l - 1 ≤ _; omega⟩
  · exact ⟨⟨h1, h2⟩, h3, h4⟩
theorem act_dkb {D : Dk} {a : Dp.Act} (h : DkB D) (h0 : 0 ≤ D.l) (hi : a.i ≤ 9223372036854775807) : DkB (act D a).1 := by
  unfold act
  split
  · unfold create
    split
    · exact change_dkb h h0
    · split <;> exact change_dkb h h0
  split
  · unfold append
    split
    · exact change_dkb h h0
    · split <;> exact change_dkb h h0
  split
  · unfold sync
    split <;> exact change_dkb h h0
  split
  · unfold cut
    split
    · exact change_dkb h h0
    · split <;> exact change_dkb h h0
  split
  · unfold rename
    split
    · exact change_dkb h h0
    · split <;> exact change_dkb h h0
  split
  · unfold delete
    split <;> exact change_dkb h h0
  obtain ⟨⟨h1, h2⟩, h3, h4⟩ := h
  split
  · exact ⟨⟨h1, h2⟩, by show _ ≤ max a.i 0; omega, by show max a.i 0 ≤ _; omega⟩
  split
  · exact ⟨⟨by show _ ≤ max a.i 0; omega, by show max a.i 0 ≤ _; omega⟩, h3, h4⟩
  · exact ⟨⟨h1, h2⟩, by show (-9223372036854775808 : Int) ≤ 0; omega, by show (0 : Int) ≤ _; omega⟩
theorem Bd.empty : Bd empty 0 := ⟨⟨⟨by decide, by decide⟩, by decide, by decide⟩, Right.empty, Nat.le_refl _, Nat.le_refl _⟩
theorem Bd.step {D : Dk} {k : Nat} (h : Bd D k) {a : Dp.Act} (hi : a.i ≤ 9223372036854775807) (ht : a.t.size ≤ 100) : Bd (act D a).1 (k + 1) := by
  obtain ⟨h1, h2⟩ := act_small D a
  exact ⟨act_dkb h.b h.r.2.2.2 hi, h.r.act a, by have := h.n; omega, by have := h.u; omega⟩

/-- Files of the call's own, but in another block than that one. -/
def Held (W : World) (base b : Nat) (v : Value) (l : List Fl) : Prop := OwnL FL W base v l ∧ v.ownBlock ≠ some b
theorem Held.nil (W : World) (base b : Nat) : Held W base b (.slice none 0 0) [] := ⟨OwnL.nil _ _, fun h => by cases h⟩
theorem Held.is {W : World} {base b : Nat} {v : Value} {D : Dk} (h : Held W base b v D.f) (hS : Sm D) : IsL FL W v D.f := h.1.is (by have := hS.n; unfold maxLen; omega) hS.flb
theorem Held.keep {W W' : World} {base b : Nat} {v : Value} {l : List Fl} (h : Held W base b v l) (hb : Below W.heap.size W W') : Held W' base b v l := ⟨h.1.keep hb, h.2⟩
theorem Held.alloc {W : World} {base b : Nat} {v : Value} {l : List Fl} (h : Held W base b v l) (o : Obj) : Held (W.alloc o) base b v l := ⟨h.1.alloc o, h.2⟩
theorem own_other {α : Type} {Y : Lay α} {W : World} {base : Nat} {v : Value} {l : List α} (h : OwnL Y W base v l) {k o : Nat} (hk : v.ownBlock ≠ some k) (x : Value) : OwnL Y (W.setCell ⟨k, o, none⟩ x) base v l := by
  refine ⟨h.1, ?_⟩
  rcases h.2 with h0 | ⟨g, cap, cur, rfl, hb, hg, h2⟩
  · exact .inl h0
  · exact .inr ⟨g, cap, cur, rfl, hb, by rw [heap_setCell_other _ _ _ _ (by show g ≠ k; exact fun e => hk (by rw [e]; rfl))]; exact hg, h2⟩
theorem Held.set5 {W : World} {base b : Nat} {v : Value} {l : List Fl} (h : Held W base b v l) (x y z u t : Value) : Held (set5 W b x y z u t) base b v l :=
  ⟨own_other (own_other (own_other (own_other (own_other h.1 h.2 _) h.2 _) h.2 _) h.2 _) h.2 _, h.2⟩
theorem Held.step {W W' : World} {base b : Nat} {v v' : Value} {l l' : List Fl} (h : Held W base b v l) (hb : b < W.heap.size) (hB : base ≤ W.heap.size) (hk : KeptOr W' W.heap.size v l v' l') (bel : Below W.heap.size W W') : Held W' base b v' l' := by
  rcases hk with ⟨rfl, rfl⟩ | k
  · exact h.keep bel
  · exact ⟨own_base k hB, fun e => by have := (k.lt _ e).1; omega⟩

end Go.Proofs.Ytbkiecjbjehaoaa.Dsk
