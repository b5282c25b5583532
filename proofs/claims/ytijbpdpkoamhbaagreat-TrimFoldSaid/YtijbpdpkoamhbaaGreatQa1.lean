/-
  Parts of what the laws of this seat stand on: DiskPlain, Base, List, Row.
-/
import Derived.Below
import Derived.Deep.QuietTactic
import Derived.Deep.RegionLaw
import Derived.Laws.CopyRow
import Derived.Laws.IdiomCopy
import Derived.Laws.NewBlocks
import Derived.Laws.Rows
import Derived.Lib.Hide
import Derived.Test.YtijbpdpkoamhbaaGreatProg
import Derived.WalkKit
import Derived.WalkSpells
set_option maxRecDepth 100000
set_option maxHeartbeats 6400000
namespace Go.Proofs.YtijbpdpkoamhbaaGreat
section
theorem mcs {α : Type} {a : α} {l : List α} : a ∈ a :: l := List.mem_cons_self
theorem mcm {α : Type} {a b : α} {l : List α} (h : a ∈ l) : a ∈ b :: l := List.mem_cons_of_mem b h
theorem zid {p : Prop} (h : p) : Go.RowKit.Hid p := Lib.hid h
end
namespace Dp
structure Fl where
 n : ByteArray
 d : ByteArray
 s : Int
structure Dk where
 f : List Fl
 c : Int
 a : Bool
 l : Int
 x : Bool
def Lt (a b : ByteArray) : Prop := a.data.toList < b.data.toList
instance (a b : ByteArray) : Decidable (Lt a b) := inferInstanceAs (Decidable (a.data.toList < b.data.toList))
theorem ext_iff {a b : ByteArray} : a = b ↔ a.data.toList = b.data.toList :=
 ⟨fun h => by rw [h], fun h => ByteArray.ext (Array.ext' h)⟩
instance (a b : ByteArray) : Decidable (a = b) := decidable_of_iff _ ext_iff.symm
theorem Lt.irrefl (a : ByteArray) : ¬ Lt a a := List.lt_irrefl _
theorem Lt.trans {a b c : ByteArray} (h : Lt a b) (k : Lt b c) : Lt a c := List.lt_trans h k
theorem Lt.asymm {a b : ByteArray} (h : Lt a b) : ¬ Lt b a := fun k => Lt.irrefl a (h.trans k)
theorem Lt.ne {a b : ByteArray} (h : Lt a b) : a ≠ b := fun e => Lt.irrefl b (e ▸ h)
theorem lt_tri (a b : ByteArray) : Lt a b ∨ a = b ∨ Lt b a := by
 by_cases h : Lt a b
 · exact .inl h
 · by_cases k : Lt b a
   · exact .inr (.inr k)
   · exact .inr (.inl (ext_iff.2 (List.le_antisymm (List.not_lt.1 k) (List.not_lt.1 h))))
def Named (n : ByteArray) : Prop := 1 ≤ n.size ∧ n.size ≤ 32
instance (n : ByteArray) : Decidable (Named n) := inferInstanceAs (Decidable (_ ∧ _))
def Up (l : List Fl) : Prop := l.Pairwise fun a b => Lt a.n b.n
def FOk (f : Fl) : Prop := Named f.n ∧ 0 ≤ f.s ∧ f.s ≤ (f.d.size : Int)
def Right (D : Dk) : Prop := (∀ f ∈ D.f, FOk f) ∧ Up D.f ∧ 0 ≤ D.c ∧ 0 ≤ D.l
def get (l : List Fl) (n : ByteArray) : Option Fl := l.find? fun f => decide (f.n = n)
def without (l : List Fl) (n : ByteArray) : List Fl := l.filter fun f => decide (f.n ≠ n)
def withF (l : List Fl) (f : Fl) : List Fl := (l.filter fun g => decide (Lt g.n f.n)) ++ [f] ++ (l.filter fun g => decide (Lt f.n g.n))
def used (l : List Fl) : Nat := (l.map fun f => f.d.size).sum
def change (D : Dk) (l : List Fl) (own : Int) : Dk × Int :=
 if D.x = true then (D, 10) else if own ≠ 0 then (D, own) else if D.a = true ∧ D.l = 0 then ({ D with x := true }, 10)
 else if D.a = true then ({ D with f := l, l := D.l - 1 }, 0) else ({ D with f := l }, 0)
def create (D : Dk) (n : ByteArray) : Dk × Int :=
 if ¬ Named n then change D [] 1 else if (get D.f n).isSome then change D [] 8 else change D (withF D.f ⟨n, ⟨#[]⟩, 0⟩) 0
def append (D : Dk) (n s : ByteArray) : Dk × Int :=
 match get D.f n with
 | none => change D [] 7
 | some f => if 0 < D.c ∧ D.c < (used D.f : Int) + (s.size : Int) then change D [] 9 else change D (withF D.f ⟨f.n, f.d ++ s, f.s⟩) 0
def sync (D : Dk) (n : ByteArray) : Dk × Int :=
 match get D.f n with
 | none => change D [] 7
 | some f => change D (withF D.f ⟨f.n, f.d, f.d.size⟩) 0
def cut (D : Dk) (n : ByteArray) (k : Int) : Dk × Int :=
 match get D.f n with
 | none => change D [] 7
 | some f => if k < 0 ∨ (f.d.size : Int) < k then change D [] 6 else change D (withF D.f ⟨f.n, f.d.extract 0 k.toNat, min f.s k⟩) 0
def rename (D : Dk) (n m : ByteArray) : Dk × Int :=
 match get D.f n with
 | none => change D [] 7
 | some f => if ¬ Named m then change D [] 1 else change D (withF (without D.f n) ⟨m, f.d, f.s⟩) 0
def delete (D : Dk) (n : ByteArray) : Dk × Int :=
 match get D.f n with
 | none => change D [] 7
 | some _ => change D (without D.f n) 0
def arm (D : Dk) (k : Int) : Dk := { D with a := decide (0 ≤ k), l := max k 0 }
def limit (D : Dk) (k : Int) : Dk := { D with c := max k 0 }
def left (f : Fl) (k : Int) : Fl := let m := f.s + max 0 (min k ((f.d.size : Int) - f.s)); ⟨f.n, f.d.extract 0 m.toNat, (f.d.extract 0 m.toNat).size⟩
def crashF : List Fl → List Int → List Fl
 | [], _ => []
 | f :: l, [] => left f 0 :: crashF l []
 | f :: l, k :: r => left f k :: crashF l r
def crash (D : Dk) (keep : List Int) : Dk := ⟨crashF D.f keep, D.c, false, 0, false⟩
structure Act where
 k : Int
 i : Int
 n : ByteArray
 t : ByteArray
 e : List Int
def act (D : Dk) (a : Act) : Dk × Int :=
 if a.k = 0 then create D a.n else if a.k = 1 then append D a.n a.t else if a.k = 2 then sync D a.n else if a.k = 3 then cut D a.n a.i
 else if a.k = 4 then rename D a.n a.t else if a.k = 5 then delete D a.n else if a.k = 6 then (arm D a.i, 0) else if a.k = 7 then (limit D a.i, 0) else (crash D a.e, 0)
def empty : Dk := ⟨[], 0, false, 0, false⟩
theorem Right.empty : Right empty := ⟨by simp [Dp.empty], List.Pairwise.nil, by simp [Dp.empty], by simp [Dp.empty]⟩
theorem Up.filter {l : List Fl} (h : Up l) (p : Fl → Bool) : Up (l.filter p) := List.Pairwise.filter _ h
theorem mem_withF {l : List Fl} {f g : Fl} : g ∈ withF l f ↔ (g ∈ l ∧ g.n ≠ f.n) ∨ g = f := by
 unfold withF
 rw [List.mem_append, List.mem_append, List.mem_filter, List.mem_filter, List.mem_singleton, decide_eq_true_iff, decide_eq_true_iff]
 constructor
 · rintro ((⟨h1, h2⟩ | h) | ⟨h1, h2⟩)
   · exact .inl ⟨h1, h2.ne⟩
   · exact .inr h
   · exact .inl ⟨h1, fun e => h2.ne e.symm⟩
 · rintro (⟨h1, h2⟩ | h)
   · rcases lt_tri g.n f.n with h3 | h3 | h3
     · exact .inl (.inl ⟨h1, h3⟩)
     · exact absurd h3 h2
     · exact .inr ⟨h1, h3⟩
   · exact .inl (.inr h)
theorem Up.withF {l : List Fl} (h : Up l) (f : Fl) : Up (withF l f) := by
 unfold Up Dp.withF
 rw [List.pairwise_append, List.pairwise_append]
 refine ⟨⟨h.filter _, by simp, ?_⟩, h.filter _, ?_⟩
 · intro a ha b hb
   rw [List.mem_singleton] at hb
   rw [hb]
   exact of_decide_eq_true (List.mem_filter.1 ha).2
 · intro a ha b hb
   have h2 : Lt f.n b.n := of_decide_eq_true (List.mem_filter.1 hb).2
   rcases List.mem_append.1 ha with h1 | h1
   · exact Lt.trans (of_decide_eq_true (List.mem_filter.1 h1).2) h2
   · rw [List.mem_singleton] at h1
     rw [h1]; exact h2
theorem mem_without {l : List Fl} {n : ByteArray} {g : Fl} : g ∈ without l n ↔ g ∈ l ∧ g.n ≠ n := by unfold without; simp
theorem Up.without {l : List Fl} (h : Up l) (n : ByteArray) : Up (without l n) := h.filter _
theorem get_mem {l : List Fl} {n : ByteArray} {f : Fl} (h : get l n = some f) : f ∈ l ∧ f.n = n := by
 unfold get at h
 have h2 := List.find?_some h
 exact ⟨List.mem_of_find?_eq_some h, by simpa using h2⟩
theorem get_none {l : List Fl} {n : ByteArray} : get l n = none ↔ ∀ f ∈ l, f.n ≠ n := by
 unfold get
 simp
theorem Up.one {l : List Fl} (h : Up l) {f g : Fl} (hf : f ∈ l) (hg : g ∈ l) (he : f.n = g.n) : f = g := by
 induction l with
 | nil => cases hf
 | cons a l ih =>
  have hp := List.pairwise_cons.1 h
  rcases List.mem_cons.1 hf with e1 | hf2
  · rcases List.mem_cons.1 hg with e2 | hg2
    · rw [e1, e2]
    · exact absurd (e1 ▸ he) (hp.1 g hg2).ne
  · rcases List.mem_cons.1 hg with e2 | hg2
    · exact absurd (e2 ▸ he.symm) (hp.1 f hf2).ne
    · exact ih hp.2 hf2 hg2
theorem get_of {l : List Fl} (h : Up l) {f : Fl} (hf : f ∈ l) : get l f.n = some f := by
 rcases hg : get l f.n with _ | g
 · exact absurd rfl (get_none.1 hg f hf)
 · obtain ⟨h1, h2⟩ := get_mem hg
   rw [h.one h1 hf h2]
theorem change_cases (D : Dk) (l : List Fl) (own : Int) : (change D l own = (D, 10) ∧ D.x = true) ∨ (change D l own = (D, own) ∧ own ≠ 0 ∧ D.x = false) ∨ (change D l own = ({ D with x := true }, 10) ∧ own = 0 ∧ D.x = false ∧ D.a = true ∧ D.l = 0) ∨
 (change D l own = ({ D with f := l, l := D.l - 1 }, 0) ∧ own = 0 ∧ D.x = false ∧ D.a = true ∧ D.l ≠ 0) ∨ (change D l own = ({ D with f := l }, 0) ∧ own = 0 ∧ D.x = false ∧ D.a = false) := by
 unfold change
 by_cases h1 : D.x = true
 · exact .inl ⟨by rw [if_pos h1], h1⟩
 · have h1' : D.x = false := by simpa using h1
   rw [if_neg h1]
   by_cases h2 : own ≠ 0
   · exact .inr (.inl ⟨by rw [if_pos h2], h2, h1'⟩)
   · have h2' : own = 0 := by simpa using h2
     rw [if_neg h2]
     by_cases h3 : D.a = true
     · by_cases h4 : D.l = 0
       · exact .inr (.inr (.inl ⟨by rw [if_pos ⟨h3, h4⟩], h2', h1', h3, h4⟩))
       · exact .inr (.inr (.inr (.inl ⟨by rw [if_neg (fun h => h4 h.2), if_pos h3], h2', h1', h3, h4⟩)))
     · exact .inr (.inr (.inr (.inr ⟨by rw [if_neg (fun h => h3 h.1), if_neg h3], h2', h1', by simpa using h3⟩)))
theorem Right.change {D : Dk} (h : Right D) {l : List Fl} {own : Int} (hl : own = 0 → (∀ f ∈ l, FOk f) ∧ Up l) : Right (change D l own).1 := by
 rcases change_cases D l own with ⟨e, _⟩ | ⟨e, _⟩ | ⟨e, _⟩ | ⟨e, h0, _, _, h1⟩ | ⟨e, h0, _⟩
 all_goals rw [e]
 · exact h
 · exact h
 · exact h
 · exact ⟨(hl h0).1, (hl h0).2, h.2.2.1, by have := h.2.2.2; show 0 ≤ D.l - 1; omega⟩
 · exact ⟨(hl h0).1, (hl h0).2, h.2.2.1, h.2.2.2⟩
theorem withF_ok {D : Dk} (h : Right D) {f : Fl} (hf : FOk f) : (∀ g ∈ withF D.f f, FOk g) ∧ Up (withF D.f f) := by
 refine ⟨fun g hg => ?_, h.2.1.withF f⟩
 rcases mem_withF.1 hg with h1 | rfl
 · exact h.1 g h1.1
 · exact hf
theorem left_ok {f : Fl} (h : FOk f) (k : Int) : FOk (left f k) := ⟨h.1, by unfold left; exact Int.natCast_nonneg _, Int.le_refl _⟩
theorem crashF_names : ∀ (l : List Fl) (k : List Int), (crashF l k).map (·.n) = l.map (·.n)
 | [], _ => rfl
 | f :: l, [] => by rw [crashF, List.map_cons, List.map_cons, crashF_names l []]; rfl
 | f :: l, k :: r => by rw [crashF, List.map_cons, List.map_cons, crashF_names l r]; rfl
theorem crashF_ok : ∀ (l : List Fl) (k : List Int), (∀ f ∈ l, FOk f) → ∀ f ∈ crashF l k, FOk f
 | [], _, _, f, hf => by cases hf
 | g :: l, [], h, f, hf => by
  rcases List.mem_cons.1 hf with rfl | hf
  · exact left_ok (h g (by simp)) 0
  · exact crashF_ok l [] (fun q hq => h q (by simp [hq])) f hf
 | g :: l, k :: r, h, f, hf => by
  rcases List.mem_cons.1 hf with rfl | hf
  · exact left_ok (h g (by simp)) k
  · exact crashF_ok l r (fun q hq => h q (by simp [hq])) f hf
theorem up_names {l : List Fl} : Up l ↔ (l.map (·.n)).Pairwise Lt := by unfold Up; rw [List.pairwise_map]
theorem Right.crash {D : Dk} (h : Right D) (k : List Int) : Right (crash D k) :=
 ⟨crashF_ok D.f k h.1, up_names.2 (by show ((crashF D.f k).map _).Pairwise _; rw [crashF_names]; exact up_names.1 h.2.1), h.2.2.1, Int.le_refl _⟩
theorem Right.act {D : Dk} (h : Right D) (a : Act) : Right (act D a).1 := by
 unfold Dp.act
 have none : ∀ e : Int, e ≠ 0 → Right (Dp.change D [] e).1 := fun e he => h.change fun h0 => absurd h0 he
 split
 · unfold create
   split
   · exact none 1 (by decide)
   · rename_i hn
     split
     · exact none 8 (by decide)
     · exact h.change fun _ => withF_ok h ⟨by simpa using hn, Int.le_refl _, Int.natCast_nonneg _⟩
 split
 · unfold append
   split
   · exact none 7 (by decide)
   · rename_i f hf
     have hf' := h.1 f (get_mem hf).1
     split
     · exact none 9 (by decide)
     · exact h.change fun _ => withF_ok h ⟨hf'.1, hf'.2.1, by have h3 := hf'.2.2; show f.s ≤ ((f.d ++ a.t).size : Int); rw [ByteArray.size_append]; omega⟩
 split
 · unfold sync
   split
   · exact none 7 (by decide)
   · rename_i f hf
     have hf' := h.1 f (get_mem hf).1
     exact h.change fun _ => withF_ok h ⟨hf'.1, Int.natCast_nonneg _, Int.le_refl _⟩
 split
 · unfold cut
   split
   · exact none 7 (by decide)
   · rename_i f hf
     have hf' := h.1 f (get_mem hf).1
     split
     · exact none 6 (by decide)
     · refine h.change fun _ => withF_ok h ⟨hf'.1, by have := hf'.2.1; show 0 ≤ min f.s a.i; omega, ?_⟩
       show min f.s a.i ≤ ((f.d.extract 0 a.i.toNat).size : Int)
       rw [ByteArray.size_extract]
       omega
 split
 · unfold rename
   split
   · exact none 7 (by decide)
   · rename_i f hf
     have hf' := h.1 f (get_mem hf).1
     split
     · exact none 1 (by decide)
     · rename_i hn
       refine h.change fun _ => ⟨fun g hg => ?_, (h.2.1.without a.n).withF _⟩
       rcases mem_withF.1 hg with h1 | rfl
       · exact h.1 g (mem_without.1 h1.1).1
       · exact ⟨by simpa using hn, hf'.2.1, hf'.2.2⟩
 split
 · unfold delete
   split
   · exact none 7 (by decide)
   · exact h.change fun _ => ⟨fun g hg => h.1 g (mem_without.1 hg).1, h.2.1.without a.n⟩
 split
 · exact ⟨h.1, h.2.1, h.2.2.1, by show 0 ≤ max a.i 0; omega⟩
 split
 · exact ⟨h.1, h.2.1, by show 0 ≤ max a.i 0; omega, h.2.2.2⟩
 · exact h.crash a.e
end Dp
section
open Go.RowKit
theorem bel_drewN {w : World} (n : Nat) : Below w.heap.size w (w.drewN n) := by
 induction n generalizing w with
 | zero => exact Below.refl _ _
 | succ n ih => exact ih.drew
theorem bel_trans2 {w w1 w2 : World} (h : Below w.heap.size w w1) (k : Below w1.heap.size w1 w2) : Below w.heap.size w w2 := h.trans (k.mono h.size)
theorem bel_of_alloc {w w' : World} {o : Obj} (h : Below (w.alloc o).heap.size (w.alloc o) w') : Below w.heap.size w w' :=
 ((Below.refl _ _).alloc (Nat.le_refl _) _).trans (h.mono (by simp))
theorem own_below {w w' : World} {base : Nat} {e : TypeId} {size : Nat} {v : Value} {n : Nat} {xs : List Value} (h : w.ownsRow base e size v n xs) (b : Below w.heap.size w w') : w'.ownsRow base e size v n xs := by
 refine h.kept (row := none) ⟨b.os, b.tape, b.output, b.size, fun k hk _ => b.block k hk⟩ ?_
 cases v.ownBlock with
 | none => exact .inl rfl
 | some k => exact .inr (by simp)
theorem ext_list (s : ByteArray) (a b : Nat) : (s.extract a b).data.toList = (s.data.toList.drop a).take (b - a) := by
 simp
theorem mk_ext (s : ByteArray) (k j m : Nat) : s.extract (k + j) (k + j + m) = ⟨(((s.data.toList.drop k).drop j).take m).toArray⟩ := by
 apply ByteArray.ext
 apply Array.ext'
 rw [ext_list]
 simp [List.drop_drop]
theorem size_mk_list (l : List UInt8) : (ByteArray.mk l.toArray).size = l.length := by simp [ByteArray.size]
theorem ext_drop (s : ByteArray) (q : Nat) : (⟨(s.data.toList.drop q).toArray⟩ : ByteArray) = s.extract q s.size := by
 apply ByteArray.ext
 apply Array.ext'
 rw [ext_list, List.take_of_length_le (by simp)]
theorem bcell {W w1 : World} (hb : Below W.heap.size W w1) : (∀ b o, b < W.heap.size → w1.cell? ⟨b, o, none⟩ = W.cell? ⟨b, o, none⟩) ∧ (∀ b o, b < W.heap.size → w1.frozen? ⟨b, o, none⟩ = W.frozen? ⟨b, o, none⟩) :=
 ⟨fun b o h => hb.cell (p := ⟨b, o, none⟩) h, fun b o h => hb.frozen (p := ⟨b, o, none⟩) h⟩
theorem addr_plain (b off j : Nat) : (⟨b, off, none⟩ : Addr).add j = ⟨b, off + j, none⟩ := by
 unfold Addr.add
 split <;> simp_all
theorem box_keep {w w1 w2 : World} {x y z : Value} (h : w1.cell? ⟨w.heap.size, 0, none⟩ = some x ∧ w1.cell? ⟨w.heap.size, 1, none⟩ = some y ∧ w1.cell? ⟨w.heap.size, 2, none⟩ = some z ∧ Below w.heap.size w w1)
 (b : Below w1.heap.size w1 w2) : w2.cell? ⟨w.heap.size, 0, none⟩ = some x ∧ w2.cell? ⟨w.heap.size, 1, none⟩ = some y ∧ w2.cell? ⟨w.heap.size, 2, none⟩ = some z ∧ Below w.heap.size w w2 := by
 obtain ⟨h0, h1, h2, hb⟩ := h
 have hl := block_lt_of_cell h0
 exact ⟨(b.cell (p := ⟨w.heap.size, 0, none⟩) hl).trans h0, (b.cell (p := ⟨w.heap.size, 1, none⟩) hl).trans h1, (b.cell (p := ⟨w.heap.size, 2, none⟩) hl).trans h2, hb.trans (b.mono hb.size)⟩
theorem box_new (w : World) (x y z : Value) (T : TypeId) : (w.alloc (.cells #[x, y, z] T)).cell? ⟨w.heap.size, 0, none⟩ = some x ∧ (w.alloc (.cells #[x, y, z] T)).cell? ⟨w.heap.size, 1, none⟩ = some y ∧ (w.alloc (.cells #[x, y, z] T)).cell? ⟨w.heap.size, 2, none⟩ = some z ∧ Below w.heap.size w (w.alloc (.cells #[x, y, z] T)) :=
 ⟨by unfold World.cell?; rw [heap_alloc_new]; rfl, by unfold World.cell?; rw [heap_alloc_new]; rfl, by unfold World.cell?; rw [heap_alloc_new]; rfl, (Below.refl _ _).alloc (Nat.le_refl _) _⟩
structure Lay (α : Type) where
 enc : α → List Value
 k : Nat
 len : ∀ x, (enc x).length = k
 one : ∀ x, ∀ u ∈ enc x, u.oneCell' = true
 pos : 0 < k
 T : TypeId
 ok : α → Prop
 z : α
variable {α : Type} (Y : Lay α)
def Lay.vals (l : List α) : List Value := l.flatMap Y.enc
theorem Lay.vals_cons (x : α) (l : List α) : Y.vals (x :: l) = Y.enc x ++ Y.vals l := rfl
theorem Lay.vals_append (a b : List α) : Y.vals (a ++ b) = Y.vals a ++ Y.vals b := by unfold Lay.vals; simp
theorem Lay.vals_one (x : α) : Y.vals [x] = Y.enc x := by unfold Lay.vals; simp
theorem Lay.vals_len (l : List α) : (Y.vals l).length = l.length * Y.k := by
 induction l with
 | nil => simp [Lay.vals]
 | cons x l ih => rw [Lay.vals_cons, List.length_append, ih, Y.len, List.length_cons, Nat.add_mul]; omega
theorem Lay.vals_cells (l : List α) : ∀ u ∈ Y.vals l, u.oneCell' = true := by
 intro u hu
 unfold Lay.vals at hu
 rw [List.mem_flatMap] at hu
 obtain ⟨x, _, h⟩ := hu
 exact Y.one x u h
theorem Lay.vals_take (l : List α) : ∀ i, (Y.vals l).take (i * Y.k) = Y.vals (l.take i) := by
 induction l with
 | nil => intro i; simp [Lay.vals]
 | cons x l ih =>
  intro i
  cases i with
  | zero => simp [Lay.vals]
  | succ i =>
   have hn : (i + 1) * Y.k = (Y.enc x).length + i * Y.k := by rw [Y.len, Nat.add_mul, Nat.one_mul, Nat.add_comm]
   rw [Lay.vals_cons, List.take_succ_cons, Lay.vals_cons, ← ih i, hn, List.take_length_add_append]
theorem Lay.vals_drop (l : List α) : ∀ i, (Y.vals l).drop (i * Y.k) = Y.vals (l.drop i) := by
 induction l with
 | nil => intro i; simp [Lay.vals]
 | cons x l ih =>
  intro i
  cases i with
  | zero => simp
  | succ i =>
   have hn : (i + 1) * Y.k = (Y.enc x).length + i * Y.k := by rw [Y.len, Nat.add_mul, Nat.one_mul, Nat.add_comm]
   rw [Lay.vals_cons, List.drop_succ_cons, ← ih i, hn, List.drop_length_add_append]
theorem Lay.vals_get (l : List α) (i j : Nat) (hi : i < l.length) (hj : j < Y.k) : (Y.vals l)[i * Y.k + j]? = (Y.enc (l.getD i Y.z))[j]? := by
 have e : l.getD i Y.z = l[i] := by simp [List.getD_eq_getElem?_getD, hi]
 rw [e, ← List.getElem?_drop, Y.vals_drop, List.drop_eq_getElem_cons hi, Lay.vals_cons, List.getElem?_append_left (by rw [Y.len]; exact hj)]
def IsL (w : World) (v : Value) (l : List α) : Prop :=
 ∃ a cap, v = .slice a l.length cap ∧ (l.length ≤ maxLen ∧ l.length ≤ cap) ∧ (∀ x ∈ l, Y.ok x) ∧
  (l = [] ∨ ∃ b off, a = some ⟨b, off, none⟩ ∧ ∀ j u, (Y.vals l)[j]? = some u → w.cell? ⟨b, off + j, none⟩ = some u)
variable {Y}
theorem IsL.nil (w : World) (a : Option Addr) (cap : Nat) : IsL Y w (.slice a 0 cap) [] := ⟨a, cap, rfl, ⟨by simp, by simp⟩, by simp, .inl rfl⟩
theorem IsL.below {B : Nat} {w w' : World} {v : Value} {l : List α} (h : IsL Y w v l) (hb : Below B w w') (hB : w.heap.size ≤ B) : IsL Y w' v l := by
 obtain ⟨a, cap, rfl, h1, h2, h3⟩ := h
 refine ⟨a, cap, rfl, h1, h2, ?_⟩
 rcases h3 with h3 | ⟨b, off, rfl, h4⟩
 · exact .inl h3
 · refine .inr ⟨b, off, rfl, fun j u hj => ?_⟩
   have c := h4 j u hj
   exact (hb.cell (p := ⟨b, off + j, none⟩) (Nat.lt_of_lt_of_le (block_lt_of_cell c) hB)).trans c
theorem IsL.keep {w w' : World} {v : Value} {l : List α} (h : IsL Y w v l) (hb : Below w.heap.size w w') : IsL Y w' v l := h.below hb (Nat.le_refl _)
theorem IsL.at_ {w : World} {b off n cap : Nat} {l : List α} (h : IsL Y w (.slice (some ⟨b, off, none⟩) n cap) l) {i : Nat} (hi : i < n) : ∀ j u, (Y.enc (l.getD i Y.z))[j]? = some u → w.cell? ⟨b, off + i * Y.k + j, none⟩ = some u := by
 obtain ⟨a', cap', e, _, _, h3⟩ := h
 injection e with e1 e2 e3
 subst e2
 intro j u hj
 have hjk : j < Y.k := by rw [← Y.len (l.getD i Y.z)]; exact (List.getElem?_eq_some_iff.1 hj).1
 rcases h3 with rfl | ⟨b', off', e, h4⟩
 · simp at hi
 · rw [← e1] at e
   injection e with e
   injection e with e1 e2
   subst e1 e2
   have := h4 (i * Y.k + j) u (by rw [Y.vals_get l i j hi hjk]; exact hj)
   rwa [← Nat.add_assoc] at this
theorem IsL.len {w : World} {a : Option Addr} {n cap : Nat} {l : List α} (h : IsL Y w (.slice a n cap) l) : n = l.length ∧ l.length ≤ maxLen := by
 obtain ⟨a', cap', e, h1, _⟩ := h
 injection e with e1 e2 e3
 exact ⟨e2, h1.1⟩
theorem IsL.room {w : World} {a : Option Addr} {n cap : Nat} {l : List α} (h : IsL Y w (.slice a n cap) l) : n ≤ cap := by
 obtain ⟨a', cap', e, h1, _⟩ := h
 injection e with e1 e2 e3
 rw [e2, e3]
 exact h1.2
theorem IsL.ok {w : World} {v : Value} {l : List α} (h : IsL Y w v l) : ∀ x ∈ l, Y.ok x := by obtain ⟨_, _, _, _, h2, _⟩ := h; exact h2
theorem IsL.take {w : World} {a : Option Addr} {n cap k : Nat} {l : List α} (h : IsL Y w (.slice a n cap) l) (hk : k ≤ n) : IsL Y w (.slice a k cap) (l.take k) := by
 obtain ⟨a', cap', e, h1, h2, h3⟩ := h
 injection e with e1 e2 e3
 subst e1 e2 e3
 have hl : (l.take k).length = k := by rw [List.length_take]; omega
 refine ⟨a, cap, by rw [hl], ⟨by omega, by omega⟩, fun x hx => h2 x (List.mem_of_mem_take hx), ?_⟩
 rcases h3 with rfl | ⟨b, off, rfl, h4⟩
 · exact .inl (by simp)
 · refine .inr ⟨b, off, rfl, fun j u hj => h4 j u ?_⟩
   rw [← Y.vals_take, List.getElem?_take] at hj
   split at hj
   · exact hj
   · cases hj
theorem IsL.drop {w : World} {a : Option Addr} {b off n cap k : Nat} {l : List α} (h : IsL Y w (.slice (some ⟨b, off, none⟩) n cap) l) (hk : k ≤ n) (c : Nat) (hc : n - k ≤ c) (ha : a = some ⟨b, off + k * Y.k, none⟩ ∨ n = k) : IsL Y w (.slice a (n - k) c) (l.drop k) := by
 obtain ⟨a', cap', e, h1, h2, h3⟩ := h
 injection e with e1 e2 e3
 subst e2
 have hl : (l.drop k).length = l.length - k := by rw [List.length_drop]
 refine ⟨a, c, by rw [hl], ⟨by omega, by omega⟩, fun x hx => h2 x (List.mem_of_mem_drop hx), ?_⟩
 by_cases hlt : k < l.length
 · rcases ha with rfl | ha
   · rcases h3 with rfl | ⟨b', off', e, h4⟩
     · simp at hlt
     · rw [← e1] at e
       injection e with e
       injection e with e1 e2
       subst e1 e2
       refine .inr ⟨b, off + k * Y.k, rfl, fun j u hj => ?_⟩
       rw [← Y.vals_drop, List.getElem?_drop] at hj
       rw [Nat.add_assoc]
       exact h4 _ u hj
   · omega
 · exact .inl (List.drop_eq_nil_of_le (by omega))
def OwnL (Y : Lay α) (w : World) (base : Nat) (v : Value) (l : List α) : Prop := w.ownsRow base Y.T Y.k v l.length (Y.vals l)
theorem OwnL.nil (w : World) (base : Nat) : OwnL Y w base (.slice none 0 0) [] := World.ownsRow_nil _ _ _ _
theorem OwnL.keep {w w' : World} {base : Nat} {v : Value} {l : List α} (h : OwnL Y w base v l) (b : Below w.heap.size w w') : OwnL Y w' base v l := own_below h b
theorem OwnL.alloc {w : World} {base : Nat} {v : Value} {l : List α} (h : OwnL Y w base v l) (o : Obj) : OwnL Y (w.alloc o) base v l := World.ownsRow.alloc h o
theorem OwnL.lt {w : World} {base : Nat} {v : Value} {l : List α} (h : OwnL Y w base v l) : ∀ k, v.ownBlock = some k → base ≤ k ∧ k < w.heap.size := World.ownsRow.lt h
theorem OwnL.is {w : World} {base : Nat} {v : Value} {l : List α} (h : OwnL Y w base v l) (hm : l.length ≤ maxLen) (hb : ∀ x ∈ l, Y.ok x) : IsL Y w v l := by
 rcases h.2 with ⟨rfl, h0⟩ | ⟨g, cap, cur, rfl, h1⟩
 · have : l = [] := by simpa using h0
   subst this
   exact IsL.nil w none 0
 · refine ⟨some ⟨g, 0, none⟩, cap, rfl, ⟨hm, h1.2.2.1⟩, hb, .inr ⟨g, 0, rfl, fun j u hj => ?_⟩⟩
   have := World.ownsRow.cells h (g := g) rfl j u hj
   have e : (⟨g, 0, none⟩ : Addr).add j = ⟨g, 0 + j, none⟩ := by unfold Addr.add; split <;> simp_all
   rwa [e] at this
theorem OwnL.snoc {w : World} {base n : Nat} {v : Value} {l : List α} {x : α} {cs : List Value} (h : w.ownsRow base Y.T Y.k v (l.length + 1) (Y.vals l ++ cs)) (hc : cs = Y.enc x) (_hn : n = l.length) : OwnL Y w base v (l ++ [x]) := by
 subst hc
 unfold OwnL
 rw [Y.vals_append, Y.vals_one, List.length_append]
 exact h
def OutL (Y : Lay α) (w : World) (base : Nat) (l : List α) (e : Ending) (w' : World) : Prop := ∃ v, e = .returned v ∧ OwnL Y w' base v l ∧ Below base w w'
theorem OutL.mk {w w' : World} {base : Nat} {l : List α} {v : Value} (h : OwnL Y w' base v l) (hb : Below base w w') : OutL Y w base l (.returned v) w' := ⟨v, rfl, h, hb⟩
theorem IsL.news {w : World} {b off n cap : Nat} {l : List α} (h : IsL Y w (.slice (some ⟨b, off, none⟩) n cap) l) : ∀ j u, (Y.vals l)[j]? = some u → w.cell? ((⟨b, off, none⟩ : Addr).add j) = some u := by
 obtain ⟨a', cap', e, _, _, h3⟩ := h
 injection e with e1 e2 e3
 intro j u hj
 have ea : (⟨b, off, none⟩ : Addr).add j = ⟨b, off + j, none⟩ := by unfold Addr.add; split <;> simp_all
 rw [ea]
 rcases h3 with rfl | ⟨b', off', e, h4⟩
 · simp [Lay.vals] at hj
 · rw [← e1] at e
   injection e with e
   injection e with e1 e2
   subst e1 e2
   exact h4 j u hj
theorem news_new (w : World) (N : Nat) (cs : List Value) (T : TypeId) (h : w.heap.size = N) : ∀ (j : Nat) (u : Value), cs[j]? = some u → (w.alloc (.cells cs.toArray T)).cell? ((⟨N, 0, none⟩ : Addr).add j) = some u := by
 subst h
 intro j u h
 have ea : (⟨w.heap.size, 0, none⟩ : Addr).add j = ⟨w.heap.size, j, none⟩ := by unfold Addr.add; split <;> simp_all
 rw [ea, cell_of_row _ _ j cs.toArray T (0, 0) (heap_alloc_new w _)]
 simpa using h
theorem take_snocD {l : List α} {k : Nat} {z : α} (h : k < l.length) : l.take (k + 1) = l.take k ++ [l.getD k z] := by
 rw [List.take_succ_eq_append_getElem h]
 simp [List.getD_eq_getElem?_getD, h]
theorem getD_lt {l : List α} {k : Nat} {z : α} (h : k < l.length) : l.getD k z = l[k] := by simp [List.getD_eq_getElem?_getD, h]
theorem step_append_ownL {P : Program} {ops : Array Oper} {o : Oper} {a : Act} {w : World} {K : Act → World → Prop} {Q : Exit → Act → World → Prop} {E : Prop}
 (hg : o.guard = none) (s x : Operand) (t : TypeId) (hop : o.op = Op.call { callee := Callee.builtin Builtin.append, args := #[s, x], argTypes := #[t, t] })
 (base : Nat) (e : TypeId) (i : TypeInfo) (z : Value) (size bytes : Nat) (ht : P.underlying t = some (.slice e)) (hi : P.info? e = some i) (hz : i.zero = some z)
 (hsize : i.size = size) (hby : i.bytes = bytes) (hzs : z.cells.size = size) (hsz : 0 < size)
 (v : Value) (n : Nat) (xs : List Value) (hs : a.eval s = v) (hown : w.ownsRow base e size v n xs)
 (ad : Addr) (m c : Nat) (news : List Value) (hx : a.eval x = .slice (some ad) m c) (hl : news.length = m * size) (hnews : ∀ j u, news[j]? = some u → w.cell? (ad.add j) = some u) (h1 : ∀ u ∈ news, u.oneCell' = true)
 (h63 : n + m ≤ maxLen) (hbytes : (n + m) * bytes ≤ 140737488355328) (hbase : base ≤ w.heap.size)
 (hK : ∀ v' w', w'.ownsRow base e size v' (n + m) (xs ++ news) → w.grownBy w' v.ownBlock → K (a.put o.dst v') w') :
 if Region.wanted o (yielded ops a.tmps) = true then Oper.wp P o a w K Q else E := by
 have hw : Region.wanted o (yielded ops a.tmps) = true := by simp [Region.wanted, hg]
 rw [if_pos hw]
 exact wp_append_own w s x t hop base e i z size bytes ht hi hz hsize hby hzs hsz v n xs hs hown ad m c news hx hl hnews h1 h63 hbytes hbase fun v' w' h2 h3 _ => hK v' w' h2 h3
def splice (cur : Array Value) (o : Nat) (vs : List Value) : Array Value := (cur.toList.take o ++ vs ++ cur.toList.drop (o + vs.length)).toArray
theorem splice_size {cur : Array Value} {o : Nat} {vs : List Value} (h : o + vs.length ≤ cur.size) : (splice cur o vs).size = cur.size := by
 unfold splice
 simp only [List.size_toArray, List.length_append, List.length_take, List.length_drop, Array.length_toList]
 omega
theorem splice_take {cur : Array Value} {o : Nat} {vs : List Value} (h : o ≤ cur.size) (n : Nat) (hn : n = o + vs.length) : (splice cur o vs).toList.take n = cur.toList.take o ++ vs := by
 subst hn
 unfold splice
 rw [List.take_left']
 simp only [List.length_append, List.length_take, Array.length_toList]
 omega
theorem splice_front {cur : Array Value} {o : Nat} {vs : List Value} (h : o ≤ cur.size) (n : Nat) (hn : n ≤ o) : (splice cur o vs).toList.take n = cur.toList.take n := by
 unfold splice
 show (cur.toList.take o ++ vs ++ cur.toList.drop (o + vs.length)).take n = _
 rw [List.append_assoc, List.take_append_of_le_length (by rw [List.length_take, Array.length_toList]; omega), List.take_take, Nat.min_eq_left hn]
theorem setCells_row (g : Nat) (t : TypeId) : ∀ (vs : List Value) (o : Nat) (cur : Array Value) (w : World), w.heap[g]? = some (.cells cur t (0, 0)) → o + vs.length ≤ cur.size → w.setCells g o vs = w.setRow g (splice cur o vs)
 | [], o, cur, w, hg, _ => by
  unfold splice
  simp only [World.setCells, List.append_nil, List.length_nil, Nat.add_zero, List.take_append_drop, Array.toArray_toList]
  rw [setRow_self w g cur t (0, 0) hg]
 | v :: rest, o, cur, w, hg, hl => by
  have hi : o < cur.size := by simp at hl; omega
  have ih := setCells_row g t rest (o + 1) (cur.setIfInBounds o v) (w.setRow g (cur.setIfInBounds o v)) (setRow_heap w g cur _ t _ hg) (by simp at hl ⊢; omega)
  rw [World.setCells, setCell_eq_setRow w g o cur t (0, 0) v hg, ih, setRow_setRow]
  congr 1
  unfold splice
  congr 1
  have e := list_seg_step cur.toList o v rest (by simp at hl ⊢; omega)
  simpa [Array.toList_setIfInBounds, Nat.add_assoc] using e
theorem setCells_heap {w : World} {g : Nat} {t : TypeId} {cur : Array Value} {o : Nat} {vs : List Value} (hg : w.heap[g]? = some (.cells cur t (0, 0))) (h : o + vs.length ≤ cur.size) : (w.setCells g o vs).heap[g]? = some (.cells (splice cur o vs) t (0, 0)) := by
 rw [setCells_row g t vs o cur w hg h]
 exact setRow_heap w g cur _ t _ hg
theorem bel_setCells {base g : Nat} (hb : base ≤ g) : ∀ (vs : List Value) (o : Nat) (w : World), Below base w (w.setCells g o vs)
 | [], _, _ => Below.refl _ _
 | v :: r, o, _ => ((Below.refl _ _).setCell (p := ⟨g, o, none⟩) hb v).trans (bel_setCells hb r (o + 1) _)
theorem row_cell {w : World} {g : Nat} {t : TypeId} {cur : Array Value} (hg : w.heap[g]? = some (.cells cur t (0, 0))) (j : Nat) : w.cell? ⟨g, j, none⟩ = cur.toList[j]? := by
 rw [cell_of_row w g j cur t (0, 0) hg, Array.getElem?_toList]
theorem row_some {w : World} {g : Nat} {t : TypeId} {cur : Array Value} (hg : w.heap[g]? = some (.cells cur t (0, 0))) (j : Nat) (h : j < cur.size) : (w.cell? ⟨g, j, none⟩).isSome = true ∧ w.frozen? ⟨g, j, none⟩ = false := by
 refine ⟨?_, frozen_of_row w g j cur t hg⟩
 rw [cell_of_row w g j cur t (0, 0) hg, Array.getElem?_eq_getElem h]
 rfl
theorem row_part {w : World} {g : Nat} {t : TypeId} {cur : Array Value} {n o : Nat} {xs : List Value} (hg : w.heap[g]? = some (.cells cur t (0, 0))) (ht : cur.toList.take n = xs) (j : Nat) (u : Value) (h : (xs.drop o)[j]? = some u) : w.cell? ⟨g, o + j, none⟩ = some u := by
 rw [row_cell hg]
 rw [List.getElem?_drop, ← ht, List.getElem?_take] at h
 split at h
 · exact h
 · cases h
theorem splice_two {cur : Array Value} {a b : Nat} {vs D : List Value} (hab : a + vs.length = b) (hf : b + D.length ≤ cur.size) (n : Nat) (hn : n = b + D.length) : (splice (splice cur b D) a vs).toList.take n = cur.toList.take a ++ vs ++ D := by
 subst hn
 have e1 : (splice cur b D).toList.take a = cur.toList.take a := splice_front (by omega) a (by omega)
 have e2 : (splice cur b D).toList.drop (a + vs.length) = D ++ cur.toList.drop (b + D.length) := by
  rw [hab]
  unfold splice
  show (cur.toList.take b ++ D ++ cur.toList.drop (b + D.length)).drop b = _
  rw [List.append_assoc, List.drop_left' (by rw [List.length_take, Array.length_toList]; omega)]
 unfold splice at *
 show ((cur.toList.take b ++ D ++ cur.toList.drop (b + D.length)).toArray.toList.take a ++ vs ++ (cur.toList.take b ++ D ++ cur.toList.drop (b + D.length)).toArray.toList.drop (a + vs.length)).take (b + D.length) = _
 rw [e1, e2, ← List.append_assoc, List.take_left']
 simp only [List.length_append, List.length_take, Array.length_toList]
 omega
theorem splice_two' {cur : Array Value} {a b : Nat} {vs D : List Value} (hab : a + vs.length = b) (hf : b + D.length ≤ cur.size) (n : Nat) (hn : n = b + D.length) : (splice (splice cur a vs) b D).toList.take n = cur.toList.take a ++ vs ++ D := by
 rw [splice_take (by rw [splice_size (by omega)]; omega) n hn, splice_take (by omega) b hab.symm]
theorem shape_row {w : World} {g : Nat} {cur : Array Value} {t : TypeId} (hg : w.heap[g]? = some (.cells cur t (0, 0))) : w.shape? g = some (t, cur.size) := by unfold World.shape?; rw [hg]
variable {P : Program}
theorem run_copy_wide (w : World) (dT sT ty elem : TypeId) (size : Nat) (b o dLen dCap : Nat) (a : Addr) (sLen sCap : Nat) (cs : List Value)
 (hu : P.underlying dT = some (.slice elem)) (hs : (P.info? elem).map (·.size) = some size) (hn : cs.length = Nat.min sLen dLen * size)
 (hsrc : ∀ j v, cs[j]? = some v → w.cell? (a.add j) = some v) (hc : ∀ j, j < cs.length → (w.cell? ⟨b, o + j, none⟩).isSome = true ∧ w.frozen? ⟨b, o + j, none⟩ = false) (h1 : ∀ v ∈ cs, v.oneCell' = true) :
 (Builtin.copy_ #[dT, sT] ty #[.slice (some ⟨b, o, none⟩) dLen dCap, .slice (some a) sLen sCap]).run P w = .ok (goInt (Nat.min sLen dLen)) (w.setCells b o cs) := by
 have hl := run_firstCells_some (P := P) w size (Nat.min sLen dLen) a sLen sCap cs hn hsrc
 have hst := run_storeCells_cells (P := P) b o cs 0 w (by simpa using fun j hj => (hc j hj).1) (by simpa using fun j hj => (hc j hj).2) h1
 cases hq : P.info? elem with
 | none => simp [hq] at hs
 | some i =>
  have hi : i.size = size := by simpa [hq] using hs
  subst hi
  simp [Builtin.copy_, run_underlying hu, Builtin.lenOf, sizeOf, typeInfo, hq, hl, hst]
theorem run_clear_one (w : World) (t e ty : TypeId) (z : Value) (zs : List Value) (ht : P.underlying t = some (.slice e)) (hv : ∀ w, (zeroValue e).run P w = .ok z w) (hz : (Builtin.zeroCells z.cells 1).toList = zs) (h1 : ∀ v ∈ zs, v.oneCell' = true) (b o c : Nat)
 (hc : ∀ j, j < zs.length → (w.cell? ⟨b, o + j, none⟩).isSome = true ∧ w.frozen? ⟨b, o + j, none⟩ = false) :
 (Builtin.clear_ #[t] ty #[.slice (some ⟨b, o, none⟩) 1 c]).run P w = .ok (.tuple #[]) (w.setCells b o zs) := by
 have hst := run_storeCells_cells (P := P) b o zs 0 w (by simpa using fun j hj => (hc j hj).1) (by simpa using fun j hj => (hc j hj).2) h1
 simp only [Nat.add_zero] at hst
 simp [Builtin.clear_, run_underlying ht, hv, hz, hst]
end
end Go.Proofs.YtijbpdpkoamhbaaGreat
