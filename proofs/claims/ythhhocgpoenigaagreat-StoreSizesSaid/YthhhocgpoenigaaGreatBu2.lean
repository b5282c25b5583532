/-
  Parts of what the laws of this seat stand on: DiskFind, DiskDel, DiskIns.
-/
import Derived.BigQuiet
import Derived.Deep.QuietTactic
import Derived.Deep.RegionLaw
import Derived.IntWalk
import Derived.Lib.AppendZerosOnto
import Derived.Lib.Bytealg
import Derived.Lib.SliceRun
import Derived.Shelf.RegionOpenPlain
import Derived.Shelf.Spec.SlicesInsert
import Derived.Test.YthhhocgpoenigaaGreatBu1
namespace Go.Proofs.YthhhocgpoenigaaGreat.Dp

/-- How two names stand to one another. -/
def cmp (a b : ByteArray) : Int := Go.Lib.compareBytes a.data.toList b.data.toList
theorem cmpL3 : ∀ (a b : List UInt8), (Go.Lib.compareBytes a b = -1 ∧ a < b) ∨ (Go.Lib.compareBytes a b = 0 ∧ a = b) ∨ (Go.Lib.compareBytes a b = 1 ∧ b < a)
  | [], [] => .inr (.inl ⟨rfl, rfl⟩)
  | [], _ :: _ => .inl ⟨rfl, List.nil_lt_cons ..⟩
  | _ :: _, [] => .inr (.inr ⟨rfl, List.nil_lt_cons ..⟩)
  | a :: xs, b :: ys => by
    unfold Go.Lib.compareBytes
    by_cases h1 : a < b
    · exact .inl ⟨by rw [if_pos h1], List.cons_lt_cons_iff.2 (.inl h1)⟩
    · by_cases h2 : b < a
      · exact .inr (.inr ⟨by rw [if_neg h1, if_pos h2], List.cons_lt_cons_iff.2 (.inl h2)⟩)
      · have e : a = b := UInt8.le_antisymm (UInt8.not_lt.1 h2) (UInt8.not_lt.1 h1)
        rw [if_neg h1, if_neg h2]
        rcases cmpL3 xs ys with ⟨h, k⟩ | ⟨h, k⟩ | ⟨h, k⟩
        · exact .inl ⟨h, List.cons_lt_cons_iff.2 (.inr ⟨e, k⟩)⟩
        · exact .inr (.inl ⟨h, by rw [e, k]⟩)
        · exact .inr (.inr ⟨h, List.cons_lt_cons_iff.2 (.inr ⟨e.symm, k⟩)⟩)
theorem cmp3 (a b : ByteArray) : (cmp a b = -1 ∧ Lt a b) ∨ (cmp a b = 0 ∧ a = b) ∨ (cmp a b = 1 ∧ Lt b a) := by
  rcases cmpL3 a.data.toList b.data.toList with h | h | h
  · exact .inl h
  · exact .inr (.inl ⟨h.1, ext_iff.2 h.2⟩)
  · exact .inr (.inr h)

/-- Where a name stands. -/
structure FoundF (l : List Fl) (c : ByteArray) (i : Nat) (b : Bool) : Prop where
  le : i ≤ l.length
  lt : ∀ j (hj : j < l.length), j < i → Lt (l[j]).n c
  ge : ∀ j (hj : j < l.length), i ≤ j → ¬ Lt (l[j]).n c
  hit : b = true → ∃ h : i < l.length, (l[i]).n = c
  miss : b = false → ∀ h : i < l.length, (l[i]).n ≠ c
theorem Up.at {l : List Fl} (h : Up l) {i j : Nat} (hj : j < l.length) (hi : i < j) : Lt (l[i]).n (l[j]).n := List.pairwise_iff_getElem.1 h i j (by omega) hj hi
/-- What the search knows: up to lo all names are less, from hi on none is. -/
structure Between (l : List Fl) (c : ByteArray) (lo hi : Nat) : Prop where
  le : lo ≤ hi
  ln : hi ≤ l.length
  lt : ∀ j (hj : j < l.length), j < lo → Lt (l[j]).n c
  ge : ∀ j (hj : j < l.length), hi ≤ j → ¬ Lt (l[j]).n c
theorem Between.start (l : List Fl) (c : ByteArray) : Between l c 0 l.length := ⟨Nat.zero_le _, Nat.le_refl _, fun _ _ h => absurd h (Nat.not_lt_zero _), fun j hj h => by omega⟩
theorem getD_fl {l : List Fl} {k : Nat} {z : Fl} (h : k < l.length) : l.getD k z = l[k] := by simp [List.getD_eq_getElem?_getD, h]
theorem Between.up {l : List Fl} {c : ByteArray} {lo hi m : Nat} {z : Fl} (h : Between l c lo hi) (hu : Up l) (h2 : m < hi) (hm : Lt (l.getD m z).n c) : Between l c (m + 1) hi := by
  refine ⟨h2, h.ln, fun j hj hjm => ?_, h.ge⟩
  have h3 := h.ln
  rw [getD_fl (by omega)] at hm
  rcases Nat.lt_or_ge j m with h4 | h4
  · exact (hu.at (show m < l.length by omega) h4).trans hm
  · obtain rfl : j = m := by omega
    exact hm
theorem Between.down {l : List Fl} {c : ByteArray} {lo hi m : Nat} {z : Fl} (h : Between l c lo hi) (hu : Up l) (h1 : lo ≤ m) (h2 : m < hi) (hm : ¬ Lt (l.getD m z).n c) : Between l c lo m := by
  have h3 := h.ln
  refine ⟨h1, by omega, h.lt, fun j hj hjm => ?_⟩
  rw [getD_fl (by omega)] at hm
  rcases Nat.lt_or_ge m j with h4 | h4
  · exact fun k => hm ((hu.at hj h4).trans k)
  · obtain rfl : j = m := by omega
    exact hm
theorem Between.hit {l : List Fl} {c : ByteArray} {i : Nat} {z : Fl} (h : Between l c i i) (hi : i < l.length) (hm : (l.getD i z).n = c) : FoundF l c i true := by
  rw [getD_fl hi] at hm
  exact ⟨h.ln, h.lt, h.ge, fun _ => ⟨hi, hm⟩, fun h0 => by cases h0⟩
theorem Between.miss {l : List Fl} {c : ByteArray} {i : Nat} {z : Fl} (h : Between l c i i) (hm : i < l.length → (l.getD i z).n ≠ c) : FoundF l c i false := by
  refine ⟨h.ln, h.lt, h.ge, fun h0 => (by cases h0), fun _ hi he => hm hi ?_⟩
  rw [getD_fl hi, he]

/-- The parts ahead of and behind a place. -/
theorem FoundF.parts {l : List Fl} {c : ByteArray} {i : Nat} {b : Bool} (h : FoundF l c i b) (hu : Up l) :
    (∀ f ∈ l.take i, Lt f.n c) ∧ (∀ f ∈ l.drop i, ¬ Lt f.n c) ∧ (∀ f ∈ l.drop (i + 1), Lt c f.n) ∧ (b = false → ∀ f ∈ l.drop i, Lt c f.n) := by
  refine ⟨fun f hf => ?_, fun f hf => ?_, fun f hf => ?_, fun hb f hf => ?_⟩
  · obtain ⟨j, hj, rfl⟩ := List.mem_take_iff_getElem.1 hf
    exact h.lt j (by omega) (by omega)
  · obtain ⟨j, hj, rfl⟩ := List.mem_drop_iff_getElem.1 hf
    exact h.ge _ (by omega) (by omega)
  · obtain ⟨j, hj, rfl⟩ := List.mem_drop_iff_getElem.1 hf
    have hg := h.ge i (by omega) (Nat.le_refl _)
    have ha := hu.at (i := i) (j := i + 1 + j) (by omega) (by omega)
    rcases lt_tri (l[i]'(by omega)).n c with k | k | k
    · exact absurd k hg
    · rw [← k]; exact ha
    · exact k.trans ha
  · obtain ⟨j, hj, rfl⟩ := List.mem_drop_iff_getElem.1 hf
    have hg := h.ge i (by omega) (Nat.le_refl _)
    have hi : Lt c (l[i]'(by omega)).n := by
      rcases lt_tri (l[i]'(by omega)).n c with k | k | k
      · exact absurd k hg
      · exact absurd k (h.miss hb _)
      · exact k
    by_cases h0 : j = 0
    · subst h0; exact hi
    · exact hi.trans (hu.at (i := i) (j := i + j) (by omega) (by omega))
theorem filter_all {l : List Fl} {p : Fl → Bool} (h : ∀ f ∈ l, p f = true) : l.filter p = l := List.filter_eq_self.2 h
theorem filter_no {l : List Fl} {p : Fl → Bool} (h : ∀ f ∈ l, p f = false) : l.filter p = [] := List.filter_eq_nil_iff.2 (fun f hf => by rw [h f hf]; decide)
theorem FoundF.get {l : List Fl} {c : ByteArray} {i : Nat} {b : Bool} (h : FoundF l c i b) (hu : Up l) (z : Fl) : get l c = if b then some (l.getD i z) else none := by
  rcases b with _ | _
  · refine get_none.2 fun f hf he => ?_
    rw [← List.take_append_drop i l] at hf
    rcases List.mem_append.1 hf with k | k
    · exact ((h.parts hu).1 f k).ne he
    · exact ((h.parts hu).2.2.2 rfl f k).ne he.symm
  · obtain ⟨hi, he⟩ := h.hit rfl
    rw [getD_fl hi]
    have := get_of hu (List.getElem_mem hi)
    rw [he] at this
    simpa using this
/-- The list is what is ahead of the place, the file there, what is behind. -/
theorem split_at {l : List Fl} {i : Nat} (h : i < l.length) (z : Fl) : l = l.take i ++ [l.getD i z] ++ l.drop (i + 1) := by
  rw [getD_fl h, List.append_assoc, List.singleton_append, ← List.drop_eq_getElem_cons h, List.take_append_drop]
theorem FoundF.with_hit {l : List Fl} {c : ByteArray} {i : Nat} (h : FoundF l c i true) (hu : Up l) {f : Fl} (hf : f.n = c) : withF l f = l.take i ++ [f] ++ l.drop (i + 1) := by
  obtain ⟨hi, he⟩ := h.hit rfl
  obtain ⟨p1, _, p3, _⟩ := h.parts hu
  have e := split_at hi (l[i])
  unfold withF
  rw [hf, e, List.filter_append, List.filter_append, List.filter_append, List.filter_append, ← e]
  have hm : (l.getD i l[i]).n = c := by rw [getD_fl hi, he]
  rw [filter_all (l := l.take i) (p := fun g => decide (Lt g.n c)) (fun g hg => decide_eq_true (p1 g hg)), filter_no (l := [l.getD i l[i]]) (fun g hg => by rw [List.mem_singleton.1 hg, hm]; exact decide_eq_false (Lt.irrefl c)),
    filter_no (l := l.drop (i + 1)) (fun g hg => decide_eq_false (p3 g hg).asymm), filter_no (l := l.take i) (fun g hg => decide_eq_false (p1 g hg).asymm), filter_no (l := [l.getD i l[i]]) (p := fun g => decide (Lt c g.n)) (fun g hg => by rw [List.mem_singleton.1 hg, hm]; exact decide_eq_false (Lt.irrefl c)), filter_all (l := l.drop (i + 1)) (fun g hg => decide_eq_true (p3 g hg))]
  simp
theorem FoundF.with_miss {l : List Fl} {c : ByteArray} {i : Nat} (h : FoundF l c i false) (hu : Up l) {f : Fl} (hf : f.n = c) : withF l f = l.take i ++ [f] ++ l.drop i := by
  obtain ⟨p1, _, _, p4⟩ := h.parts hu
  have p4 := p4 rfl
  have e := (List.take_append_drop i l).symm
  unfold withF
  rw [hf, e, List.filter_append, List.filter_append, ← e]
  rw [filter_all (l := l.take i) (p := fun g => decide (Lt g.n c)) (fun g hg => decide_eq_true (p1 g hg)), filter_no (l := l.drop i) (fun g hg => decide_eq_false (p4 g hg).asymm),
    filter_no (l := l.take i) (fun g hg => decide_eq_false (p1 g hg).asymm), filter_all (l := l.drop i) (fun g hg => decide_eq_true (p4 g hg))]
  simp
theorem FoundF.wo {l : List Fl} {c : ByteArray} {i : Nat} (h : FoundF l c i true) (hu : Up l) : without l c = l.take i ++ l.drop (i + 1) := by
  obtain ⟨hi, he⟩ := h.hit rfl
  obtain ⟨p1, _, p3, _⟩ := h.parts hu
  have e := split_at hi (l[i])
  have hm : (l.getD i l[i]).n = c := by rw [getD_fl hi, he]
  unfold without
  rw [e, List.filter_append, List.filter_append, ← e, filter_all (l := l.take i) (fun g hg => decide_eq_true (p1 g hg).ne), filter_no (l := [l.getD i l[i]]) (fun g hg => by rw [List.mem_singleton.1 hg]; exact decide_eq_false (fun k => k hm)), filter_all (l := l.drop (i + 1)) (p := fun f => decide (f.n ≠ c)) (fun g hg => decide_eq_true (fun k => (p3 g hg).ne k.symm))]
  simp

end Go.Proofs.YthhhocgpoenigaaGreat.Dp
namespace Go.Proofs.YthhhocgpoenigaaGreat.Dsk
open Go.RowKit Go.Proofs.YthhhocgpoenigaaGreat.Dp

set_option maxRecDepth 100000 in
theorem cmpstr_any (a b : ByteArray) (w : World) : Calls Tryz.prog 152 #[.string a, .string b] w fun e w' => e = .returned (.int .i64 (cmp a b)) ∧ w = w' := by
  go_enter Tryz.func152, Tryz.ntmps152
  go_wp2
  rw [run_callFunc_extern Tryz.func154 (by kernel_rfl) (by kernel_rfl) (by kernel_rfl) (e := Extern.BytealgCompare.compare) (by kernel_rfl), Lib.run_compareString]
  simp only [Result.andThen]
  rw [Oper.upon_value]
  go_wp2
  go_ret
  exact ⟨rfl, rfl⟩
theorem scompare_any (a b : ByteArray) (w : World) : Calls Tryz.prog 146 #[.string a, .string b] w fun e w' => e = .returned (.int .i64 (cmp a b)) ∧ w = w' := by
  have C := Lib.hid (cmpstr_any a b)
  go_enter Tryz.func146, Tryz.ntmps146
  go_wp2_with fail
  refine (C.out _).mono ?_
  rintro e w' ⟨rfl, rfl⟩
  go_wp2_with fail
  go_ret
  exact ⟨rfl, rfl⟩
set_option maxRecDepth 100000 in
theorem byName_any (n d : ByteArray) (s : Int) (c : ByteArray) (w : World) : Calls Tryz.prog 138 #[.agg #[.string n, .string d, .int .i64 s], .string c] w fun e w' => e = .returned (.int .i64 (cmp n c)) ∧ Below w.heap.size w w' := by
  have C := Lib.hid fun (W : World) => scompare_any n c W
  go_enter Tryz.func138, Tryz.ntmps138
  go_wp2_with fail
  refine (C.out _).mono ?_
  rintro e w' ⟨rfl, rfl⟩
  go_wp2_with fail
  go_ret
  exact ⟨rfl, (Below.refl _ _).alloc (Nat.le_refl _) _⟩

/-- What the search answers. -/
def SearchOut (w : World) (l : List Fl) (c : ByteArray) (e : Ending) (w' : World) : Prop :=
  ∃ (i : Nat) (b : Bool), e = .returned (.tuple #[.int .i64 (i : Int), .bool b]) ∧ FoundF l c i b ∧ Below w.heap.size w w'
theorem SearchOut.mk {w w' : World} {l : List Fl} {c : ByteArray} {i : Nat} {b : Bool} (h : FoundF l c i b) (hb : Below w.heap.size w w') : SearchOut w l c (.returned (.tuple #[.int .i64 (i : Int), .bool b])) w' := ⟨i, b, rfl, h, hb⟩

set_option maxRecDepth 100000 in
set_option maxHeartbeats 1600000 in
theorem search_some (l : List Fl) (c : ByteArray) (b off cap : Nat) (w : World) (hu : Up l) (hl : l.length ≤ 1000000000000) (h : IsL FL w (.slice (some ⟨b, off, none⟩) l.length cap) l) :
    Calls Tryz.prog 137 #[.slice (some ⟨b, off, none⟩) l.length cap, .string c, .func (.func 138) #[] #[]] w (SearchOut w l c) := by
  have HC := Lib.hid fun i (hi : i < l.length) => at3 h hi
  have HU := Lib.hid hu
  have HS := Lib.hid (Between.start l c)
  clear h hu
  obtain ⟨len, hlen⟩ : ∃ len, l.length = len := ⟨_, rfl⟩
  rw [hlen] at hl HC HS ⊢
  have HL := Lib.hid hlen
  clear hlen
  go_enter Tryz.func137, Tryz.ntmps137
  go_wp2_with fail
  go_loopw [9, 10] (fun x y wr => ∃ lo hi : Nat, hi ≤ len ∧ x = .int .i64 lo ∧ y = .int .i64 hi ∧ Between l c lo hi ∧ Below w.heap.size w wr) (fun x y _ => (intOf y).toNat - (intOf x).toNat)
  case atStart => exact ⟨0, len, Nat.le_refl _, rfl, rfl, HS.out, Below.refl _ _⟩
  case round =>
    obtain ⟨lo, hi, hhi, rfl, rfl, hB, bel⟩ := hrel
    have HB := Lib.hid hB
    have hle := hB.le
    clear hB
    by_cases hlt : lo < hi
    · obtain ⟨m, hm⟩ : ∃ m, (lo + hi) / 2 = m := ⟨_, rfl⟩
      have hm1 : lo ≤ m := by omega
      have hm2 : m < hi := by omega
      have hmi : ((lo : Int) + (hi : Int)) / 2 = (m : Int) := by omega
      obtain ⟨c0, c1, c2⟩ := HC.out m (by omega)
      have hbb := block_lt_of_cell c0
      have z0 : wr.cell? ⟨b, off + m * 3, none⟩ = some (.string (l.getD m zero).n) := by rw [bel.cell (p := ⟨b, off + m * 3, none⟩) hbb]; exact c0
      have z1 : wr.cell? ⟨b, off + m * 3 + 1, none⟩ = some (.string (l.getD m zero).d) := by rw [bel.cell (p := ⟨b, off + m * 3 + 1, none⟩) hbb]; exact c1
      have z2 : wr.cell? ⟨b, off + m * 3 + 2, none⟩ = some (.int .i64 (l.getD m zero).s) := by rw [bel.cell (p := ⟨b, off + m * 3 + 2, none⟩) hbb]; exact c2
      clear c0 c1 c2 hm
      have BUP := Lib.hid fun h => HB.out.up (z := zero) HU.out hm2 h
      have BDN := Lib.hid fun h => HB.out.down (z := zero) HU.out hm1 hm2 h
      generalize l.getD m zero = p at *
      have C := fun W : World => byName_any p.n p.d p.s c W
      rcases cmp3 p.n c with ⟨hq, hcm⟩ | ⟨hq, hcm⟩ | ⟨hq, hcm⟩
      · rw [hq] at C
        have C := Lib.hid C
        have HN := Lib.hid (BUP.out hcm)
        clear hcm hq
        go_wp2_with fail
        refine (C.out _).mono ?_
        rintro e w1 ⟨rfl, b1⟩
        go_wp2_with fail
        go_roundw
        case rel => exact ⟨m + 1, hi, hhi, by go_num, rfl, HN.out, bel.trans (b1.mono bel.size)⟩
        case measure => simp [intOf]; omega
      · rw [hq] at C
        have C := Lib.hid C
        have HN := Lib.hid (BDN.out (fun k => k.ne hcm))
        clear hcm hq
        go_wp2_with fail
        refine (C.out _).mono ?_
        rintro e w1 ⟨rfl, b1⟩
        go_wp2_with fail
        go_roundw
        case rel => exact ⟨lo, m, by omega, rfl, rfl, HN.out, bel.trans (b1.mono bel.size)⟩
        case measure => simp [intOf]; omega
      · rw [hq] at C
        have C := Lib.hid C
        have HN := Lib.hid (BDN.out hcm.asymm)
        clear hcm hq
        go_wp2_with fail
        refine (C.out _).mono ?_
        rintro e w1 ⟨rfl, b1⟩
        go_wp2_with fail
        go_roundw
        case rel => exact ⟨lo, m, by omega, rfl, rfl, HN.out, bel.trans (b1.mono bel.size)⟩
        case measure => simp [intOf]; omega
    · obtain rfl : hi = lo := by omega
      by_cases hn : hi < len
      · obtain ⟨c0, c1, c2⟩ := HC.out hi hn
        have hbb := block_lt_of_cell c0
        have z0 : wr.cell? ⟨b, off + hi * 3, none⟩ = some (.string (l.getD hi zero).n) := by rw [bel.cell (p := ⟨b, off + hi * 3, none⟩) hbb]; exact c0
        have z1 : wr.cell? ⟨b, off + hi * 3 + 1, none⟩ = some (.string (l.getD hi zero).d) := by rw [bel.cell (p := ⟨b, off + hi * 3 + 1, none⟩) hbb]; exact c1
        have z2 : wr.cell? ⟨b, off + hi * 3 + 2, none⟩ = some (.int .i64 (l.getD hi zero).s) := by rw [bel.cell (p := ⟨b, off + hi * 3 + 2, none⟩) hbb]; exact c2
        clear c0 c1 c2
        have BH := Lib.hid fun h => HB.out.hit (z := zero) (by rw [HL.out]; exact hn) h
        have BM := Lib.hid fun h => HB.out.miss (z := zero) h
        generalize l.getD hi zero = p at *
        have C := fun W : World => byName_any p.n p.d p.s c W
        obtain ⟨q, hq, HN⟩ : ∃ q, cmp p.n c = q ∧ Hid (FoundF l c hi (q == 0)) := by
          rcases cmp3 p.n c with ⟨hq, hcm⟩ | ⟨hq, hcm⟩ | ⟨hq, hcm⟩
          · exact ⟨_, hq, BM.out fun _ => hcm.ne⟩
          · exact ⟨_, hq, BH.out hcm⟩
          · exact ⟨_, hq, BM.out fun _ k => hcm.ne k.symm⟩
        rw [hq] at C
        have C := Lib.hid C
        clear hq
        go_wp2_with fail
        refine (C.out _).mono ?_
        rintro e w1 ⟨rfl, b1⟩
        go_wp2_with fail
        go_ret2
        exact SearchOut.mk HN.out (bel.trans (b1.mono bel.size))
      · have HN := Lib.hid (HB.out.miss (z := zero) fun h => absurd h (by rw [HL.out]; exact hn))
        go_wp2_with fail
        go_ret2
        exact SearchOut.mk HN.out bel

set_option maxRecDepth 100000 in
set_option maxHeartbeats 800000 in
theorem search_none (a : Option Addr) (cap : Nat) (c : ByteArray) (w : World) :
    Calls Tryz.prog 137 #[.slice a 0 cap, .string c, .func (.func 138) #[] #[]] w (SearchOut w [] c) := by
  have HN := Lib.hid ((Between.start [] c).miss (z := zero) fun h => absurd h (by simp))
  go_enter Tryz.func137, Tryz.ntmps137
  go_wp2_with fail
  refine wp_loop_rounds 1 ?_
  rw [rounds_succ]
  go_wp2_with fail
  go_ret2
  exact SearchOut.mk HN.out (Below.refl _ _)

theorem search_any (v : Value) (l : List Fl) (c : ByteArray) (w : World) (hu : Up l) (hl : l.length ≤ 1000000000000) (h : IsL FL w v l) :
    Calls Tryz.prog 137 #[v, .string c, .func (.func 138) #[] #[]] w (SearchOut w l c) := by
  have h' := h
  obtain ⟨a, cap, rfl, _, _, h3⟩ := h
  rcases h3 with rfl | ⟨b, off, rfl, h4⟩
  · exact search_none a cap c w
  · exact search_some l c b off cap w hu hl h'

/-- disk's find. -/
theorem find_any (v : Value) (l : List Fl) (c : ByteArray) (w : World) (hu : Up l) (hl : l.length ≤ 1000000000000) (h : IsL FL w v l) :
    Calls Tryz.prog 117 #[v, .string c] w (SearchOut w l c) := by
  have C := Lib.hid (search_any v l c w hu hl h)
  obtain ⟨a, cap, rfl, _⟩ := h
  clear hu hl
  go_enter Tryz.func117, Tryz.ntmps117
  go_wp2_with fail
  refine C.out.mono ?_
  rintro e w' ⟨i, b, rfl, hf, hb⟩
  have HF := Lib.hid (SearchOut.mk (w := w) (l := l) (c := c) hf hb)
  clear hf hb
  go_wp2_with fail
  go_ret2
  exact HF.out

/-- disk's mayName and the document's named. -/
theorem mayName_any (n : ByteArray) (w : World) (hn : n.size ≤ 9223372036854775807) :
    Calls Tryz.prog 116 #[.string n] w fun e w' => e = .returned (.bool (decide (Named n))) ∧ w = w' := by
  by_cases h1 : 1 ≤ n.size
  · have i1 : (1 : Int) ≤ (n.size : Int) := by omega
    by_cases h2 : n.size ≤ 32
    · have i2 : (n.size : Int) ≤ 32 := by omega
      rw [decide_eq_true (show Named n from ⟨h1, h2⟩)]
      go_enter Tryz.func116, Tryz.ntmps116
      go_wp2_with fail
      go_ret
      exact ⟨by simp_all, rfl⟩
    · have i2 : ¬ ((n.size : Int) ≤ 32) := by omega
      rw [decide_eq_false (show ¬ Named n from fun h => h2 h.2)]
      go_enter Tryz.func116, Tryz.ntmps116
      go_wp2_with fail
      go_ret
      exact ⟨by simp_all, rfl⟩
  · have i1 : ¬ ((1 : Int) ≤ (n.size : Int)) := by omega
    rw [decide_eq_false (show ¬ Named n from fun h => h1 h.1)]
    go_enter Tryz.func116, Tryz.ntmps116
    go_wp2_with fail
    go_ret
    exact ⟨by simp_all, rfl⟩
theorem named_any (n : ByteArray) (w : World) (hn : n.size ≤ 9223372036854775807) :
    Calls Tryz.prog 43 #[.string n] w fun e w' => e = .returned (.bool (decide (Named n))) ∧ w = w' := by
  by_cases h1 : 1 ≤ n.size
  · have i1 : (1 : Int) ≤ (n.size : Int) := by omega
    by_cases h2 : n.size ≤ 32
    · have i2 : (n.size : Int) ≤ 32 := by omega
      rw [decide_eq_true (show Named n from ⟨h1, h2⟩)]
      go_enter Tryz.func43, Tryz.ntmps43
      go_wp2_with fail
      go_ret
      exact ⟨by simp_all, rfl⟩
    · have i2 : ¬ ((n.size : Int) ≤ 32) := by omega
      rw [decide_eq_false (show ¬ Named n from fun h => h2 h.2)]
      go_enter Tryz.func43, Tryz.ntmps43
      go_wp2_with fail
      go_ret
      exact ⟨by simp_all, rfl⟩
  · have i1 : ¬ ((1 : Int) ≤ (n.size : Int)) := by omega
    rw [decide_eq_false (show ¬ Named n from fun h => h1 h.1)]
    go_enter Tryz.func43, Tryz.ntmps43
    go_wp2_with fail
    go_ret
    exact ⟨by simp_all, rfl⟩

end Go.Proofs.YthhhocgpoenigaaGreat.Dsk

namespace Go.Proofs.YthhhocgpoenigaaGreat.Dsk
open Go.RowKit Go.Lib

/-- The cells of a file of noughts. -/
def noughts : List Value := [.string ⟨#[]⟩, .string ⟨#[]⟩, .int .i64 0]
theorem zero_fl : ∀ w, (zeroValue 81).run Tryz.prog w = .ok (.agg #[.string ⟨#[]⟩, .string ⟨#[]⟩, .int .i64 0]) w := fun w => by kernel_rfl

set_option maxHeartbeats 1600000 in
set_option maxRecDepth 100000 in
theorem del_row (n cap i j g : Nat) (cur : Array Value) (xs : List Value) (w : World) (hij : j = i + 1) (hj : j ≤ n) (hnc : n ≤ cap)
    (hg : w.heap[g]? = some (.cells cur 81 (0, 0))) (hs : cur.size = cap * 3) (ht : cur.toList.take (n * 3) = xs) (h1 : ∀ u ∈ xs, u.oneCell' = true) :
    Calls Tryz.prog 124 #[.slice (some ⟨g, 0, none⟩) n cap, .int .i64 (i : Int), .int .i64 (j : Int)] w fun e w' =>
      e = .returned (.slice (some ⟨g, 0, none⟩) (i + (n - j)) cap) ∧ w' = (w.drew.setCells g (i * 3) (xs.drop (j * 3))).setCells g ((i + (n - j)) * 3) noughts := by
  have mixed : Tryz.prog.follows Departure.mixedOrders = true := by kernel_rfl
  obtain ⟨i0, hi0, hz0, hz1, hz2⟩ := info_parts info_fl
  have hxl : xs.length = n * 3 := by rw [← ht, List.length_take, Array.length_toList]; omega
  obtain ⟨news, hnews⟩ : ∃ news, news = xs.drop (j * 3) := ⟨_, rfl⟩
  have hnl : news.length = (n - j) * 3 := by rw [hnews, List.length_drop, hxl]; omega
  have hgd : w.drew.heap[g]? = some (.cells cur 81 (0, 0)) := hg
  obtain ⟨A, hA, hsrc⟩ : ∃ A : Addr, (if cap = j then some (⟨g, 0, none⟩ : Addr) else some ⟨g, j * 3, none⟩) = some A ∧ Hid (∀ t u, news[t]? = some u → w.drew.cell? (A.add t) = some u) := by
    by_cases h : cap = j
    · refine ⟨⟨g, 0, none⟩, by simp [h], fun t u hu => ?_⟩
      have h0 : news.length = 0 := by rw [hnl]; omega
      rw [List.length_eq_zero_iff.1 h0] at hu
      simp at hu
    · refine ⟨⟨g, j * 3, none⟩, by simp [h], fun t u hu => ?_⟩
      rw [addr_plain]
      rw [hnews] at hu
      exact row_part hgd ht t u hu
  have s1 : Hid (news.length = (n - j) * 3) := hnl
  have s2 : Hid (∀ u ∈ news, u.oneCell' = true) := by
    intro u hu
    rw [hnews] at hu
    exact h1 u (List.mem_of_mem_drop hu)
  have s3 : Hid (∀ t, t < news.length → (w.drew.cell? ⟨g, 0 + i * 3 + t, none⟩).isSome = true ∧ w.drew.frozen? ⟨g, 0 + i * 3 + t, none⟩ = false) := by
    intro t htl
    rw [hnl] at htl
    exact row_some hgd _ (by omega)
  obtain ⟨W1, hW1⟩ : ∃ W1, W1 = w.drew.setCells g (i * 3) news := ⟨_, rfl⟩
  have hg1 : W1.heap[g]? = some (.cells (splice cur (i * 3) news) 81 (0, 0)) := by rw [hW1]; exact setCells_heap hgd (by rw [hnl]; omega)
  have hsz1 : (splice cur (i * 3) news).size = cap * 3 := by rw [splice_size (by rw [hnl]; omega)]; exact hs
  have hcl : ∀ ty c, (Builtin.clear_ #[25] ty #[.slice (some ⟨g, (i + (n - j)) * 3, none⟩) (n - (i + (n - j))) c]).run Tryz.prog W1 = .ok (.tuple #[]) (W1.setCells g ((i + (n - j)) * 3) noughts) := by
    intro ty c
    rw [show n - (i + (n - j)) = 1 from by omega]
    refine run_clear_one W1 _ _ ty _ noughts Tryz.underlying25 zero_fl (by kernel_rfl) (by intro v hv; simp [noughts] at hv; rcases hv with rfl | rfl | rfl <;> rfl) g _ c (fun t htl => ?_)
    have : noughts.length = 3 := rfl
    exact row_some hg1 _ (by omega)
  have hW : Hid (W1 = w.drew.setCells g (0 + i * 3) news) := by rw [Nat.zero_add]; exact hW1
  have HX : Hid (W1 = w.drew.setCells g (i * 3) (xs.drop (j * 3))) := by rw [← hnews]; exact hW1
  have hic : i ≤ cap := by omega
  have hjc : j ≤ cap := by omega
  have hlt : i < j := by omega
  have hne : ¬ ((i : Int) = (j : Int)) := by omega
  clear hij hW1 hg1 hgd hnews hnl ht hs hxl hg h1
  go_enter Tryz.func124, Tryz.ntmps124
  go_wp2_with fail
  go_region_law_o (refine step_append_room rfl (.tmp 22) (.tmp 25) 25 rfl 81 i0 3 Tryz.underlying25 hi0 hz1 g 0 i cap (by simp [Act.eval, Act.put]) A (n - j) (cap - j) news (by simp [Act.eval, Act.put]) s1.out hsrc.out s2.out (by omega) s3.out ?_; rw [← hW.out])
  go_wp2
  go_ret
  exact ⟨rfl, by rw [HX.out]⟩

end Go.Proofs.YthhhocgpoenigaaGreat.Dsk

namespace Go.Proofs.YthhhocgpoenigaaGreat.Dsk
open Go.RowKit Go.Lib

theorem del_any (l : List Dp.Fl) (base i : Nat) (v : Value) (w : World) (ho : OwnL FL w base v l) (hi : i < l.length) :
    Calls Tryz.prog 124 #[v, .int .i64 (i : Int), .int .i64 ((i : Int) + 1)] w (OutL FL w base (l.take i ++ l.drop (i + 1))) := by
  obtain ⟨g, cap, cur, rfl, hb, hg, hc, hm, hs, ht⟩ := own_open ho (by omega)
  refine (del_row l.length cap i (i + 1) g cur (FL.vals l) w rfl (by omega) hc hg hs ht (FL.vals_cells l)).mono ?_
  rintro e w' ⟨rfl, rfl⟩
  have hgd : w.drew.heap[g]? = some (.cells cur 81 (0, 0)) := hg
  have hD : ((FL.vals l).drop ((i + 1) * 3)).length = (l.length - (i + 1)) * 3 := by rw [List.length_drop, vals_len]; omega
  have h1 := setCells_heap (o := i * 3) (vs := (FL.vals l).drop ((i + 1) * 3)) hgd (by omega)
  have hz : noughts.length = 3 := rfl
  have hs1 := splice_size (cur := cur) (o := i * 3) (vs := (FL.vals l).drop ((i + 1) * 3)) (by omega)
  have h2 := setCells_heap (o := (i + (l.length - (i + 1))) * 3) (vs := noughts) h1 (by omega)
  have e1 : (l.take i ++ l.drop (i + 1)).length = i + (l.length - (i + 1)) := by simp; omega
  refine ⟨_, rfl, ?_, (bel_setCells hb _ _ w.drew).trans (bel_setCells hb _ _ _) |> fun h => ⟨h.os, h.tape, h.output, h.size, h.block⟩⟩
  rw [← e1]
  refine own_mk hb (by rw [e1]; exact h2) (by omega) hm (by rw [splice_size (by omega), hs1]; exact hs) ?_
  rw [e1, splice_front (by omega) _ (Nat.le_refl _), splice_take (by omega) _ (by omega), FL.vals_append, ← vals_take, ← vals_drop, ← ht, List.take_take, Nat.min_eq_left (by omega)]

set_option maxHeartbeats 1600000 in
set_option maxRecDepth 100000 in
theorem ins_end (l : List Dp.Fl) (base : Nat) (v : Value) (f : Dp.Fl) (vb : Nat) (w : World) (ho : OwnL FL w base v l) (hl : l.length ≤ 1000000000) (hbw : base ≤ w.heap.size)
    (hv : w.heap[vb]? = some (.cells (flCells f).toArray 81 (0, 0))) :
    Calls Tryz.prog 118 #[v, .int .i64 (l.length : Int), .slice (some ⟨vb, 0, none⟩) 1 1] w (OutL FL w base (l ++ [f])) := by
  obtain ⟨i0, hi0, hz0, hz1, hz2⟩ := info_parts info_fl
  have HO := Lib.hid ho
  have HF : Hid (∀ v' w3, w3.ownsRow base 81 3 v' (l.length + 1) (FL.vals l ++ (flCells f)) → w.grownBy w3 v.ownBlock → OutL FL w base (l ++ [f]) (.returned v') w3) := by
    intro v' w3 h hg
    refine OutL.mk ?_ ((Below.refl _ _).grown hg hbw (fun q hq => (World.ownsRow.lt HO.out q hq).1))
    unfold OwnL
    rw [vals_snoc, List.length_append]
    exact h
  have hnews : Hid (∀ (j : Nat) (u : Value), (flCells f)[j]? = some u → w.cell? ((⟨vb, 0, none⟩ : Addr).add j) = some u) := by
    intro j u h
    rw [addr_plain, row_cell hv]
    simpa using h
  rcases ho.2 with ⟨rfl, h0⟩ | ⟨g, cap, cur, rfl, hb, hg, hc, hm, hs, ht⟩
  · have hl0 : l.length = 0 := h0
    have HO' : Hid (w.ownsRow base 81 3 (.slice none 0 0) l.length (FL.vals l)) := HO
    have H1n := Lib.hid (show ∀ u ∈ flCells f, u.oneCell' = true from FL.one f)
    have H3n := Lib.hid (flCells_len f)
    generalize FL.vals l = xs at *
    generalize flCells f = fc at *
    generalize l.length = len at *
    subst h0
    clear ho HO
    go_enter Tryz.func118, Tryz.ntmps118
    go_wp2_with (at_builtin; refine wpList_append_own _ rfl _ _ 25 rfl base 81 i0 (.agg #[.string ByteArray.empty, .string ByteArray.empty, .int .i64 0]) 3 40 Tryz.underlying25 hi0 hz0 hz1 hz2 rfl (by decide) _ _ _ rfl HO'.out ⟨vb, 0, none⟩ 1 1 fc rfl H3n.out hnews.out H1n.out (by unfold maxLen; omega) (by omega) hbw ?_; intro v' w3 hown' hgrow3 hnil3)
    go_ret
    exact HF.out v' w3 hown' hgrow3
  · have HO' : Hid (w.ownsRow base 81 3 (.slice (some ⟨g, 0, none⟩) l.length cap) l.length (FL.vals l)) := HO
    have H1n := Lib.hid (show ∀ u ∈ flCells f, u.oneCell' = true from FL.one f)
    have H3n := Lib.hid (flCells_len f)
    generalize FL.vals l = xs at *
    generalize flCells f = fc at *
    generalize l.length = len at *
    clear ho HO ht hg hs
    unfold maxLen at hm
    go_enter Tryz.func118, Tryz.ntmps118
    go_wp2_with (at_builtin; refine wpList_append_own _ rfl _ _ 25 rfl base 81 i0 (.agg #[.string ByteArray.empty, .string ByteArray.empty, .int .i64 0]) 3 40 Tryz.underlying25 hi0 hz0 hz1 hz2 rfl (by decide) _ _ _ rfl HO'.out ⟨vb, 0, none⟩ 1 1 fc rfl H3n.out hnews.out H1n.out (by unfold maxLen; omega) (by omega) hbw ?_; intro v' w3 hown' hgrow3 hnil3)
    all_goals
      go_ret
      exact HF.out v' w3 hown' hgrow3

theorem mixed_fl : Tryz.prog.follows Departure.mixedOrders = true := by kernel_rfl
theorem size_fl : (Tryz.prog.info? 81).map (·.size) = some 3 := by kernel_rfl

set_option maxHeartbeats 4000000 in
set_option maxRecDepth 100000 in
theorem ins_shift (n cap i m g vb : Nat) (cur : Array Value) (xs vs : List Value) (w : World) (hm1 : m = 1) (hi : i < n) (hroom : n + m ≤ cap) (hc63 : cap ≤ 9223372036854775807) (hvb : vb ≠ g)
    (hg : w.heap[g]? = some (.cells cur 81 (0, 0))) (hs : cur.size = cap * 3) (ht : cur.toList.take (n * 3) = xs) (h1 : ∀ u ∈ xs, u.oneCell' = true)
    (hv : w.heap[vb]? = some (.cells vs.toArray 81 (0, 0))) (hvl : vs.length = 3) (h1v : ∀ u ∈ vs, u.oneCell' = true) :
    Calls Tryz.prog 118 #[.slice (some ⟨g, 0, none⟩) n cap, .int .i64 (i : Int), .slice (some ⟨vb, 0, none⟩) m m] w fun e w' =>
      e = .returned (.slice (some ⟨g, 0, none⟩) (n + m) cap) ∧ w' = (w.drew.setCells g ((i + m) * 3) (xs.drop (i * 3))).setCells g (i * 3) vs := by
  have mixed := mixed_fl
  have hxl : xs.length = n * 3 := by rw [← ht, List.length_take, Array.length_toList]; omega
  have hdl : (xs.drop (i * 3)).length = (n - i) * 3 := by rw [List.length_drop, hxl]; omega
  have hgd : w.drew.heap[g]? = some (.cells cur 81 (0, 0)) := hg
  have hov : ∀ lb cb, (callFunc 139 #[.slice (some ⟨vb, 0, none⟩) m m, .slice (some ⟨g, (i + m) * 3, none⟩) lb cb]).run Tryz.prog w = .ok (.value (.bool false)) w := fun lb cb => by
    rw [run_callFunc_extern Tryz.func139 (by kernel_rfl) (by kernel_rfl) (by kernel_rfl) (e := Extern.SlicesOverlaps.overlaps #[25, 25] #[4]) (by kernel_rfl),
      Lib.run_overlaps_apart w 25 4 81 Tryz.underlying25 3 (fun w => by kernel_rfl) ⟨vb, 0, none⟩ ⟨g, (i + m) * 3, none⟩ m m lb cb hvb _ _ _ _ (shape_row hv) (shape_row hg) (by rw [hs]; omega) (frozen_of_row w vb 0 _ _ hv) (frozen_of_row w vb _ _ _ hv)]
    rfl
  have hcp1 : ∀ ty dc sc, (Builtin.copy_ #[25, 25] ty #[.slice (some ⟨g, (i + m) * 3, none⟩) (n + m - (i + m)) dc, .slice (some ⟨g, i * 3, none⟩) (n + m - i) sc]).run Tryz.prog w.drew = .ok (goInt ((n - i : Nat) : Int)) (w.drew.setCells g ((i + m) * 3) (xs.drop (i * 3))) := by
    intro ty dc sc
    have e : Nat.min (n + m - i) (n + m - (i + m)) = n - i := by show min _ _ = _; omega
    have := run_copy_wide (P := Tryz.prog) w.drew 25 25 ty 81 3 g ((i + m) * 3) (n + m - (i + m)) dc ⟨g, i * 3, none⟩ (n + m - i) sc (xs.drop (i * 3)) Tryz.underlying25 size_fl (by rw [e, hdl])
      (fun j v hj => by rw [addr_plain]; exact row_part hgd ht j v hj) (fun j hj => row_some hgd _ (by omega)) (fun u hu => h1 u (List.mem_of_mem_drop hu))
    rw [e] at this
    exact this
  obtain ⟨W1, hW1⟩ : ∃ W1, W1 = w.drew.setCells g ((i + m) * 3) (xs.drop (i * 3)) := ⟨_, rfl⟩
  have hg1 : W1.heap[g]? = some (.cells (splice cur ((i + m) * 3) (xs.drop (i * 3))) 81 (0, 0)) := by rw [hW1]; exact setCells_heap hgd (by omega)
  have hsz1 : (splice cur ((i + m) * 3) (xs.drop (i * 3))).size = cap * 3 := by rw [splice_size (by omega)]; exact hs
  have hv1 : W1.heap[vb]? = some (.cells vs.toArray 81 (0, 0)) := by
    rw [hW1, setCells_row g _ _ _ cur w.drew hgd (by omega), setRow_other _ _ _ _ hvb]
    exact hv
  have hcp2 : ∀ (W : World), W.heap = W1.heap → ∀ ty dc, (Builtin.copy_ #[25, 25] ty #[.slice (some ⟨g, i * 3, none⟩) (n + m - i) dc, .slice (some ⟨vb, 0, none⟩) m m]).run Tryz.prog W = .ok (goInt m) (W.setCells g (i * 3) vs) := by
    intro W hW ty dc
    have e : Nat.min m (n + m - i) = m := by show min _ _ = _; omega
    rw [← hW] at hg1 hv1
    have := run_copy_wide (P := Tryz.prog) W 25 25 ty 81 3 g (i * 3) (n + m - i) dc ⟨vb, 0, none⟩ m m vs Tryz.underlying25 size_fl (by rw [e, hvl]; omega)
      (fun j v hj => by rw [addr_plain, row_cell hv1]; simpa using hj) (fun j hj => row_some hg1 _ (by omega)) h1v
    rw [e] at this
    exact this
  have hm0 : 0 < m := by omega
  have hz1 : ¬ ((m : Int) = 0) := by omega
  have hz2 : ¬ ((i : Int) = (n : Int)) := by omega
  have hw1 : IntKind.i64.wrap ((i : Int) + (m : Int)) = (i : Int) + (m : Int) := by rw [IntKind.wrap_i64]; omega
  have hb1 : (0 : Int) ≤ (i : Int) + (m : Int) := by omega
  have hin : i ≤ n := by omega
  have htn : ((i : Int) + (m : Int)).toNat = i + m := by omega
  have hb2 : ¬ (cap = i + m) := by omega
  have hb3 : (i : Int) ≤ (n : Int) + (m : Int) := by omega
  have hb4 : ¬ (cap = i) := by omega
  have HW1 : Hid (W1 = w.drew.setCells g ((i + m) * 3) (xs.drop (i * 3))) := hW1
  rw [← hW1] at hcp1
  clear hg1 hsz1 hv1 hgd hg hv h1 h1v hvl hxl hdl ht hs hm1 hW1
  go_enter Tryz.func118, Tryz.ntmps118
  go_wp2_with (simp only [hov])
  go_region_law_o (refine step_copy_runI rfl _ _ 25 25 rfl _ _ (by simp [Act.eval, Act.put]) (by simp [Act.eval, Act.put]) (hcp1 _ _ _) ?_)
  go_wp2_with (at_builtin; refine wpList_copy_runI _ rfl _ _ 25 25 rfl _ _ rfl rfl (hcp2 _ rfl _ _) ?_)
  go_ret
  exact ⟨rfl, by rw [HW1.out]⟩

set_option maxHeartbeats 4000000 in
set_option maxRecDepth 100000 in
theorem ins_grow (n cap i m g vb : Nat) (cur : Array Value) (xs vs : List Value) (w : World) (hm1 : m = 1) (hi : i < n) (hnc : n ≤ cap) (hroom : cap < n + m) (hn : n ≤ 1000000000)
    (hg : w.heap[g]? = some (.cells cur 81 (0, 0))) (hs : cur.size = cap * 3) (ht : cur.toList.take (n * 3) = xs) (h1 : ∀ u ∈ xs, u.oneCell' = true)
    (hv : w.heap[vb]? = some (.cells vs.toArray 81 (0, 0))) (hvl : vs.length = 3) (h1v : ∀ u ∈ vs, u.oneCell' = true) :
    Calls Tryz.prog 118 #[.slice (some ⟨g, 0, none⟩) n cap, .int .i64 (i : Int), .slice (some ⟨vb, 0, none⟩) m m] w fun e w' =>
      ∃ (G : Nat) (ROW : Array Value), n + m ≤ G ∧ G ≤ maxLen ∧ ROW.size = G * 3 ∧ ROW.toList.take (i * 3) = xs.take (i * 3) ∧ e = .returned (.slice (some ⟨w.heap.size, 0, none⟩) (n + m) G) ∧
      w' = (((w.alloc (.cells ROW 81)).drew.setCells w.heap.size (i * 3) vs).drew).setCells w.heap.size ((i + m) * 3) (xs.drop (i * 3)) := by
  have mixed := mixed_fl
  obtain ⟨i0, hi0, hz0, hzs, hzb⟩ := info_parts info_fl
  have hxl : xs.length = n * 3 := by rw [← ht, List.length_take, Array.length_toList]; omega
  have hdl : (xs.drop (i * 3)).length = (n - i) * 3 := by rw [List.length_drop, hxl]; omega
  have hbw : g < w.heap.size := (Array.getElem?_eq_some_iff.1 hg).1
  have hvw : vb < w.heap.size := (Array.getElem?_eq_some_iff.1 hv).1
  have hkk : (n : Int) + (m : Int) - (i : Int) = ((n + m - i : Nat) : Int) := by omega
  have hik : i + (n + m - i) = n + m := by omega
  have hold : (Builtin.firstCells i0.size i (.slice (some ⟨g, 0, none⟩) i cap)).run Tryz.prog w.drew = .ok (xs.take (i * 3)).toArray w.drew := by
    rw [hzs]
    refine run_firstCells_some w.drew 3 i ⟨g, 0, none⟩ i cap (xs.take (i * 3)) (by rw [List.length_take]; omega) (fun j v hj => ?_)
    rw [addr_plain]
    rw [List.getElem?_take] at hj
    split at hj
    · exact row_part (w := w.drew) (o := 0) hg ht j v (by simpa using hj)
    · cases hj
  obtain ⟨G, hG⟩ : ∃ G, G = grownCap w (n + m) cap 81 := ⟨_, rfl⟩
  have hGn : n + m ≤ G := by rw [hG]; exact grownCap_ge w _ _ _
  have hGm : G ≤ maxLen := by rw [hG]; exact grownCap_le_maxLen w (n + m) cap _ (by unfold maxLen; omega)
  obtain ⟨ROW, hROW⟩ : ∃ ROW : Array Value, ROW = (xs.take (i * 3)).toArray ++ Builtin.zeroCells (Value.agg #[.string ByteArray.empty, .string ByteArray.empty, .int .i64 0]).cells (n + m - i) ++ Builtin.zeroCells (Value.agg #[.string ByteArray.empty, .string ByteArray.empty, .int .i64 0]).cells (G - (n + m)) := ⟨_, rfl⟩
  have hzc : (Value.agg #[.string ByteArray.empty, .string ByteArray.empty, .int .i64 0]).cells.size = 3 := rfl
  have hRs : ROW.size = G * 3 := by
    rw [hROW]
    simp only [Array.size_append, List.size_toArray, List.length_take, size_zeroCells, hzc, hxl]
    omega
  have hRt : ROW.toList.take (i * 3) = xs.take (i * 3) := by
    rw [hROW]
    simp only [Array.toList_append, List.append_assoc]
    exact List.take_left' (by rw [List.length_take, hxl]; omega)
  have hrz : ∀ ty, (Builtin.append_ #[25, 3] ty #[.slice (some ⟨g, 0, none⟩) i cap, .int .i64 ((n : Int) + (m : Int) - (i : Int))]).run Tryz.prog w =
      .ok (.slice (some ⟨w.heap.size, 0, none⟩) (n + m) G) (w.drew.alloc (.cells ROW 81)) := fun ty => by
    have h := Lib.run_append_grow_zeros w 25 3 ty 81 i0 _ .i64 .i64 Tryz.underlying25 Tryz.underlying3 hi0 hz0 (some ⟨g, 0, none⟩) i cap (xs.take (i * 3)) hold (n + m - i) (by omega) (by omega) (by omega) (by omega) (by rw [hzb]; omega) (by rw [hzb, hik]; exact growslice_fits hroom (by omega))
    rw [hik, ← hG, ← hROW] at h
    rw [hkk]
    exact h
  have HP : Hid (n + m ≤ G ∧ G ≤ maxLen ∧ ROW.size = G * 3 ∧ ROW.toList.take (i * 3) = xs.take (i * 3)) := ⟨hGn, hGm, hRs, hRt⟩
  obtain ⟨W1, hW1⟩ : ∃ W1, W1 = w.drew.alloc (.cells ROW 81) := ⟨_, rfl⟩
  have hN : W1.heap[w.heap.size]? = some (.cells ROW 81 (0, 0)) := by rw [hW1]; exact heap_alloc_new w.drew _
  have hO : ∀ b, b < w.heap.size → W1.heap[b]? = w.heap[b]? := fun b hb => by rw [hW1]; exact Below.heap_alloc w.drew _ b hb
  have hcpA : ∀ (W : World), W.heap = W1.heap → ∀ ty dc, (Builtin.copy_ #[25, 25] ty #[.slice (some ⟨w.heap.size, i * 3, none⟩) (n + m - i) dc, .slice (some ⟨vb, 0, none⟩) m m]).run Tryz.prog W = .ok (goInt m) (W.setCells w.heap.size (i * 3) vs) := by
    intro W hW ty dc
    have e : Nat.min m (n + m - i) = m := by show min _ _ = _; omega
    have hN' := hN
    have hv' := (hO vb hvw).trans hv
    rw [← hW] at hN' hv'
    have := run_copy_wide (P := Tryz.prog) W 25 25 ty 81 3 w.heap.size (i * 3) (n + m - i) dc ⟨vb, 0, none⟩ m m vs Tryz.underlying25 size_fl (by rw [e, hvl]; omega)
      (fun j v hj => by rw [addr_plain, row_cell hv']; simpa using hj) (fun j hj => row_some hN' _ (by omega)) h1v
    rw [e] at this
    exact this
  have hGi : ¬ (G = i) := by omega
  have hGim : ¬ (G = i + m) := by omega
  have hci : ¬ (cap = i) := by omega
  have hcpB : ∀ (W : World), W.heap = (W1.setCells w.heap.size (i * 3) vs).heap → ∀ ty dc sc, (Builtin.copy_ #[25, 25] ty #[.slice (some ⟨w.heap.size, (i + m) * 3, none⟩) (n + m - (i + m)) dc, .slice (some ⟨g, i * 3, none⟩) (n - i) sc]).run Tryz.prog W = .ok (goInt ((n - i : Nat) : Int)) (W.setCells w.heap.size ((i + m) * 3) (xs.drop (i * 3))) := by
    intro W hW ty dc sc
    have e : Nat.min (n - i) (n + m - (i + m)) = n - i := by show min _ _ = _; omega
    have hN' := setCells_heap (o := i * 3) (vs := vs) hN (by omega)
    have hsz' := splice_size (cur := ROW) (o := i * 3) (vs := vs) (by omega)
    have hg' : (W1.setCells w.heap.size (i * 3) vs).heap[g]? = some (.cells cur 81 (0, 0)) := by
      rw [setCells_row _ _ _ _ ROW W1 hN (by omega), setRow_other _ _ _ _ (by omega)]
      exact (hO g hbw).trans hg
    rw [← hW] at hN' hg'
    have := run_copy_wide (P := Tryz.prog) W 25 25 ty 81 3 w.heap.size ((i + m) * 3) (n + m - (i + m)) dc ⟨g, i * 3, none⟩ (n - i) sc (xs.drop (i * 3)) Tryz.underlying25 size_fl (by rw [e, hdl])
      (fun j v hj => by rw [addr_plain]; exact row_part hg' ht j v hj) (fun j hj => row_some hN' _ (by omega)) (fun u hu => h1 u (List.mem_of_mem_drop hu))
    rw [e] at this
    exact this
  subst hW1
  have hE1 : ((w.alloc (.cells ROW 81)).drew).heap = (w.drew.alloc (.cells ROW 81)).heap := rfl
  have hF1 : (((w.alloc (.cells ROW 81)).drew.setCells w.heap.size (i * 3) vs).drew).heap = ((w.drew.alloc (.cells ROW 81)).setCells w.heap.size (i * 3) vs).heap := rfl
  have hm0 : 0 < m := by omega
  have hz1 : ¬ ((m : Int) = 0) := by omega
  have hz2 : ¬ ((i : Int) = (n : Int)) := by omega
  have hz3 : (cap : Int) < (n : Int) + (m : Int) := by omega
  have hw1 : IntKind.i64.wrap ((i : Int) + (m : Int)) = (i : Int) + (m : Int) := by rw [IntKind.wrap_i64]; omega
  have hb1 : (0 : Int) ≤ (i : Int) + (m : Int) := by omega
  have hin : i ≤ n := by omega
  have htn : ((i : Int) + (m : Int)).toNat = i + m := by omega
  have hb3 : (i : Int) ≤ (n : Int) := by omega
  have hG63 : G ≤ 9223372036854775807 := by unfold maxLen at hGm; omega
  clear hkk hik hold hROW hG hRs hRt hg hv h1 h1v hvl hxl hdl ht hs hm1 hN hO hGm hzc
  go_enter Tryz.func118, Tryz.ntmps118
  go_wp2_with (first
    | (at_builtin; refine Lib.wpList_append_run _ rfl _ _ _ _ rfl _ _ rfl rfl _ _ (hrz _) ?_)
    | (at_builtin; refine wpList_copy_runI _ rfl _ _ 25 25 rfl _ _ rfl rfl (hcpA _ hE1 _ _) ?_)
    | (at_builtin; refine wpList_copy_runI _ rfl _ _ 25 25 rfl _ _ rfl rfl (hcpB _ rfl _ _ _) ?_))
  go_region_law_o (refine step_copy_runI rfl _ _ 25 25 rfl (.slice (some ⟨w.heap.size, (i + m) * 3, none⟩) (n + m - (i + m)) (G - (i + m))) (.slice (some ⟨g, i * 3, none⟩) (n - i) (cap - i)) (by simp [Act.eval, Act.put]) (by simp [Act.eval, Act.put]) (hcpB _ hF1 3 (G - (i + m)) (cap - i)) ?_)
  go_wp2
  go_ret
  exact ⟨G, ROW, HP.out.1, HP.out.2.1, HP.out.2.2.1, HP.out.2.2.2, rfl, rfl⟩

/-- slices.Insert of one pair, at any place of a state of the call's own. -/
theorem ins_any (l : List Dp.Fl) (base i : Nat) (v : Value) (f : Dp.Fl) (vb : Nat) (w : World) (ho : OwnL FL w base v l) (hi : i ≤ l.length) (hl : l.length ≤ 1000000000) (hbw : base ≤ w.heap.size)
    (hv : w.heap[vb]? = some (.cells (flCells f).toArray 81 (0, 0))) (hvo : v.ownBlock ≠ some vb) :
    Calls Tryz.prog 118 #[v, .int .i64 (i : Int), .slice (some ⟨vb, 0, none⟩) 1 1] w (OutL FL w base (l.take i ++ [f] ++ l.drop i)) := by
  rcases Nat.lt_or_ge i l.length with h | h
  · obtain ⟨g, cap, cur, rfl, hb, hg, hc, hm, hs, ht⟩ := own_open ho (by omega)
    have hvb : vb ≠ g := fun e => hvo (by rw [e]; rfl)
    have e1 : (l.take i ++ [f] ++ l.drop i).length = l.length + 1 := by simp; omega
    have e2 : FL.vals (l.take i ++ [f] ++ l.drop i) = (FL.vals l).take (i * 3) ++ (flCells f) ++ (FL.vals l).drop (i * 3) := by rw [FL.vals_append, FL.vals_append, ← vals_take, ← vals_drop]; rfl
    have hD : ((FL.vals l).drop (i * 3)).length = (l.length - i) * 3 := by rw [List.length_drop, vals_len]; omega
    have h1v : ∀ u ∈ flCells f, u.oneCell' = true := FL.one f
    rcases Nat.lt_or_ge cap (l.length + 1) with hr | hr
    · refine (ins_grow l.length cap i 1 g vb cur (FL.vals l) (flCells f) w rfl h hc hr hl hg hs ht (FL.vals_cells l) hv rfl h1v).mono ?_
      rintro e w' ⟨G, ROW, hG, hGm, hRs, hRt, rfl, rfl⟩
      have h0 : ((w.alloc (.cells ROW 81)).drew).heap[w.heap.size]? = some (.cells ROW 81 (0, 0)) := heap_alloc_new w _
      have h1 := setCells_heap (o := i * 3) (vs := (flCells f)) h0 (by simp; omega)
      have h1' : (((w.alloc (.cells ROW 81)).drew.setCells w.heap.size (i * 3) (flCells f)).drew).heap[w.heap.size]? = some (.cells (splice ROW (i * 3) (flCells f)) 81 (0, 0)) := h1
      have hs1 := splice_size (cur := ROW) (o := i * 3) (vs := (flCells f)) (by simp; omega)
      have h2 := setCells_heap (o := (i + 1) * 3) (vs := (FL.vals l).drop (i * 3)) h1' (by omega)
      refine OutL.mk ?_ ?_
      · rw [← e1]
        refine own_mk hbw h2 (by rw [e1]; exact hG) hGm (by rw [splice_size (by omega), hs1]; exact hRs) ?_
        rw [e1, splice_two' (by simp; omega) (by omega) _ (by omega), hRt, e2]
      · exact (((Below.refl _ w).alloc hbw _).drew.trans (bel_setCells hbw _ _ _)).drew.trans (bel_setCells hbw _ _ _)
    · refine (ins_shift l.length cap i 1 g vb cur (FL.vals l) (flCells f) w rfl h hr (by unfold maxLen at hm; omega) hvb hg hs ht (FL.vals_cells l) hv rfl h1v).mono ?_
      rintro e w' ⟨rfl, rfl⟩
      have h0 : w.drew.heap[g]? = some (.cells cur 81 (0, 0)) := hg
      have h1 := setCells_heap (o := (i + 1) * 3) (vs := (FL.vals l).drop (i * 3)) h0 (by omega)
      have hs1 := splice_size (cur := cur) (o := (i + 1) * 3) (vs := (FL.vals l).drop (i * 3)) (by omega)
      have h2 := setCells_heap (o := i * 3) (vs := (flCells f)) h1 (by simp; omega)
      refine OutL.mk ?_ ?_
      · rw [← e1]
        refine own_mk hb h2 (by rw [e1]; exact hr) hm (by rw [splice_size (by simp; omega), hs1]; exact hs) ?_
        rw [e1, splice_two (by simp; omega) (by omega) _ (by omega), e2, ← ht, List.take_take, Nat.min_eq_left (by omega)]
      · exact ((Below.refl _ w).drew.trans (bel_setCells hb _ _ _)).trans (bel_setCells hb _ _ _)
  · obtain rfl : i = l.length := by omega
    have e : l.take l.length ++ [f] ++ l.drop l.length = l ++ [f] := by simp
    rw [e]
    exact ins_end l base v f vb w ho hl hbw hv

end Go.Proofs.YthhhocgpoenigaaGreat.Dsk
