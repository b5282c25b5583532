/-
  What the search for a name answers; nothing that was there is changed.
-/
import Derived.Test.YtbkiecjbjehaoaaFileVal
import Derived.Deep.QuietTactic
import Derived.BigQuiet
import Derived.IntWalk
import Derived.Lib.Bytealg
namespace Go.Proofs.Ytbkiecjbjehaoaa.Dp

/-- How two names stand to one another. -/
def cmp (a b : ByteArray) : Int := Go.Lib.compareBytes a.data.toList b.data.toList
theorem cmpL3 : ∀ (a b : List UInt8), (Go.Lib.compareBytes a b = -1 ∧ a < b) ∨ (Go.Lib.compareBytes a b = 0 ∧ a = b) ∨ (Go.Lib.compareBytes a b = 1 ∧ b < a)
  | [], [] => .inr (.inl ⟨rfl, rfl⟩)
  | [], _ :: _ => .inl ⟨rfl, List.nil_lt_cons ..⟩
  | _ :: _, [] => .inr (.inr ⟨rfl, List.nil_lt_cons ..⟩)
  | a :: xs, b :: ys => by
    unfold Go.Lib.compareBytes
    by_cases h1 : a < b
    · exact .inl ⟨by rw [if_pos h1], List.cons_lt_cons_iff.2 (.inl h1)⟩
    · by_cases h2 : b < a
      · exact .inr (.inr ⟨by rw [if_neg h1, if_pos h2], List.cons_lt_cons_iff.2 (.inl h2)⟩)
      · have e : a = b := UInt8.le_antisymm (UInt8.not_lt.1 h2) (UInt8.not_lt.1 h1)
        rw [if_neg h1, if_neg h2]
        rcases cmpL3 xs ys with ⟨h, k⟩ | ⟨h, k⟩ | ⟨h, k⟩
        · exact .inl ⟨h, List.cons_lt_cons_iff.2 (.inr ⟨e, k⟩)⟩
        · exact .inr (.inl ⟨h, by rw [e, k]⟩)
        · exact .inr (.inr ⟨h, List.cons_lt_cons_iff.2 (.inr ⟨e.symm, k⟩)⟩)
theorem cmp3 (a b : ByteArray) : (cmp a b = -1 ∧ Lt a b) ∨ (cmp a b = 0 ∧ a = b) ∨ (cmp a b = 1 ∧ Lt b a) := by
  rcases cmpL3 a.data.toList b.data.toList with h | h | h
  · exact .inl h
  · exact .inr (.inl ⟨h.1, ext_iff.2 h.2⟩)
  · exact .inr (.inr h)

/-- Where a name stands. -/
structure FoundF (l : List Fl) (c : ByteArray) (i : Nat) (b : Bool) : Prop where
  le : i ≤ l.length
  lt : ∀ j (hj : j < l.length), j < i → Lt (l[j]).n c
  ge : ∀ j (hj : j < l.length), i ≤ j → ¬ Lt (l[j]).n c
  hit : b = true → ∃ h : i < l.length, (l[i]).n = c
  miss : b = false → ∀ h : i < l.length, (l[i]).n ≠ c
theorem Up.at {l : List Fl} (h : Up l) {i j : Nat} (hj : j < l.length) (hi : i < j) : Lt (l[i]).n (l[j]).n := List.pairwise_iff_getElem.1 h i j (by omega) hj hi
/-- What the search knows: up to lo all names are less, from hi on none is. -/
structure Between (l : List Fl) (c : ByteArray) (lo hi : Nat) : Prop where
  le : lo ≤ hi
  ln : hi ≤ l.length
  lt : ∀ j (hj : j < l.length), j < lo → Lt (l[j]).n c
  ge : ∀ j (hj : j < l.length), hi ≤ j → ¬ Lt (l[j]).n c
theorem Between.start (l : List Fl) (c : ByteArray) : Between l c 0 l.length := ⟨Nat.zero_le _, Nat.le_refl _, fun _ _ h => absurd h (Nat.not_lt_zero _), fun j hj h => by omega⟩
theorem getD_fl {l : List Fl} {k : Nat} {z : Fl} (h : k < l.length) : l.getD k z = l[k] := by simp [List.getD_eq_getElem?_getD, h]
theorem Between.up {l : List Fl} {c : ByteArray} {lo hi m : Nat} {z : Fl} (h : Between l c lo hi) (hu : Up l) (h2 : m < hi) (hm : Lt (l.getD m z).n c) : Between l c (m + 1) hi := by
  refine ⟨h2, h.ln, fun j hj hjm => ?_, h.ge⟩
  have h3 := h.ln
  rw [getD_fl (by omega)] at hm
  rcases Nat.lt_or_ge j m with h4 | h4
  · exact (hu.at (show m < l.length by omega) h4).trans hm
  · obtain rfl : j = m := by omega
    exact hm
theorem Between.down {l : List Fl} {c : ByteArray} {lo hi m : Nat} {z : Fl} (h : Between l c lo hi) (hu : Up l) (h1 : lo ≤ m) (h2 : m < hi) (hm : ¬ Lt (l.getD m z).n c) : Between l c lo m := by
  have h3 := h.ln
  refine ⟨h1, by omega, h.lt, fun j hj hjm => ?_⟩
  rw [getD_fl (by omega)] at hm
  rcases Nat.lt_or_ge m j with h4 | h4
  · exact fun k => hm ((hu.at hj h4).trans k)
  · obtain rfl : j = m := by omega
    exact hm
theorem Between.hit {l : List Fl} {c : ByteArray} {i : Nat} {z : Fl} (h : Between l c i i) (hi : i < l.length) (hm : (l.getD i z).n = c) : FoundF l c i true := by
  rw [getD_fl hi] at hm
  exact ⟨h.ln, h.lt, h.ge, fun _ => ⟨hi, hm⟩, fun h0 => by cases h0⟩
theorem Between.miss {l : List Fl} {c : ByteArray} {i : Nat} {z : Fl} (h : Between l c i i) (hm : i < l.length → (l.getD i z).n ≠ c) : FoundF l c i false := by
  refine ⟨h.ln, h.lt, h.ge, fun h0 => (by cases h0), fun _ hi he => hm hi ?_⟩
  rw [getD_fl hi, he]

/-- The parts ahead of and behind a place. -/
theorem FoundF.parts {l : List Fl} {c : ByteArray} {i : Nat} {b : Bool} (h : FoundF l c i b) (hu : Up l) :
    (∀ f ∈ l.take i, Lt f.n c) ∧ (∀ f ∈ l.drop i, ¬ Lt f.n c) ∧ (∀ f ∈ l.drop (i + 1), Lt c f.n) ∧ (b = false → ∀ f ∈ l.drop i, Lt c f.n) := by
  refine ⟨fun f hf => ?_, fun f hf => ?_, fun f hf => ?_, fun hb f hf => ?_⟩
  · obtain ⟨j, hj, rfl⟩ := List.mem_take_iff_getElem.1 hf
    exact h.lt j (by omega) (by omega)
  · obtain ⟨j, hj, rfl⟩ := List.mem_drop_iff_getElem.1 hf
    exact h.ge _ (by omega) (by omega)
  · obtain ⟨j, hj, rfl⟩ := List.mem_drop_iff_getElem.1 hf
    have hg := h.ge i (by omega) (Nat.le_refl _)
    have ha := hu.at (i := i) (j := i + 1 + j) (by omega) (by omega)
    rcases lt_tri (l[i]'(by omega)).n c with k | k | k
    · exact absurd k hg
    · rw [← k]; exact ha
    · exact k.trans ha
  · obtain ⟨j, hj, rfl⟩ := List.mem_drop_iff_getElem.1 hf
    have hg := h.ge i (by omega) (Nat.le_refl _)
    have hi : Lt c (l[i]'(by omega)).n := by
      rcases lt_tri (l[i]'(by omega)).n c with k | k | k
      · exact absurd k hg
      · exact absurd k (h.miss hb _)
      · exact k
    by_cases h0 : j = 0
    · subst h0; exact hi
    · exact hi.trans (hu.at (i := i) (j := i + j) (by omega) (by omega))
theorem filter_all {l : List Fl} {p : Fl → Bool} (h : ∀ f ∈ l, p f = true) : l.filter p = l := List.filter_eq_self.2 h
theorem filter_no {l : List Fl} {p : Fl → Bool} (h : ∀ f ∈ l, p f = false) : l.filter p = [] := List.filter_eq_nil_iff.2 (fun f hf => by rw [h f hf]; decide)
theorem FoundF.get {l : List Fl} {c : ByteArray} {i : Nat} {b : Bool} (h : FoundF l c i b) (hu : Up l) (z : Fl) : get l c = if b then some (l.getD i z) else none := by
  rcases b with _ | _
  · refine get_none.2 fun f hf he => ?_
    rw [← List.take_append_drop i l] at hf
    rcases List.mem_append.1 hf with k | k
    · exact ((h.parts hu).1 f k).ne he
    · exact ((h.parts hu).2.2.2 rfl f k).ne he.symm
  · obtain ⟨hi, he⟩ := h.hit rfl
    rw [getD_fl hi]
    have := get_of hu (List.getElem_mem hi)
    rw [he] at this
    simpa using this
/-- The list is what is ahead of the place, the file there, what is behind. -/
theorem split_at {l : List Fl} {i : Nat} (h : i < l.length) (z : Fl) : l = l.take i ++ [l.getD i z] ++ l.drop (i + 1) := by
  rw [getD_fl h, List.append_assoc, List.singleton_append, ← List.drop_eq_getElem_cons h, List.take_append_drop]
theorem FoundF.with_hit {l : List Fl} {c : ByteArray} {i : Nat} (h : FoundF l c i true) (hu : Up l) {f : Fl} (hf : f.n = c) : withF l f = l.take i ++ [f] ++ l.drop (i + 1) := by
  obtain ⟨hi, he⟩ := h.hit rfl
  obtain ⟨p1, _, p3, _⟩ := h.parts hu
  have e := split_at hi (l[i])
  unfold withF
  rw [hf, e, List.filter_append, List.filter_append, List.filter_append, List.filter_append, ← e]
  have hm : (l.getD i l[i]).n = c := by rw [getD_fl hi, he]
  rw [filter_all (l := l.take i) (p := fun g => decide (Lt g.n c)) (fun g hg => decide_eq_true (p1 g hg)), filter_no (l := [l.getD i l[i]]) (fun g hg => by rw [List.mem_singleton.1 hg, hm]; exact decide_eq_false (Lt.irrefl c)),
    filter_no (l := l.drop (i + 1)) (fun g hg => decide_eq_false (p3 g hg).asymm), filter_no (l := l.take i) (fun g hg => decide_eq_false (p1 g hg).asymm), filter_no (l := [l.getD i l[i]]) (p := fun g => decide (Lt c g.n)) (fun g hg => by rw [List.mem_singleton.1 hg, hm]; exact decide_eq_false (Lt.irrefl c)), filter_all (l := l.drop (i + 1)) (fun g hg => decide_eq_true (p3 g hg))]
  simp
theorem FoundF.with_miss {l : List Fl} {c : ByteArray} {i : Nat} (h : FoundF l c i false) (hu : Up l) {f : Fl} (hf : f.n = c) : withF l f = l.take i ++ [f] ++ l.drop i := by
  obtain ⟨p1, _, _, p4⟩ := h.parts hu
  have p4 := p4 rfl
  have e := (List.take_append_drop i l).symm
  unfold withF
  rw [hf, e, List.filter_append, List.filter_append, ← e]
  rw [filter_all (l := l.take i) (p := fun g => decide (Lt g.n c)) (fun g hg => decide_eq_true (p1 g hg)), filter_no (l := l.drop i) (fun g hg => decide_eq_false (p4 g hg).asymm),
    filter_no (l := l.take i) (fun g hg => decide_eq_false (p1 g hg).asymm), filter_all (l := l.drop i) (fun g hg => decide_eq_true (p4 g hg))]
  simp
theorem FoundF.wo {l : List Fl} {c : ByteArray} {i : Nat} (h : FoundF l c i true) (hu : Up l) : without l c = l.take i ++ l.drop (i + 1) := by
  obtain ⟨hi, he⟩ := h.hit rfl
  obtain ⟨p1, _, p3, _⟩ := h.parts hu
  have e := split_at hi (l[i])
  have hm : (l.getD i l[i]).n = c := by rw [getD_fl hi, he]
  unfold without
  rw [e, List.filter_append, List.filter_append, ← e, filter_all (l := l.take i) (fun g hg => decide_eq_true (p1 g hg).ne), filter_no (l := [l.getD i l[i]]) (fun g hg => by rw [List.mem_singleton.1 hg]; exact decide_eq_false (fun k => k hm)), filter_all (l := l.drop (i + 1)) (p := fun f => decide (f.n ≠ c)) (fun g hg => decide_eq_true (fun k => (p3 g hg).ne k.symm))]
  simp

end Go.Proofs.Ytbkiecjbjehaoaa.Dp
namespace Go.Proofs.Ytbkiecjbjehaoaa.Dsk
open Go.RowKit Go.Proofs.Ytbkiecjbjehaoaa.Dp

theorem cmpstr_any (a b : ByteArray) (w : World) : Calls Try.prog 65 #[.string a, .string b] w fun e w' => e = .returned (.int .i64 (cmp a b)) ∧ w = w' := by
  go_enter Try.func65, Try.ntmps65
  go_wp2
  rw [run_callFunc_extern Try.func67 (by kernel_rfl) (by kernel_rfl) (by kernel_rfl) (e := Extern.BytealgCompare.compare) (by kernel_rfl), Lib.run_compareString]
  simp only [Result.andThen]
  rw [Oper.upon_value]
  go_wp2
  go_ret
  exact ⟨rfl, rfl⟩
theorem scompare_any (a b : ByteArray) (w : World) : Calls Try.prog 63 #[.string a, .string b] w fun e w' => e = .returned (.int .i64 (cmp a b)) ∧ w = w' := by
  have C := Lib.hid (cmpstr_any a b)
  go_enter Try.func63, Try.ntmps63
  go_wp2_with fail
  refine (C.out _).mono ?_
  rintro e w' ⟨rfl, rfl⟩
  go_wp2_with fail
  go_ret
  exact ⟨rfl, rfl⟩
set_option maxRecDepth 100000 in
theorem byName_any (n d : ByteArray) (s : Int) (c : ByteArray) (w : World) : Calls Try.prog 59 #[.agg #[.string n, .string d, .int .i64 s], .string c] w fun e w' => e = .returned (.int .i64 (cmp n c)) ∧ Below w.heap.size w w' := by
  have C := Lib.hid fun (W : World) => scompare_any n c W
  go_enter Try.func59, Try.ntmps59
  go_wp2_with fail
  refine (C.out _).mono ?_
  rintro e w' ⟨rfl, rfl⟩
  go_wp2_with fail
  go_ret
  exact ⟨rfl, (Below.refl _ _).alloc (Nat.le_refl _) _⟩

/-- What the search answers. -/
def SearchOut (w : World) (l : List Fl) (c : ByteArray) (e : Ending) (w' : World) : Prop :=
  ∃ (i : Nat) (b : Bool), e = .returned (.tuple #[.int .i64 (i : Int), .bool b]) ∧ FoundF l c i b ∧ Below w.heap.size w w'
theorem SearchOut.mk {w w' : World} {l : List Fl} {c : ByteArray} {i : Nat} {b : Bool} (h : FoundF l c i b) (hb : Below w.heap.size w w') : SearchOut w l c (.returned (.tuple #[.int .i64 (i : Int), .bool b])) w' := ⟨i, b, rfl, h, hb⟩

set_option maxRecDepth 100000 in
set_option maxHeartbeats 1600000 in
theorem search_some (l : List Fl) (c : ByteArray) (b off cap : Nat) (w : World) (hu : Up l) (hl : l.length ≤ 1000000000000) (h : IsL FL w (.slice (some ⟨b, off, none⟩) l.length cap) l) :
    Calls Try.prog 58 #[.slice (some ⟨b, off, none⟩) l.length cap, .string c, .func (.func 59) #[] #[]] w (SearchOut w l c) := by
  have HC := Lib.hid fun i (hi : i < l.length) => at3 h hi
  have HU := Lib.hid hu
  have HS := Lib.hid (Between.start l c)
  clear h hu
  obtain ⟨len, hlen⟩ : ∃ len, l.length = len := ⟨_, rfl⟩
  rw [hlen] at hl HC HS ⊢
  have HL := Lib.hid hlen
  clear hlen
  go_enter Try.func58, Try.ntmps58
  go_wp2_with fail
  go_loopw [9, 10] (fun x y wr => ∃ lo hi : Nat, hi ≤ len ∧ x = .int .i64 lo ∧ y = .int .i64 hi ∧ Between l c lo hi ∧ Below w.heap.size w wr) (fun x y _ => (intOf y).toNat - (intOf x).toNat)
  case atStart => exact ⟨0, len, Nat.le_refl _, rfl, rfl, HS.out, Below.refl _ _⟩
  case round =>
    obtain ⟨lo, hi, hhi, rfl, rfl, hB, bel⟩ := hrel
    have HB := Lib.hid hB
    have hle := hB.le
    clear hB
    by_cases hlt : lo < hi
    · obtain ⟨m, hm⟩ : ∃ m, (lo + hi) / 2 = m := ⟨_, rfl⟩
      have hm1 : lo ≤ m := by omega
      have hm2 : m < hi := by omega
      have hmi : ((lo : Int) + (hi : Int)) / 2 = (m : Int) := by omega
      obtain ⟨c0, c1, c2⟩ := HC.out m (by omega)
      have hbb := block_lt_of_cell c0
      have z0 : wr.cell? ⟨b, off + m * 3, none⟩ = some (.string (l.getD m zero).n) := by rw [bel.cell (p := ⟨b, off + m * 3, none⟩) hbb]; exact c0
      have z1 : wr.cell? ⟨b, off + m * 3 + 1, none⟩ = some (.string (l.getD m zero).d) := by rw [bel.cell (p := ⟨b, off + m * 3 + 1, none⟩) hbb]; exact c1
      have z2 : wr.cell? ⟨b, off + m * 3 + 2, none⟩ = some (.int .i64 (l.getD m zero).s) := by rw [bel.cell (p := ⟨b, off + m * 3 + 2, none⟩) hbb]; exact c2
      clear c0 c1 c2 hm
      have BUP := Lib.hid fun h => HB.out.up (z := zero) HU.out hm2 h
      have BDN := Lib.hid fun h => HB.out.down (z := zero) HU.out hm1 hm2 h
      generalize l.getD m zero = p at *
      have C := fun W : World => byName_any p.n p.d p.s c W
      rcases cmp3 p.n c with ⟨hq, hcm⟩ | ⟨hq, hcm⟩ | ⟨hq, hcm⟩
      · rw [hq] at C
        have C := Lib.hid C
        have HN := Lib.hid (BUP.out hcm)
        clear hcm hq
        go_wp2_with fail
        refine (C.out _).mono ?_
        rintro e w1 ⟨rfl, b1⟩
        go_wp2_with fail
        go_roundw
        case rel => exact ⟨m + 1, hi, hhi, by go_num, rfl, HN.out, bel.trans (b1.mono bel.size)⟩
        case measure => simp [intOf]; omega
      · rw [hq] at C
        have C := Lib.hid C
        have HN := Lib.hid (BDN.out (fun k => k.ne hcm))
        clear hcm hq
        go_wp2_with fail
        refine (C.out _).mono ?_
        rintro e w1 ⟨rfl, b1⟩
        go_wp2_with fail
        go_roundw
        case rel => exact ⟨lo, m, by omega, rfl, rfl, HN.out, bel.trans (b1.mono bel.size)⟩
        case measure => simp [intOf]; omega
      · rw [hq] at C
        have C := Lib.hid C
        have HN := Lib.hid (BDN.out hcm.asymm)
        clear hcm hq
        go_wp2_with fail
        refine (C.out _).mono ?_
        rintro e w1 ⟨rfl, b1⟩
        go_wp2_with fail
        go_roundw
        case rel => exact ⟨lo, m, by omega, rfl, rfl, HN.out, bel.trans (b1.mono bel.size)⟩
        case measure => simp [intOf]; omega
    · obtain rfl : hi = lo := by omega
      by_cases hn : hi < len
      · obtain ⟨c0, c1, c2⟩ := HC.out hi hn
        have hbb := block_lt_of_cell c0
        have z0 : wr.cell? ⟨b, off + hi * 3, none⟩ = some (.string (l.getD hi zero).n) := by rw [bel.cell (p := ⟨b, off + hi * 3, none⟩) hbb]; exact c0
        have z1 : wr.cell? ⟨b, off + hi * 3 + 1, none⟩ = some (.string (l.getD hi zero).d) := by rw [bel.cell (p := ⟨b, off + hi * 3 + 1, none⟩) hbb]; exact c1
        have z2 : wr.cell? ⟨b, off + hi * 3 + 2, none⟩ = some (.int .i64 (l.getD hi zero).s) := by rw [bel.cell (p := ⟨b, off + hi * 3 + 2, none⟩) hbb]; exact c2
        clear c0 c1 c2
        have BH := Lib.hid fun h => HB.out.hit (z := zero) (by rw [HL.out]; exact hn) h
        have BM := Lib.hid fun h => HB.out.miss (z := zero) h
        generalize l.getD hi zero = p at *
        have C := fun W : World => byName_any p.n p.d p.s c W
        obtain ⟨q, hq, HN⟩ : ∃ q, cmp p.n c = q ∧ Hid (FoundF l c hi (q == 0)) := by
          rcases cmp3 p.n c with ⟨hq, hcm⟩ | ⟨hq, hcm⟩ | ⟨hq, hcm⟩
          · exact ⟨_, hq, BM.out fun _ => hcm.ne⟩
          · exact ⟨_, hq, BH.out hcm⟩
          · exact ⟨_, hq, BM.out fun _ k => hcm.ne k.symm⟩
        rw [hq] at C
        have C := Lib.hid C
        clear hq
        go_wp2_with fail
        refine (C.out _).mono ?_
        rintro e w1 ⟨rfl, b1⟩
        go_wp2_with fail
        go_ret2
        exact SearchOut.mk HN.out (bel.trans (b1.mono bel.size))
      · have HN := Lib.hid (HB.out.miss (z := zero) fun h => absurd h (by rw [HL.out]; exact hn))
        go_wp2_with fail
        go_ret2
        exact SearchOut.mk HN.out bel

set_option maxRecDepth 100000 in
set_option maxHeartbeats 800000 in
theorem search_none (a : Option Addr) (cap : Nat) (c : ByteArray) (w : World) :
    Calls Try.prog 58 #[.slice a 0 cap, .string c, .func (.func 59) #[] #[]] w (SearchOut w [] c) := by
  have HN := Lib.hid ((Between.start [] c).miss (z := zero) fun h => absurd h (by simp))
  go_enter Try.func58, Try.ntmps58
  go_wp2_with fail
  refine wp_loop_rounds 1 ?_
  rw [rounds_succ]
  go_wp2_with fail
  go_ret2
  exact SearchOut.mk HN.out (Below.refl _ _)

theorem search_any (v : Value) (l : List Fl) (c : ByteArray) (w : World) (hu : Up l) (hl : l.length ≤ 1000000000000) (h : IsL FL w v l) :
    Calls Try.prog 58 #[v, .string c, .func (.func 59) #[] #[]] w (SearchOut w l c) := by
  have h' := h
  obtain ⟨a, cap, rfl, _, _, h3⟩ := h
  rcases h3 with rfl | ⟨b, off, rfl, h4⟩
  · exact search_none a cap c w
  · exact search_some l c b off cap w hu hl h'

/-- disk's find. -/
theorem find_any (v : Value) (l : List Fl) (c : ByteArray) (w : World) (hu : Up l) (hl : l.length ≤ 1000000000000) (h : IsL FL w v l) :
    Calls Try.prog 40 #[v, .string c] w (SearchOut w l c) := by
  have C := Lib.hid (search_any v l c w hu hl h)
  obtain ⟨a, cap, rfl, _⟩ := h
  clear hu hl
  go_enter Try.func40, Try.ntmps40
  go_wp2_with fail
  refine C.out.mono ?_
  rintro e w' ⟨i, b, rfl, hf, hb⟩
  have HF := Lib.hid (SearchOut.mk (w := w) (l := l) (c := c) hf hb)
  clear hf hb
  go_wp2_with fail
  go_ret2
  exact HF.out

/-- disk's mayName and the document's named. -/
theorem mayName_any (n : ByteArray) (w : World) (hn : n.size ≤ 9223372036854775807) :
    Calls Try.prog 21 #[.string n] w fun e w' => e = .returned (.bool (decide (Named n))) ∧ w = w' := by
  by_cases h1 : 1 ≤ n.size
  · have i1 : (1 : Int) ≤ (n.size : Int) := by omega
    by_cases h2 : n.size ≤ 32
    · have i2 : (n.size : Int) ≤ 32 := by omega
      rw [decide_eq_true (show Named n from ⟨h1, h2⟩)]
      go_enter Try.func21, Try.ntmps21
      go_wp2_with fail
      go_ret
      exact ⟨by simp_all, rfl⟩
    · have i2 : ¬ ((n.size : Int) ≤ 32) := by omega
      rw [decide_eq_false (show ¬ Named n from fun h => h2 h.2)]
      go_enter Try.func21, Try.ntmps21
      go_wp2_with fail
      go_ret
      exact ⟨by simp_all, rfl⟩
  · have i1 : ¬ ((1 : Int) ≤ (n.size : Int)) := by omega
    rw [decide_eq_false (show ¬ Named n from fun h => h1 h.1)]
    go_enter Try.func21, Try.ntmps21
    go_wp2_with fail
    go_ret
    exact ⟨by simp_all, rfl⟩
theorem named_any (n : ByteArray) (w : World) (hn : n.size ≤ 9223372036854775807) :
    Calls Try.prog 22 #[.string n] w fun e w' => e = .returned (.bool (decide (Named n))) ∧ w = w' := by
  by_cases h1 : 1 ≤ n.size
  · have i1 : (1 : Int) ≤ (n.size : Int) := by omega
    by_cases h2 : n.size ≤ 32
    · have i2 : (n.size : Int) ≤ 32 := by omega
      rw [decide_eq_true (show Named n from ⟨h1, h2⟩)]
      go_enter Try.func22, Try.ntmps22
      go_wp2_with fail
      go_ret
      exact ⟨by simp_all, rfl⟩
    · have i2 : ¬ ((n.size : Int) ≤ 32) := by omega
      rw [decide_eq_false (show ¬ Named n from fun h => h2 h.2)]
      go_enter Try.func22, Try.ntmps22
      go_wp2_with fail
      go_ret
      exact ⟨by simp_all, rfl⟩
  · have i1 : ¬ ((1 : Int) ≤ (n.size : Int)) := by omega
    rw [decide_eq_false (show ¬ Named n from fun h => h1 h.1)]
    go_enter Try.func22, Try.ntmps22
    go_wp2_with fail
    go_ret
    exact ⟨by simp_all, rfl⟩

end Go.Proofs.Ytbkiecjbjehaoaa.Dsk
