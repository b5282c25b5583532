/-
  Parts of what the laws of this seat stand on: DiskRef4, RetPlain, RetVal, NamePlain, NameLaid.
-/
import Derived.BigQuiet
import Derived.Deep.DeepCutAuto
import Derived.Deep.RegionWith
import Derived.IntWalk
import Derived.Laws.IdiomStrings
import Derived.Lib.Strings
import Derived.Test.YtijbpdpkoamhbaaGreatQa1
import Derived.Test.YtijbpdpkoamhbaaGreatQa5
import Derived.Test.YtijbpdpkoamhbaaGreatQa6
set_option maxRecDepth 100000
set_option maxHeartbeats 6400000
namespace Go.Proofs.YtijbpdpkoamhbaaGreat
namespace Dsk
open Go.RowKit Dp
def RkOut (w : World) (fv : Value) (l0 : List Fl) (R : Dk × Int) (e : Ending) (w' : World) : Prop := ∃ a n c, e = .returned (.tuple #[dkVal (.slice a n c) R.1, .int .i64 R.2]) ∧ KeptOr w' w.heap.size fv l0 (.slice a n c) R.1.f ∧ Below w.heap.size w w'
def RcTwo (w : World) (fv lv : Value) (l0 l : List Fl) (R : Dk × Int) (e : Ending) (w' : World) : Prop := ∃ v, e = .returned (.tuple #[dkVal v R.1, .int .i64 R.2]) ∧ ((v = fv ∧ R.1.f = l0) ∨ (v = lv ∧ R.1.f = l ∧ R.2 = 0)) ∧ Below w.heap.size w w'
theorem rchange_two (fa ga : Option Addr) (fn fc gn gc : Nat) (D : Dk) (l : List Fl) (own : Int) (w : World) (hD : DkB D) (h0 : 0 ≤ D.l) :
 Calls Tryz.prog 83 #[.agg #[.slice fa fn fc, .int .i64 D.c, .bool D.a, .int .i64 D.l, .bool D.x], .slice ga gn gc, .int .i64 own] w (RcTwo w (.slice fa fn fc) (.slice ga gn gc) D.f l (change D l own)) := by
 obtain ⟨⟨hc1, hc2⟩, hl1, hl2⟩ := hD
 obtain ⟨f, c, a, d, x⟩ := D
 dsimp only at *
 have b2 := zid fun (A B : Array Value) => ((Below.refl w.heap.size w).alloc (Nat.le_refl _) (.cells A 28)).alloc (by simp) (.cells B 28)
 rcases change_cases ⟨f, c, a, d, x⟩ l own with ⟨e, h1⟩ | ⟨e, h1, h2⟩ | ⟨e, h1, h2, h3, h4⟩ | ⟨e, h1, h2, h3, h4⟩ | ⟨e, h1, h2, h3⟩
 all_goals
  dsimp only at *
  rw [e]
  clear e
 · subst h1
   go_enter Tryz.func83, Tryz.ntmps83
   go_wp2_with fail
   refine bodyPost_ret (v := .tuple #[.agg #[.slice fa fn fc, .int .i64 c, .bool a, .int .i64 d, .bool true], .int .i64 10]) (by simp [results, Tryz.results83, go_sem]) rfl ?_
   exact ⟨.slice fa fn fc, rfl, .inl ⟨rfl, rfl⟩, b2.out _ _⟩
 · subst h2
   have hx : (own != 0) = true := by simpa using h1
   go_enter Tryz.func83, Tryz.ntmps83
   go_wp2_with fail
   refine bodyPost_ret (v := .tuple #[.agg #[.slice fa fn fc, .int .i64 c, .bool a, .int .i64 d, .bool false], .int .i64 own]) (by simp [results, Tryz.results83, go_sem]) rfl ?_
   exact ⟨.slice fa fn fc, rfl, .inl ⟨rfl, rfl⟩, b2.out _ _⟩
 · subst h1 h2 h3 h4
   go_enter Tryz.func83, Tryz.ntmps83
   go_wp2_with fail
   refine bodyPost_ret (v := .tuple #[.agg #[.slice fa fn fc, .int .i64 c, .bool true, .int .i64 0, .bool true], .int .i64 10]) (by simp [results, Tryz.results83, go_sem]) rfl ?_
   exact ⟨.slice fa fn fc, rfl, .inl ⟨rfl, rfl⟩, b2.out _ _⟩
 · subst h1 h2 h3
   have hd0 : ¬ (d = 0) := h4
   have hd1 : (d == 0) = false := by simpa using h4
   go_enter Tryz.func83, Tryz.ntmps83
   go_wp2_with fail
   refine bodyPost_ret (v := .tuple #[.agg #[.slice ga gn gc, .int .i64 c, .bool true, .int .i64 (d - 1), .bool false], .int .i64 0]) (by simp [results, Tryz.results83, go_sem]) rfl ?_
   exact ⟨.slice ga gn gc, rfl, .inr ⟨rfl, rfl, rfl⟩, b2.out _ _⟩
 · subst h1 h2 h3
   go_enter Tryz.func83, Tryz.ntmps83
   go_wp2_with fail
   refine bodyPost_ret (v := .tuple #[.agg #[.slice ga gn gc, .int .i64 c, .bool false, .int .i64 d, .bool false], .int .i64 0]) (by simp [results, Tryz.results83, go_sem]) rfl ?_
   exact ⟨.slice ga gn gc, rfl, .inr ⟨rfl, rfl, rfl⟩, b2.out _ _⟩
theorem rdelete_any (fv : Value) (D : Dk) (n : ByteArray) (w : World) (hv : IsL FL w fv D.f) (hS : Sm D) :
 Calls Tryz.prog 44 #[dkVal fv D, .string n] w (RkOut w fv D.f (delete D n)) := by
 obtain ⟨fa, fn, fc, rfl⟩ : ∃ a n c, fv = .slice a n c := by obtain ⟨a, c, h, _⟩ := hv; exact ⟨a, _, c, h⟩
 have F := fun (W : World) (h : IsL FL W (.slice fa fn fc) D.f) => rfind_any (.slice fa fn fc) D n W h
 have CH := zid fun (ga : Option Addr) (gn gc : Nat) (l : List Fl) (own : Int) (W : World) => rchange_two fa ga fn fc gn gc D l own W hS.b hS.l0
 have WO := zid fun (W : World) (h : IsL FL W (.slice fa fn fc) D.f) => rwithout_any (.slice fa fn fc) D.f n W h (by have := hS.n; omega)
 have HV := zid hv
 obtain ⟨g0, g1, gb, gs⟩ := boxes2 w #[.slice fa fn fc, .int .i64 D.c, .bool D.a, .int .i64 D.l, .bool D.x] #[.slice none 0 0, .int .i64 0, .bool false, .int .i64 0, .bool false] 28 28
 have G0 := zid g0
 have G1 := zid g1
 have GB := zid gb
 have GS := zid gs
 clear g0 g1 gb gs hv
 unfold delete
 rcases @find_get D.f n with ⟨hf, hg⟩ | ⟨i, hi, hf, hg⟩
 · rw [hg]
   dsimp only
   simp only [hf] at F
   unfold dkVal at F ⊢
   replace F := zid F
   clear hf hg
   go_enter Tryz.func44, Tryz.ntmps44
   go_wp2_with fail
   generalize World.alloc (World.alloc w _) _ = w0 at G0 G1 GB GS ⊢
   refine (F.out w0 (HV.out.keep GB.out)).mono ?_
   rintro e w1 ⟨rfl, b1⟩
   obtain ⟨p0, p1, p2, p3, p4⟩ := cells5 (hkeep G0.out b1)
   have G1' := zid (hkeep G1.out b1)
   have B1 := zid (GB.out.trans (b1.mono (by have := GS.out; omega)))
   have hs1 : w.heap.size + 1 < w1.heap.size := by have := b1.size; have := GS.out; omega
   clear b1
   go_wp2_with fail
   refine (CH.out none 0 0 [] 7 w1).mono ?_
   rintro e w2 ⟨v, rfl, hc2, b2⟩
   obtain ⟨xa, xn, xc, rfl⟩ : ∃ a n c, v = .slice a n c := by
    rcases hc2 with ⟨h, _⟩ | ⟨h, _⟩
    · exact ⟨_, _, _, h⟩
    · exact ⟨_, _, _, h⟩
   obtain ⟨q0, q1, q2, q3, q4⟩ := cells5 (hkeep G1'.out b2)
   obtain ⟨qf0, qf1, qf2, qf3, qf4⟩ := frozen5 (hkeep G1'.out b2)
   have HC2 := zid hc2
   have B2 := zid (B1.out.trans (b2.mono B1.out.size))
   clear hc2 b2
   unfold dkVal
   go_wp2_with fail
   refine bodyPost_ret (v := .tuple #[.agg #[.slice xa xn xc, .int .i64 (change D [] 7).1.c, .bool (change D [] 7).1.a, .int .i64 (change D [] 7).1.l, .bool (change D [] 7).1.x], .int .i64 (change D [] 7).2]) (by simp [results, Tryz.results44, go_sem, q0, q1, q2, q3, q4]) rfl ?_
   refine ⟨xa, xn, xc, rfl, ?_, bel_set5 B2.out (Nat.le_succ _) _ _ _ _ _⟩
   rcases HC2.out with ⟨h1, h2⟩ | ⟨h1, h2, _⟩
   · exact .inl ⟨h1, h2⟩
   · rw [h1, h2]
     exact .inr (OwnL.nil _ _)
 · rw [hg]
   dsimp only
   simp only [hf] at F
   unfold dkVal at F ⊢
   replace F := zid F
   have hil : i ≤ 1000000 := by have := hS.n; omega
   clear hf hg hi
   go_enter Tryz.func44, Tryz.ntmps44
   go_wp2_with fail
   generalize World.alloc (World.alloc w _) _ = w0 at G0 G1 GB GS ⊢
   refine (F.out w0 (HV.out.keep GB.out)).mono ?_
   rintro e w1 ⟨rfl, b1⟩
   obtain ⟨p0, p1, p2, p3, p4⟩ := cells5 (hkeep G0.out b1)
   have G0' := zid (hkeep (W := w1) (W' := w1.drew) (hkeep G0.out b1) (Below.refl _ _).drew)
   have G1' := zid (hkeep (W := w1) (W' := w1.drew) (hkeep G1.out b1) (Below.refl _ _).drew)
   have B1 := zid (show Below w.heap.size w w1.drew from (GB.out.trans (b1.mono (by have := GS.out; omega))).drew)
   have hs1 : w.heap.size + 1 < w1.heap.size := by have := b1.size; have := GS.out; omega
   have WO0 := zid (WO.out w1.drew (HV.out.keep B1.out))
   clear b1 WO
   go_wp2_with fail
   go_region_with (first | ((with_reducible refine WO0.out.mono ?_); rintro e w4 ⟨lv, rfl, ho4, b4⟩; obtain ⟨ga, gn, gc, rfl⟩ := own_slice ho4; have HO4 := zid ho4; obtain ⟨z0, z1, z2, z3, z4⟩ := cells5 (hkeep G0'.out b4); have G14 := zid (hkeep G1'.out b4); have B4 := zid (B1.out.trans (b4.mono B1.out.size)); have hs4 := b4.size; clear ho4 b4) | (go_at_call 83; refine (CH.out ga gn gc (without D.f n) 0 w4).mono ?_; rintro e w2 ⟨v, rfl, hc2, b2⟩; obtain ⟨xa, xn, xc, rfl⟩ : ∃ a n c, v = .slice a n c := (by rcases hc2 with ⟨h, _⟩ | ⟨h, _⟩ <;> exact ⟨_, _, _, h⟩); obtain ⟨q0, q1, q2, q3, q4⟩ := cells5 (hkeep G14.out b2); obtain ⟨qf0, qf1, qf2, qf3, qf4⟩ := frozen5 (hkeep G14.out b2); have HC2 := zid hc2; have HO2 := zid (HO4.out.keep b2); have B2 := zid (B4.out.trans (b2.mono B4.out.size)); clear hc2 b2; unfold dkVal))
   all_goals
    go_wp2_with fail
    refine bodyPost_ret (v := .tuple #[.agg #[.slice xa xn xc, .int .i64 (change D (without D.f n) 0).1.c, .bool (change D (without D.f n) 0).1.a, .int .i64 (change D (without D.f n) 0).1.l, .bool (change D (without D.f n) 0).1.x], .int .i64 (change D (without D.f n) 0).2]) (by simp [results, Tryz.results44, go_sem, q0, q1, q2, q3, q4]) rfl ?_
    refine ⟨xa, xn, xc, rfl, ?_, bel_set5 B2.out (Nat.le_succ _) _ _ _ _ _⟩
    rcases HC2.out with ⟨h1, h2⟩ | ⟨h1, h2, _⟩
    · exact .inl ⟨h1, h2⟩
    · refine .inr ?_
      rw [h1, h2]
      exact own_base (own_set5 HO2.out (k := w.heap.size + 1) hs1 _ _ _ _ _) B1.out.size
end Dsk
namespace Rt
structure Sg where
 b : Int
 n : Int
 z : Int
def zero : Sg := ⟨0, 0, 0⟩
def sumZ (l : List Sg) : Int := l.foldl (fun s x => s + x.z) 0
def sumN (l : List Sg) : Int := l.foldl (fun s x => s + x.n) 0
theorem foldZ (l : List Sg) : ∀ s : Int, l.foldl (fun s x => s + x.z) s = s + sumZ l := by
 unfold sumZ
 induction l with
 | nil => intro s; simp
 | cons x l ih => intro s; rw [List.foldl_cons, List.foldl_cons, ih (s + x.z), ih (0 + x.z)]; omega
theorem foldN (l : List Sg) : ∀ s : Int, l.foldl (fun s x => s + x.n) s = s + sumN l := by
 unfold sumN
 induction l with
 | nil => intro s; simp
 | cons x l ih => intro s; rw [List.foldl_cons, List.foldl_cons, ih (s + x.n), ih (0 + x.n)]; omega
theorem sumZ_cons (x : Sg) (l : List Sg) : sumZ (x :: l) = x.z + sumZ l := by
 show List.foldl _ _ _ = _
 rw [List.foldl_cons, foldZ]
 omega
theorem sumN_cons (x : Sg) (l : List Sg) : sumN (x :: l) = x.n + sumN l := by
 show List.foldl _ _ _ = _
 rw [List.foldl_cons, foldN]
 omega
theorem sumZ_append (a b : List Sg) : sumZ (a ++ b) = sumZ a + sumZ b := by
 show List.foldl _ _ _ = _
 rw [List.foldl_append, foldZ]
 rfl
theorem sumN_append (a b : List Sg) : sumN (a ++ b) = sumN a + sumN b := by
 show List.foldl _ _ _ = _
 rw [List.foldl_append, foldN]
 rfl
theorem take_snoc {l : List Sg} {k : Nat} (h : k < l.length) : l.take (k + 1) = l.take k ++ [l.getD k zero] := by
 rw [List.take_succ_eq_append_getElem h]
 simp [List.getD_eq_getElem?_getD, h]
theorem drop_at {l : List Sg} {k : Nat} (h : k < l.length) : l.drop k = l.getD k zero :: l.drop (k + 1) := by
 rw [List.drop_eq_getElem_cons h]
 simp [List.getD_eq_getElem?_getD, h]
theorem sumZ_take {l : List Sg} {k : Nat} (h : k < l.length) : sumZ (l.take (k + 1)) = sumZ (l.take k) + (l.getD k zero).z := by
 rw [take_snoc h, sumZ_append, sumZ_cons]
 show _ + (_ + 0) = _
 omega
theorem sumN_take {l : List Sg} {k : Nat} (h : k < l.length) : sumN (l.take (k + 1)) = sumN (l.take k) + (l.getD k zero).n := by
 rw [take_snoc h, sumN_append, sumN_cons]
 show _ + (_ + 0) = _
 omega
def Fit (x : Sg) : Prop := 0 ≤ x.n ∧ x.n ≤ 1099511627776 ∧ 0 ≤ x.z ∧ x.z ≤ 1099511627776
def May (l : List Sg) : Prop := l.length ≤ 4096 ∧ ∀ x ∈ l, Fit x
theorem Fit.zero : Fit zero := ⟨by decide, by decide, by decide, by decide⟩
theorem May.at_ {l : List Sg} (h : May l) (k : Nat) : Fit (l.getD k zero) := by
 by_cases hk : k < l.length
 · rw [show l.getD k zero = l[k] by simp [List.getD_eq_getElem?_getD, hk]]
   exact h.2 _ (List.getElem_mem hk)
 · rw [show l.getD k zero = zero by simp [List.getD_eq_getElem?_getD, List.getElem?_eq_none (Nat.le_of_not_lt hk)]]
   exact Fit.zero
theorem May.drop {l : List Sg} (h : May l) (k : Nat) : May (l.drop k) := ⟨by rw [List.length_drop]; have := h.1; omega, fun x hx => h.2 x (List.mem_of_mem_drop hx)⟩
theorem May.take {l : List Sg} (h : May l) (k : Nat) : May (l.take k) := ⟨by rw [List.length_take]; have := h.1; omega, fun x hx => h.2 x (List.mem_of_mem_take hx)⟩
theorem sum_bound : ∀ {l : List Sg}, (∀ x ∈ l, Fit x) → 0 ≤ sumZ l ∧ sumZ l ≤ 1099511627776 * (l.length : Int) ∧ 0 ≤ sumN l ∧ sumN l ≤ 1099511627776 * (l.length : Int)
 | [], _ => ⟨by decide, by decide, by decide, by decide⟩
 | x :: l, h => by
  obtain ⟨h1, h2, h3, h4⟩ := h x mcs
  obtain ⟨i1, i2, i3, i4⟩ := sum_bound fun y hy => h y (mcm hy)
  rw [sumZ_cons, sumN_cons, List.length_cons]
  refine ⟨?_, ?_, ?_, ?_⟩ <;> omega
theorem May.sums {l : List Sg} (h : May l) : 0 ≤ sumZ l ∧ sumZ l ≤ 4503599627370496 ∧ 0 ≤ sumN l ∧ sumN l ≤ 4503599627370496 := by
 obtain ⟨h1, h2, h3, h4⟩ := sum_bound h.2
 have := h.1
 refine ⟨?_, ?_, ?_, ?_⟩ <;> omega
def Much (l : List Sg) (keep count : Int) : Prop := 1 < l.length ∧ (keep < sumZ (l.take (l.length - 1)) ∨ count < sumN l)
def IsPick (l : List Sg) (keep count : Int) (k : Nat) : Prop := (l = [] ∧ k = 0) ∨ (k < l.length ∧ ¬ Much (l.drop k) keep count ∧ ∀ j, j < k → Much (l.drop j) keep count)
theorem IsPick.one {l : List Sg} {keep count : Int} {k m : Nat} (h : IsPick l keep count k) (h' : IsPick l keep count m) : k = m := by
 rcases h with ⟨rfl, rfl⟩ | ⟨a1, a2, a3⟩
 · rcases h' with ⟨_, rfl⟩ | ⟨b1, _, _⟩
   · rfl
   · simp at b1
 · rcases h' with ⟨rfl, _⟩ | ⟨b1, b2, b3⟩
   · simp at a1
   · rcases Nat.lt_trichotomy k m with h | h | h
     · exact absurd (b3 k h) a2
     · exact h
     · exact absurd (a3 m h) b2
theorem last_not {l : List Sg} {keep count : Int} {k : Nat} (h : l.length ≤ k + 1) : ¬ Much (l.drop k) keep count := fun ⟨h1, _⟩ => by rw [List.length_drop] at h1; omega
theorem pick_some (l : List Sg) (keep count : Int) : ∃ k, IsPick l keep count k := by
 by_cases h0 : l = []
 · exact ⟨0, .inl ⟨h0, rfl⟩⟩
 · have hl : 0 < l.length := List.length_pos_iff.2 h0
   have key : ∀ n k, k + n + 1 = l.length → (∀ j, j < k → Much (l.drop j) keep count) → ∃ k, IsPick l keep count k := by
    intro n
    induction n with
    | zero => exact fun k hk h => ⟨k, .inr ⟨by omega, last_not (by omega), h⟩⟩
    | succ n ih =>
     intro k hk h
     by_cases hm : Much (l.drop k) keep count
     · exact ih (k + 1) (by omega) fun j hj => by
        by_cases e : j = k
        · subst e; exact hm
        · exact h j (by omega)
     · exact ⟨k, .inr ⟨by omega, hm, h⟩⟩
   exact key (l.length - 1) 0 (by omega) fun j hj => absurd hj (Nat.not_lt_zero j)
theorem IsPick.lt {l : List Sg} {keep count : Int} {k : Nat} (h : IsPick l keep count k) : k ≤ l.length ∧ (0 < l.length → k < l.length) := by
 rcases h with ⟨rfl, rfl⟩ | ⟨h, _, _⟩
 · exact ⟨Nat.zero_le _, fun h => h⟩
 · exact ⟨Nat.le_of_lt h, fun _ => h⟩
theorem much_at {l : List Sg} {keep count : Int} {k : Nat} (hk : k + 1 < l.length) : Much (l.drop k) keep count ↔ (keep < sumZ (l.take (l.length - 1)) - sumZ (l.take k) ∨ count < sumN l - sumN (l.take k)) := by
 unfold Much
 have h1 : sumN (l.drop k) = sumN l - sumN (l.take k) := by
  have := sumN_append (l.take k) (l.drop k)
  rw [List.take_append_drop] at this
  omega
 have h2 : (l.drop k).take ((l.drop k).length - 1) = (l.take (l.length - 1)).drop k := by
  rw [List.drop_take, List.length_drop]
  congr 1
  omega
 have h3 : sumZ ((l.drop k).take ((l.drop k).length - 1)) = sumZ (l.take (l.length - 1)) - sumZ (l.take k) := by
  rw [h2]
  have := sumZ_append ((l.take (l.length - 1)).take k) ((l.take (l.length - 1)).drop k)
  rw [List.take_append_drop, List.take_take, Nat.min_eq_left (by omega)] at this
  omega
 rw [h1, h3, List.length_drop]
 constructor
 · exact fun h => h.2
 · exact fun h => ⟨by omega, h⟩
theorem IsPick.again {l : List Sg} {keep count : Int} {k : Nat} (h : IsPick l keep count k) : IsPick (l.drop k) keep count 0 := by
 rcases h with ⟨rfl, rfl⟩ | ⟨a1, a2, a3⟩
 · exact .inl ⟨rfl, rfl⟩
 · exact .inr ⟨by rw [List.length_drop]; omega, by rw [List.drop_zero]; exact a2, fun j hj => absurd hj (Nat.not_lt_zero j)⟩
end Rt
namespace Rts
open Go.RowKit Rt
def sgCells (m : Sg) : List Value := [.int .i64 m.b, .int .i64 m.n, .int .i64 m.z]
def SgB (m : Sg) : Prop := (-9223372036854775808 ≤ m.b ∧ m.b ≤ 9223372036854775807) ∧ (-9223372036854775808 ≤ m.n ∧ m.n ≤ 9223372036854775807) ∧ (-9223372036854775808 ≤ m.z ∧ m.z ≤ 9223372036854775807)
def SL : Lay Sg where
 enc := sgCells
 k := 3
 len := fun _ => rfl
 one := by intro f u hu; simp [sgCells] at hu; rcases hu with rfl | rfl | rfl <;> rfl
 pos := by decide
 T := 73
 ok := SgB
 z := zero
theorem info_sg : (Tryz.prog.info? 73).map (fun i => (i.zero, i.size, i.bytes)) = some (some (.agg #[.int .i64 0, .int .i64 0, .int .i64 0]), 3, 24) := by kernel_rfl
theorem sg_at {w : World} {fa : Option Addr} {fn fc : Nat} {l : List Sg} (h : IsL SL w (.slice fa fn fc) l) {i : Nat} (hi : i < fn) :
 ∃ b off, fa = some ⟨b, off, none⟩ ∧ w.cell? ⟨b, off + i * 3, none⟩ = some (.int .i64 (l.getD i zero).b) ∧ w.cell? ⟨b, off + i * 3 + 1, none⟩ = some (.int .i64 (l.getD i zero).n) ∧ w.cell? ⟨b, off + i * 3 + 2, none⟩ = some (.int .i64 (l.getD i zero).z) := by
 have h' := h
 obtain ⟨a', cap', e, _, _, h3⟩ := h
 injection e with e1 e2 e3
 rcases h3 with h3 | ⟨b, off, h4, _⟩
 · rw [h3] at e2; simp at e2; omega
 · subst e1
   subst h4
   exact ⟨b, off, rfl, h'.at_ hi 0 _ rfl, h'.at_ hi 1 _ rfl, h'.at_ hi 2 _ rfl⟩
theorem rbytes11_any (v : Value) (l : List Sg) (w : World) (hv : IsL SL w v l) (hm : May l) :
 Calls Tryz.prog 104 #[v] w fun e w' => e = .returned (.int .i64 (sumZ l)) ∧ w = w' := by
 obtain ⟨fa, fn, fc, rfl⟩ : ∃ a n c, v = .slice a n c := by obtain ⟨a, c, h, _⟩ := hv; exact ⟨a, _, c, h⟩
 have HV := zid hv
 have HM := zid hm
 have HL := zid hv.len.1
 have hl4 : fn ≤ 4096 := by rw [hv.len.1]; exact hm.1
 clear hv hm
 go_enter Tryz.func104, Tryz.ntmps104
 go_wp2_with fail
 go_loop [3, 4] (fun n i => ∃ k : Nat, k ≤ fn ∧ n = .int .i64 (sumZ (l.take k)) ∧ i = .int .i64 k) (fun _ i => fn - (intOf i).toNat)
 case atStart => exact ⟨0, Nat.zero_le _, rfl, rfl⟩
 case round =>
  obtain ⟨k, hk, rfl, rfl⟩ := hrel
  by_cases hlt : k < fn
  · obtain ⟨g, off, rfl, c0, c1, c2⟩ := sg_at HV.out hlt
    have HS := zid (sumZ_take (l := l) (k := k) (by rw [← HL.out]; exact hlt))
    obtain ⟨s1, s2, _, _⟩ := (HM.out.take k).sums
    obtain ⟨_, _, s3, s4⟩ := HM.out.at_ k
    generalize sumZ (l.take k) = S at *
    generalize l.getD k zero = f at *
    go_wp2_with fail
    go_round
    case rel => exact ⟨k + 1, by omega, by rw [HS.out], by go_num⟩
    case measure => simp [intOf]; omega
  · obtain rfl : k = fn := by omega
    have HE := zid (show sumZ (l.take k) = sumZ l by rw [HL.out, List.take_length])
    go_wp2_with fail
    go_ret
    exact ⟨by rw [HE.out]; rfl, rfl⟩
theorem rrecords11_any (v : Value) (l : List Sg) (w : World) (hv : IsL SL w v l) (hm : May l) :
 Calls Tryz.prog 105 #[v] w fun e w' => e = .returned (.int .i64 (sumN l)) ∧ w = w' := by
 obtain ⟨fa, fn, fc, rfl⟩ : ∃ a n c, v = .slice a n c := by obtain ⟨a, c, h, _⟩ := hv; exact ⟨a, _, c, h⟩
 have HV := zid hv
 have HM := zid hm
 have HL := zid hv.len.1
 have hl4 : fn ≤ 4096 := by rw [hv.len.1]; exact hm.1
 clear hv hm
 go_enter Tryz.func105, Tryz.ntmps105
 go_wp2_with fail
 go_loop [3, 4] (fun n i => ∃ k : Nat, k ≤ fn ∧ n = .int .i64 (sumN (l.take k)) ∧ i = .int .i64 k) (fun _ i => fn - (intOf i).toNat)
 case atStart => exact ⟨0, Nat.zero_le _, rfl, rfl⟩
 case round =>
  obtain ⟨k, hk, rfl, rfl⟩ := hrel
  by_cases hlt : k < fn
  · obtain ⟨g, off, rfl, c0, c1, c2⟩ := sg_at HV.out hlt
    have HS := zid (sumN_take (l := l) (k := k) (by rw [← HL.out]; exact hlt))
    obtain ⟨_, _, s1, s2⟩ := (HM.out.take k).sums
    obtain ⟨s3, s4, _, _⟩ := HM.out.at_ k
    generalize sumN (l.take k) = S at *
    generalize l.getD k zero = f at *
    go_wp2_with fail
    go_round
    case rel => exact ⟨k + 1, by omega, by rw [HS.out], by go_num⟩
    case measure => simp [intOf]; omega
  · obtain rfl : k = fn := by omega
    have HE := zid (show sumN (l.take k) = sumN l by rw [HL.out, List.take_length])
    go_wp2_with fail
    go_ret
    exact ⟨by rw [HE.out]; rfl, rfl⟩
theorem rmuch11_any (fa : Option Addr) (fn fc : Nat) (l : List Sg) (keep count : Int) (b : Bool) (w : World) (hv : IsL SL w (.slice fa fn fc) l) (hc : fn ≤ fc) (hm : May l) (hb : b = true ↔ Much l keep count) :
 Calls Tryz.prog 56 #[.slice fa fn fc, .int .i64 keep, .int .i64 count] w fun e w' => e = .returned (.bool b) ∧ w = w' := by
 have hl4 : fn ≤ 4096 := by rw [hv.len.1]; exact hm.1
 have hfl := hv.len.1
 by_cases h1 : 1 < fn
 · have BY := zid (rbytes11_any (.slice fa (fn - 1) fc) (l.take (fn - 1)) w (hv.take (Nat.sub_le _ _)) (hm.take _))
   have RE := zid (rrecords11_any (.slice fa fn fc) l w hv hm)
   have hb2 : b = true ↔ (keep < sumZ (l.take (fn - 1)) ∨ count < sumN l) := by
    rw [hb]
    unfold Much
    rw [← hfl]
    exact ⟨fun h => h.2, fun h => ⟨h1, h⟩⟩
   have hsub : (fn : Int) - 1 = ((fn - 1 : Nat) : Int) := by omega
   generalize sumZ (l.take (fn - 1)) = S at *
   generalize sumN l = N at *
   obtain ⟨m, hmm⟩ : ∃ m, fn - 1 = m := ⟨_, rfl⟩
   rw [hmm] at BY hsub
   have hmf : m ≤ fc := by omega
   have hmf2 : m ≤ fn := by omega
   clear hb hv hm hfl hmm
   by_cases h2 : keep < S
   · have e2 : decide (keep < S) = true := by simpa using h2
     obtain rfl : b = true := hb2.2 (.inl h2)
     clear hb2
     go_enter Tryz.func56, Tryz.ntmps56
     go_wp2_with fail
     refine BY.out.mono ?_
     rintro e w1 ⟨rfl, rfl⟩
     go_wp2_with fail
     go_ret
     exact ⟨rfl, rfl⟩
   · have e2 : decide (keep < S) = false := by simpa using h2
     have e3 : decide (count < N) = b := by
      rw [Bool.eq_iff_iff, decide_eq_true_iff, hb2]
      exact ⟨.inr, fun h => h.resolve_left h2⟩
     clear hb2
     go_enter Tryz.func56, Tryz.ntmps56
     go_wp2_with fail
     refine BY.out.mono ?_
     rintro e w1 ⟨rfl, rfl⟩
     go_wp2_with fail
     refine RE.out.mono ?_
     rintro e w2 ⟨rfl, rfl⟩
     go_wp2_with fail
     go_ret
     exact ⟨rfl, rfl⟩
 · obtain rfl : b = false := by
    rw [← Bool.not_eq_true, hb]
    exact fun h => h1 (by rw [hfl]; exact h.1)
   have e1 : decide ((1 : Int) < (fn : Int)) = false := by simp; omega
   clear hb hv hm hfl
   go_enter Tryz.func56, Tryz.ntmps56
   go_wp2_with fail
   go_ret
   exact ⟨rfl, rfl⟩
theorem rpick11_any (fa : Option Addr) (fn fc : Nat) (l : List Sg) (keep count : Int) (p : Nat) (w : World) (hv : IsL SL w (.slice fa fn fc) l) (hc : fn ≤ fc) (hm : May l) (hp : IsPick l keep count p) :
 Calls Tryz.prog 19 #[.slice fa fn fc, .int .i64 keep, .int .i64 count] w fun e w' => e = .returned (.int .i64 (p : Int)) ∧ w = w' := by
 have hl4 : fn ≤ 4096 := by rw [hv.len.1]; exact hm.1
 have hfl := hv.len.1
 have HV := zid hv
 have HM := zid hm
 have hpl := hp.lt
 rw [← hfl] at hpl
 have HP := zid (show (0 < fn → (∀ b : Bool, (b = true ↔ Much (l.drop p) keep count) → b = false) ∧ ∀ j, j < p → ∀ b : Bool, (b = true ↔ Much (l.drop j) keep count) → b = true) from fun h0 => by
  rcases hp with ⟨rfl, rfl⟩ | ⟨_, a2, a3⟩
  · simp at hfl; omega
  · exact ⟨fun b hb => by rw [← Bool.not_eq_true, hb]; exact a2, fun j hj b hb => hb.2 (a3 j hj)⟩)
 have MU := zid fun (b g : Nat) (o : Nat) (k : Nat) (x : Bool) (hk : k < fn) (ha : fa = some ⟨g, o, none⟩) (hx : x = true ↔ Much (l.drop k) keep count) => rmuch11_any (some ⟨g, o + k * 3, none⟩) (fn - k) (fc - k) (l.drop k) keep count x w (by
  subst ha
  exact HV.out.drop (Nat.le_of_lt hk) _ (by omega) (.inl rfl)) (by omega) (hm.drop k) hx
 obtain ⟨hp1, hp2⟩ := hpl
 clear hv hm hp hfl
 go_enter Tryz.func19, Tryz.ntmps19
 go_wp2_with fail
 go_loop [7] (fun i => ∃ k : Nat, k ≤ p ∧ i = .int .i64 k) (fun i => fn - (intOf i).toNat)
 case atStart => exact ⟨0, Nat.zero_le _, rfl⟩
 case round =>
  obtain ⟨k, hk, rfl⟩ := hrel
  by_cases h0 : 0 < fn
  · have hlt : k < fn := by have := hp2 h0; omega
    have hkc : k ≤ fc := by omega
    obtain ⟨g, o, rfl, _⟩ := sg_at HV.out hlt
    obtain ⟨x, hx⟩ : ∃ x : Bool, x = true ↔ Much (l.drop k) keep count := by
     classical exact ⟨decide (Much (l.drop k) keep count), decide_eq_true_iff⟩
    have MK := zid (MU.out 0 g o k x hlt rfl hx)
    by_cases hkp : k = p
    · subst hkp
      obtain rfl := (HP.out h0).1 x hx
      clear hx
      go_wp2_with fail
      refine MK.out.mono ?_
      rintro e w1 ⟨rfl, rfl⟩
      go_wp2_with fail
      go_ret
      exact ⟨rfl, rfl⟩
    · obtain rfl := (HP.out h0).2 k (by omega) x hx
      clear hx
      go_wp2_with fail
      refine MK.out.mono ?_
      rintro e w1 ⟨rfl, rfl⟩
      go_wp2_with fail
      go_round
      case rel => exact ⟨k + 1, by omega, by go_num⟩
      case measure => simp [intOf]; omega
  · obtain rfl : fn = 0 := by omega
    obtain rfl : p = 0 := by omega
    obtain rfl : k = 0 := by omega
    go_wp2_with fail
    go_ret
    exact ⟨rfl, rfl⟩
end Rts
section
namespace Np
def dig : Nat → Nat → List UInt8
 | 0, _ => []
 | k + 1, n => dig k (n / 10) ++ [UInt8.ofNat (48 + n % 10)]
theorem dig_len : ∀ (k n : Nat), (dig k n).length = k
 | 0, _ => rfl
 | k + 1, n => by simp [dig, dig_len k (n / 10)]
theorem dig_add (j : Nat) : ∀ (k n : Nat), dig (j + k) n = dig j (n / 10 ^ k) ++ dig k n
 | 0, n => by simp [dig]
 | k + 1, n => by
  rw [show j + (k + 1) = (j + k) + 1 from rfl, dig, dig_add j k (n / 10), dig, Nat.div_div_eq_div_mul, Nat.pow_succ, Nat.mul_comm 10 (10 ^ k)]
  simp
theorem dig_cons (k n : Nat) : dig (k + 1) n = UInt8.ofNat (48 + n / 10 ^ k % 10) :: dig k n := by
 rw [show k + 1 = 1 + k from by omega, dig_add 1 k n]
 simp [dig]
def nameL (c : UInt8) (n : Int) : List UInt8 := if 0 ≤ n ∧ n ≤ 1099511627776 then c :: dig 13 n.toNat else []
def isDig (c : UInt8) : Bool := decide (48 ≤ c.toNat) && decide (c.toNat ≤ 57)
theorem isDig_iff (c : UInt8) : isDig c = true ↔ 48 ≤ c.toNat ∧ c.toNat ≤ 57 := by unfold isDig; simp
def val (l : List UInt8) : Nat := l.foldl (fun a c => a * 10 + (c.toNat - 48)) 0
theorem val_snoc (l : List UInt8) (c : UInt8) : val (l ++ [c]) = val l * 10 + (c.toNat - 48) := by simp [val]
theorem digit (n : Nat) : (UInt8.ofNat (48 + n % 10)).toNat = 48 + n % 10 := by
 rw [UInt8.toNat_ofNat']; omega
theorem val_dig : ∀ (k n : Nat), val (dig k n) = n % 10 ^ k
 | 0, n => by simp [dig, val, Nat.mod_one]
 | k + 1, n => by
  rw [dig, val_snoc, val_dig k, digit, Nat.pow_succ, Nat.mul_comm (10 ^ k) 10, Nat.mod_mul]
  omega
theorem dig_all : ∀ (k n : Nat), (dig k n).all isDig = true
 | 0, _ => rfl
 | k + 1, n => by
  rw [dig, List.all_append, dig_all k]
  simp only [List.all_cons, List.all_nil, Bool.and_true, Bool.true_and]
  rw [isDig_iff, digit]
  omega
def offB (l : List UInt8) : Bool := l.all isDig && decide (val l ≤ 1099511627776)
theorem offB_iff (l : List UInt8) : offB l = true ↔ l.all isDig = true ∧ val l ≤ 1099511627776 := by unfold offB; simp
def kind (s : List UInt8) : UInt8 × Nat :=
 if s = [109] ∨ s = [110] then (s.headD 0, 0)
 else if s.length = 14 ∧ (s.headD 0 = 115 ∨ s.headD 0 = 116) ∧ offB s.tail = true then (s.headD 0, val s.tail)
 else (0, 0)
theorem kind_name {c : UInt8} (hc : c = 115 ∨ c = 116) {n : Nat} (h : n ≤ 1099511627776) : kind (nameL c (n : Int)) = (c, n) := by
 have e : nameL c (n : Int) = c :: dig 13 n := by unfold nameL; rw [if_pos ⟨by omega, by omega⟩]; simp
 have v : val (dig 13 n) = n := by rw [val_dig]; exact Nat.mod_eq_of_lt (by omega)
 rw [e]
 unfold kind
 have l := dig_len 13 n
 rw [if_neg, if_pos]
 · simp [v]
 · refine ⟨by simp [l], by simpa using hc, ?_⟩
   rw [List.tail_cons, offB_iff]
   exact ⟨dig_all _ _, by omega⟩
 · rintro (h | h) <;> · have := congrArg List.length h; simp [l] at this
theorem name_inj {c : UInt8} (hc : c = 115 ∨ c = 116) {a b : Nat} (ha : a ≤ 1099511627776) (hb : b ≤ 1099511627776) (h : nameL c (a : Int) = nameL c (b : Int)) : a = b := by
 have := (kind_name hc ha).symm.trans ((congrArg kind h).trans (kind_name hc hb))
 exact congrArg Prod.snd this
theorem name_len (c : UInt8) {a : Nat} (ha : a ≤ 1099511627776) : (nameL c (a : Int)).length = 14 := by
 unfold nameL; rw [if_pos ⟨by omega, by omega⟩, List.length_cons, dig_len]
theorem name_short (c : UInt8) (a : Int) : (nameL c a).length ≤ 14 := by
 unfold nameL; split <;> simp [dig_len]
end Np
end
section
open Go.RowKit Go.Lib
namespace Nm
def nmV (c : UInt8) (n i : Nat) : Array Value := (Value.int .u8 (c.toNat : Int) :: (List.range 13).map fun j => Value.int .u8 ((if j < i then 0 else 48 + n / 10 ^ (12 - j) % 10 : Nat) : Int)).toArray
theorem nmV_size (c : UInt8) (n i : Nat) : (nmV c n i).size = 14 := by simp [nmV]
theorem nmV_zero (c : UInt8) (n i j : Nat) (h : j = 0) : (nmV c n i)[j]? = some (.int .u8 (c.toNat : Int)) := by subst h; simp [nmV]
theorem nmV_at {c : UInt8} {n i j : Nat} (hj : j < 13) : (nmV c n i)[j + 1]? = some (.int .u8 ((if j < i then 0 else 48 + n / 10 ^ (12 - j) % 10 : Nat) : Int)) := by
 unfold nmV
 rw [List.getElem?_toArray, List.getElem?_cons_succ, List.getElem?_map, List.getElem?_range hj]; rfl
theorem nmV_step {c : UInt8} {n i : Nat} (hi : i < 13) : (nmV c n (i + 1)).setIfInBounds (i + 1) (.int .u8 ((48 + n / 10 ^ (12 - i) % 10 : Nat) : Int)) = nmV c n i := by
 apply Array.ext_getElem?
 intro j
 rw [Array.getElem?_setIfInBounds, nmV_size]
 rcases Nat.eq_zero_or_pos j with h0 | h0
 · rw [if_neg (by omega), nmV_zero _ _ _ _ h0, nmV_zero _ _ _ _ h0]
 · obtain ⟨j, rfl⟩ : ∃ k, j = k + 1 := ⟨j - 1, by omega⟩
   rcases Nat.lt_or_ge j 13 with hj | hj
   · rw [nmV_at hj, nmV_at hj]
     by_cases e : i + 1 = j + 1
     · have : i = j := by omega
       subst this
       rw [if_pos rfl, if_pos (by omega), if_neg (by omega)]
     · rw [if_neg e]
       by_cases h : j < i
       · rw [if_pos h, if_pos (by omega)]
       · rw [if_neg h, if_neg (by omega)]
   · have hz : ∀ k, (nmV c n k)[j + 1]? = none := fun k => Array.getElem?_eq_none (by rw [nmV_size]; omega)
     rw [if_neg (by omega), hz, hz]
theorem dig_get : ∀ (k n j : Nat), j < k → (Np.dig k n)[j]? = some (UInt8.ofNat (48 + n / 10 ^ (k - 1 - j) % 10)) := by
 intro k
 induction k with
 | zero => intro n j h; omega
 | succ k ih =>
  intro n j h
  rw [Np.dig_cons]
  cases j with
  | zero => simp
  | succ j => rw [List.getElem?_cons_succ, ih n j (by omega), show k - 1 - j = k + 1 - 1 - (j + 1) from by omega]
def cellsOf (l : List UInt8) : Array Value := (l.map fun b => Value.int .u8 (b.toNat : Int)).toArray
theorem nmV_done (c : UInt8) (n : Nat) : nmV c n 0 = cellsOf (c :: Np.dig 13 n) := by
 apply Array.ext_getElem?
 intro j
 unfold cellsOf
 rcases Nat.eq_zero_or_pos j with h0 | h0
 · subst h0; rw [nmV_zero _ _ _ _ rfl]; simp
 · obtain ⟨j, rfl⟩ : ∃ k, j = k + 1 := ⟨j - 1, by omega⟩
   have e : (List.map (fun b : UInt8 => Value.int .u8 (b.toNat : Int)) (c :: Np.dig 13 n)).toArray[j + 1]? = (Np.dig 13 n)[j]?.map fun b => Value.int .u8 (b.toNat : Int) := by simp
   rw [e]
   rcases Nat.lt_or_ge j 13 with hj | hj
   · rw [nmV_at hj, dig_get 13 n j hj, if_neg (by omega), Option.map_some, Np.digit, show 13 - 1 - j = 12 - j from by omega]
   · rw [Array.getElem?_eq_none (by rw [nmV_size]; omega), List.getElem?_eq_none (by rw [Np.dig_len]; omega)]; rfl
theorem conv_nm (w : World) (l : List UInt8) (T : TypeId) (hl : l.length = 14) : (convert 102 9 (.slice (some ⟨w.heap.size, 0, none⟩) 14 14)).run Tryz.prog (w.alloc (.cells (cellsOf l) T)) = .ok (.string ⟨l.toArray⟩) (w.alloc (.cells (cellsOf l) T)) := by
 have := run_convert_bytes_back (P := Tryz.prog) (w.alloc (.cells (cellsOf l) T)) 102 9 5 ⟨w.heap.size, 0, none⟩ 14 l Tryz.underlying102 Tryz.underlying5 Tryz.underlying9 (fun j hj => by
  rw [addr_plain, cell_of_row _ _ _ _ _ _ (heap_alloc_new w _)]
  simp [cellsOf, hj])
 rw [hl] at this
 exact this
end Nm
open Go.Proofs.YtijbpdpkoamhbaaGreat.Nm
theorem mayBe_any (n : Int) (w : World) : Calls Tryz.prog 135 #[.int .i64 n] w fun e w' => e = .returned (.bool (decide (0 ≤ n ∧ n ≤ 1099511627776))) ∧ w = w' := by
 by_cases h0 : 0 ≤ n
 · by_cases h1 : n ≤ 1099511627776
   · rw [decide_eq_true (⟨h0, h1⟩ : 0 ≤ n ∧ n ≤ 1099511627776)]
     go_enter Tryz.func135, Tryz.ntmps135
     go_wp2
     go_ret
     exact ⟨rfl, rfl⟩
   · rw [decide_eq_false (fun h : 0 ≤ n ∧ n ≤ 1099511627776 => h1 h.2)]
     have h2 : 1099511627776 < n := by omega
     go_enter Tryz.func135, Tryz.ntmps135
     go_wp2
     go_ret
     exact ⟨rfl, rfl⟩
 · rw [decide_eq_false (fun h : 0 ≤ n ∧ n ≤ 1099511627776 => h0 h.1)]
   have h2 : n < 0 := by omega
   go_enter Tryz.func135, Tryz.ntmps135
   go_wp2
   go_ret
   exact ⟨rfl, rfl⟩
theorem nameL_no {c : UInt8} {n : Int} (h : ¬ (0 ≤ n ∧ n ≤ 1099511627776)) : Np.nameL c n = [] := by unfold Np.nameL; rw [if_neg h]
theorem nameL_yes {c : UInt8} {n : Nat} (h : n ≤ 1099511627776) : Np.nameL c (n : Int) = c :: Np.dig 13 n := by
 unfold Np.nameL; rw [if_pos ⟨by omega, by omega⟩]; simp
theorem laid_no (c : Int) (n : Int) (w : World) (h : ¬ (0 ≤ n ∧ n ≤ 1099511627776)) :
 Calls Tryz.prog 92 #[.int .u8 c, .int .i64 n] w fun e w' => e = .returned (.string ⟨#[]⟩) ∧ Below w.heap.size w w' := by
 have C1 := mayBe_any n
 rw [decide_eq_false h] at C1
 have C1 := zid C1
 clear h
 go_enter Tryz.func92, Tryz.ntmps92
 go_wp2_with fail
 refine (C1.out _).mono ?_
 rintro e w1 ⟨rfl, rfl⟩
 go_wp2_with fail
 go_ret
 exact ⟨rfl, Below.refl _ _⟩
theorem nm_div (n k : Nat) (hk : k < 13) : n / 10 ^ (12 - k) / 10 = n / 10 ^ (13 - k) := by
 rw [Nat.div_div_eq_div_mul, show 13 - k = 12 - k + 1 from by omega, Nat.pow_succ]
theorem laid_yes (c : UInt8) (n : Nat) (w : World) (h : n ≤ 1099511627776) :
 Calls Tryz.prog 92 #[.int .u8 (c.toNat : Int), .int .i64 n] w fun e w' => e = .returned (.string ⟨(c :: Np.dig 13 n).toArray⟩) ∧ Below w.heap.size w w' := by
 have C1 := mayBe_any (n : Int)
 rw [decide_eq_true (⟨by omega, by omega⟩ : (0 : Int) ≤ n ∧ (n : Int) ≤ 1099511627776)] at C1
 have C1 := zid C1
 have hb := c.toNat_lt
 have hbi : (c.toNat : Int) < 256 := by omega
 go_enter Tryz.func92, Tryz.ntmps92
 go_wp2_with fail
 refine (C1.out _).mono ?_
 rintro e w1 ⟨rfl, rfl⟩
 go_wp2_with fail
 go_loopw [1, 6] (fun a i wr => ∃ k m : Nat, k ≤ 13 ∧ m ≤ 1099511627776 ∧ a = .int .i64 m ∧ i = .int .i64 k ∧ m = n / 10 ^ (13 - k) ∧ wr = w.alloc (.cells (nmV c n k) 158)) (fun _ i _ => (RowKit.intOf i).toNat)
 case atStart => exact ⟨13, n, by omega, h, rfl, rfl, by simp, rfl⟩
 case round =>
  obtain ⟨k, m, hk, hm, rfl, rfl, hmn, rfl⟩ := hrel
  have HM := zid hmn
  clear hmn
  by_cases h0 : 0 < k
  · obtain ⟨k, rfl⟩ : ∃ j, k = j + 1 := ⟨k - 1, by omega⟩
    have hget : (nmV c n (k + 1))[k + 1]? = some (.int .u8 0) := by rw [nmV_at (by omega), if_pos (by omega)]; rfl
    have HT := zid (nmV_step (c := c) (n := n) (i := k) (by omega))
    go_wp2
    go_roundw
    case rel =>
     refine ⟨k, m / 10, by omega, by omega, by go_num, by go_num, ?_, ?_⟩
     · rw [HM.out, show 13 - (k + 1) = 12 - k from by omega, nm_div n k (by omega)]
     · rw [← HT.out, show 12 - k = 13 - (k + 1) from by omega, ← HM.out]
       congr 3
    case measure => simp [RowKit.intOf]
  · obtain rfl : k = 0 := by omega
    have hcv := conv_nm w (c :: Np.dig 13 n) 158 (by simp [Np.dig_len])
    rw [nmV_done]
    go_wp2
    go_ret
    exact ⟨rfl, (Below.refl _ _).alloc (Nat.le_refl _) _⟩
theorem laid_any (c : UInt8) (n : Int) (w : World) (h1 : -9223372036854775808 ≤ n) :
 Calls Tryz.prog 92 #[.int .u8 (c.toNat : Int), .int .i64 n] w fun e w' => e = .returned (.string ⟨(Np.nameL c n).toArray⟩) ∧ Below w.heap.size w w' := by
 by_cases h : 0 ≤ n ∧ n ≤ 1099511627776
 · obtain ⟨n, rfl⟩ : ∃ k : Nat, n = (k : Int) := ⟨n.toNat, by omega⟩
   rw [nameL_yes (by omega)]
   exact laid_yes c n w (by omega)
 · rw [nameL_no h]
   exact laid_no _ n w h
theorem seg_any (n : Int) (w : World) (h1 : -9223372036854775808 ≤ n) :
 Calls Tryz.prog 79 #[.int .i64 n] w fun e w' => e = .returned (.string ⟨(Np.nameL 115 n).toArray⟩) ∧ Below w.heap.size w w' := by
 have C1 := fun W : World => laid_any 115 n W h1
 generalize Np.nameL 115 n = l at *
 rw [show (((115 : UInt8).toNat : Nat) : Int) = 115 from rfl] at C1
 have C1 := zid C1
 go_enter Tryz.func79, Tryz.ntmps79
 go_wp2_with fail
 refine (C1.out _).mono ?_
 rintro e w1 ⟨rfl, b1⟩
 go_wp2_with fail
 go_ret
 exact ⟨rfl, b1⟩
theorem snap_any (n : Int) (w : World) (h1 : -9223372036854775808 ≤ n) :
 Calls Tryz.prog 48 #[.int .i64 n] w fun e w' => e = .returned (.string ⟨(Np.nameL 116 n).toArray⟩) ∧ Below w.heap.size w w' := by
 have C1 := fun W : World => laid_any 116 n W h1
 generalize Np.nameL 116 n = l at *
 rw [show (((116 : UInt8).toNat : Nat) : Int) = 116 from rfl] at C1
 have C1 := zid C1
 go_enter Tryz.func48, Tryz.ntmps48
 go_wp2_with fail
 refine (C1.out _).mono ?_
 rintro e w1 ⟨rfl, b1⟩
 go_wp2_with fail
 go_ret
 exact ⟨rfl, b1⟩
end
end Go.Proofs.YtijbpdpkoamhbaaGreat
