/-
  The law of any disk and any act.
-/
import Derived.Test.YtbkiecjbjehaoaaDiskDuo
import Derived.Test.YtbkiecjbjehaoaaDiskNames
namespace Go.Proofs.Ytbkiecjbjehaoaa.Dsk
open Go.RowKit Go.Proofs.Ytbkiecjbjehaoaa.Dp

/-- The two arguments in their boxes. -/
structure Bx (fv : Value) (D : Dk) (r : Ra) (w W : World) : Prop where
  a : W.heap[w.heap.size]? = some (.cells #[fv, .int .i64 D.c, .bool D.a, .int .i64 D.l, .bool D.x] 24 (0, 0))
  b : W.heap[w.heap.size + 1]? = some (.cells #[.int .i64 r.x.k, .int .i64 r.x.i, .string r.x.n, .string r.x.t, .slice r.a r.n r.c] 27 (0, 0))
  bel : Below w.heap.size w W
theorem Bx.keep {fv : Value} {D : Dk} {r : Ra} {w W W' : World} (h : Bx fv D r w W) (b : Below W.heap.size W W') : Bx fv D r w W' := ⟨hkeep h.a b, hkeep h.b b, h.bel.trans (b.mono h.bel.size)⟩
theorem al_one (W : World) (r : Ra) (hr : RaB r) : IsL AL (W.alloc (.cells #[.int .i64 r.x.k, .int .i64 r.x.i, .string r.x.n, .string r.x.t, .slice r.a r.n r.c] 27)) (.slice (some ⟨W.heap.size, 0, none⟩) 1 1) [r] := by
  refine ⟨_, 1, rfl, (by decide : 1 ≤ maxLen), fun x hx => by rw [List.mem_singleton] at hx; rw [hx]; exact hr, .inr ⟨W.heap.size, 0, rfl, fun j u hj => ?_⟩⟩
  have := news_new W W.heap.size (raCells r) 27 rfl j u (by rw [Lay.vals_one] at hj; exact hj)
  rwa [addr_plain] at this
theorem act_sm {D : Dk} {a : Dp.Act} (h : Sm D) (hn : D.f.length ≤ 1000) (hu : used D.f ≤ 1000000) (hi : a.i ≤ 9223372036854775807) (ht : a.t.size ≤ 1000) : Sm (act D a).1 := by
  obtain ⟨h1, h2⟩ := act_small D a
  exact ⟨act_dkb h.b h.l0 hi, h.r.act a, by omega, by omega⟩
theorem few_used {l : List Fl} (h : FewF l) : used l ≤ 120000 := by
  obtain ⟨h1, h2⟩ := h
  have key : ∀ l : List Fl, (∀ f ∈ l, f.d.size ≤ 3000) → used l ≤ 3000 * l.length := by
    intro l
    induction l with
    | nil => intro _; exact Nat.le_refl _
    | cons f l ih =>
      intro h
      have h1 := h f (by simp)
      have h2 := ih fun g hg => h g (by simp [hg])
      rw [used_cons, List.length_cons]
      omega
  have := key l fun f hf => (h2 f hf).1
  omega
theorem kept_is {w' : World} {B : Nat} {fv v : Value} {l0 l : List Fl} (hk : KeptOr w' B fv l0 v l) (hv : IsL FL w' fv l0) (hn : l.length ≤ maxLen) (hf : ∀ f ∈ l, FlB f) : IsL FL w' v l := by
  rcases hk with ⟨rfl, rfl⟩ | h
  · exact hv
  · exact h.is hn hf

set_option maxRecDepth 100000 in
set_option maxHeartbeats 6400000 in
theorem tells_not (fv : Value) (D : Dk) (r : Ra) (w : World) (hv : IsL FL w fv D.f) (hr : RaOk w r) (hno : ¬ (FewF D.f ∧ Short [r])) :
    Calls Try.prog 3 #[dkVal fv D, raVal r] w fun e w' => e = .returned (.bool true) ∧ Below w.heap.size w w' := by
  obtain ⟨fa, fn, fc, rfl⟩ : ∃ a n c, fv = .slice a n c := by obtain ⟨a, c, h, _⟩ := hv; exact ⟨a, _, c, h⟩
  have HV := Lib.hid hv
  have HRB := Lib.hid hr.1
  obtain ⟨b, hb⟩ : ∃ b : Bool, (b = true ↔ Right D) := by
    by_cases h : Right D
    · exact ⟨true, by simp [h]⟩
    · exact ⟨false, by simp [h]⟩
  have R1 := Lib.hid fun (W : World) (h : Bx (.slice fa fn fc) D r w W) => right_any (.slice fa fn fc) D b W (HV.out.keep h.bel) hb
  have R2 := Lib.hid fun (W : World) (h : Bx (.slice fa fn fc) D r w W) => rright_any (.slice fa fn fc) D b W (HV.out.keep h.bel) hb
  have AW := Lib.hid fun W : World => awake06 W
  have SH := Lib.hid fun (W : World) => short_any _ [r] _ (al_one W r HRB.out)
  have FW := fun (W : World) (h : Bx (.slice fa fn fc) D r w W) => rfew_any (.slice fa fn fc) D _ W (HV.out.keep h.bel) rfl
  obtain ⟨g0, g1, gb, gs⟩ := boxes2 w #[.slice fa fn fc, .int .i64 D.c, .bool D.a, .int .i64 D.l, .bool D.x] #[.int .i64 r.x.k, .int .i64 r.x.i, .string r.x.n, .string r.x.t, .slice r.a r.n r.c] 24 27
  have H0 : Bx (.slice fa fn fc) D r w _ := ⟨g0, g1, gb⟩
  replace H0 := Lib.hid H0
  clear g0 g1 gb gs hv hr hb
  have hcase : (decide (FewF D.f) = false) ∨ (decide (FewF D.f) = true ∧ decide (Short [r]) = false) := by
    by_cases h1 : FewF D.f
    · exact .inr ⟨decide_eq_true h1, decide_eq_false fun h => hno ⟨h1, h⟩⟩
    · exact .inl (decide_eq_false h1)
  clear hno
  unfold dkVal at R1 R2 FW ⊢
  unfold raVal
  rcases hcase with hf | ⟨hf, hs⟩
  · rw [hf] at FW
    replace FW := Lib.hid FW
    clear hf
    obtain ⟨p0, p1, p2, p3, p4⟩ := cells5 H0.out.a
    obtain ⟨a0, a1, a2, a3, a4⟩ := cells5 H0.out.b
    go_enter Try.func3, Try.ntmps3
    go_wp2_with fail
    generalize World.alloc (World.alloc w _) _ = w0 at H0 p0 p1 p2 p3 p4 a0 a1 a2 a3 a4 ⊢
    go_cut [31] (fun v w2 => v = .bool true ∧ Below w0.heap.size w0 w2)
    case first =>
      have H0d := Lib.hid (H0.out.keep (Below.refl _ _).drew)
      go_region_with ((go_at_call 6; (first | refine (FW.out _ H0d.out).mono ?_ | refine (FW.out _ H0.out).mono ?_); rintro e w1 ⟨rfl, b1⟩; have B1 := Lib.hid (show Below w0.heap.size w0 w1 from (by first | exact b1 | exact (Below.refl _ w0).drew.trans b1)); clear b1))
      all_goals go_wp2_with fail
      all_goals go_meet
      all_goals
        case rel => first | exact ⟨rfl, B1.out⟩ | exact ⟨rfl, B1.out.drew⟩
    case rest =>
      obtain ⟨rfl, bc⟩ := hcut
      have H2 := Lib.hid (H0.out.keep bc)
      clear p0 p1 p2 p3 p4 a0 a1 a2 a3 a4 bc
      obtain ⟨p0, p1, p2, p3, p4⟩ := cells5 H2.out.a
      go_wp2_with fail
      go_region_with (first | (go_at_call 10; refine (AW.out _).mono ?_; rintro e w5 ⟨rfl, b5⟩; have H5 := Lib.hid (H2.out.keep (show Below wc.heap.size wc w5 from (by first | exact b5 | exact (Below.refl _ wc).drew.trans b5))); obtain ⟨p0, p1, p2, p3, p4⟩ := cells5 H5.out.a; clear b5) | (go_at_call 8; refine (R1.out _ H5.out).mono ?_; rintro e w6 ⟨rfl, b6⟩; have H6 := Lib.hid (H5.out.keep b6); obtain ⟨p0, p1, p2, p3, p4⟩ := cells5 H6.out.a; clear b6) | (go_at_call 9; refine (R2.out _ H6.out).mono ?_; rintro e w7 ⟨rfl, b7⟩; have H7 := Lib.hid (H6.out.keep b7); clear b7))
      all_goals go_wp2_with fail
      all_goals go_ret
      all_goals exact ⟨by first | rfl | (cases b <;> rfl), H7.out.bel⟩
  · rw [hf] at FW
    rw [hs] at SH
    replace FW := Lib.hid FW
    clear hf hs
    obtain ⟨p0, p1, p2, p3, p4⟩ := cells5 H0.out.a
    obtain ⟨a0, a1, a2, a3, a4⟩ := cells5 H0.out.b
    go_enter Try.func3, Try.ntmps3
    go_wp2_with fail
    generalize World.alloc (World.alloc w _) _ = w0 at H0 p0 p1 p2 p3 p4 a0 a1 a2 a3 a4 ⊢
    go_cut [31] (fun v w2 => v = .bool true ∧ Below w0.heap.size w0 w2)
    case first =>
      have H0d := Lib.hid (H0.out.keep (Below.refl _ _).drew)
      go_region_with (first | (go_at_call 6; (first | refine (FW.out _ H0d.out).mono ?_ | refine (FW.out _ H0.out).mono ?_); rintro e w1 ⟨rfl, b1⟩; have B1 := Lib.hid (show Below w0.heap.size w0 w1 from (by first | exact b1 | exact (Below.refl _ w0).drew.trans b1)); have H1 := Lib.hid (H0.out.keep B1.out); obtain ⟨a0, a1, a2, a3, a4⟩ := cells5 H1.out.b; clear b1) | (go_at_call 7; refine (SH.out _).mono ?_; rintro e w2 ⟨rfl, rfl⟩; have B2 := Lib.hid (B1.out.alloc B1.out.size (.cells #[.int .i64 r.x.k, .int .i64 r.x.i, .string r.x.n, .string r.x.t, .slice r.a r.n r.c] 27))))
      all_goals go_wp2_with fail
      all_goals go_meet
      all_goals
        case rel => first | exact ⟨rfl, B2.out⟩ | exact ⟨rfl, B2.out.drew⟩
    case rest =>
      obtain ⟨rfl, bc⟩ := hcut
      have H2 := Lib.hid (H0.out.keep bc)
      clear p0 p1 p2 p3 p4 a0 a1 a2 a3 a4 bc
      obtain ⟨p0, p1, p2, p3, p4⟩ := cells5 H2.out.a
      go_wp2_with fail
      go_region_with (first | (go_at_call 10; refine (AW.out _).mono ?_; rintro e w5 ⟨rfl, b5⟩; have H5 := Lib.hid (H2.out.keep (show Below wc.heap.size wc w5 from (by first | exact b5 | exact (Below.refl _ wc).drew.trans b5))); obtain ⟨p0, p1, p2, p3, p4⟩ := cells5 H5.out.a; clear b5) | (go_at_call 8; refine (R1.out _ H5.out).mono ?_; rintro e w6 ⟨rfl, b6⟩; have H6 := Lib.hid (H5.out.keep b6); obtain ⟨p0, p1, p2, p3, p4⟩ := cells5 H6.out.a; clear b6) | (go_at_call 9; refine (R2.out _ H6.out).mono ?_; rintro e w7 ⟨rfl, b7⟩; have H7 := Lib.hid (H6.out.keep b7); clear b7))
      all_goals go_wp2_with fail
      all_goals go_ret
      all_goals exact ⟨by first | rfl | (cases b <;> rfl), H7.out.bel⟩

end Go.Proofs.Ytbkiecjbjehaoaa.Dsk
