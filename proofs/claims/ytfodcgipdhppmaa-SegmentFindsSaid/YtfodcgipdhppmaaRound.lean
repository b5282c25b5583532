/-
  A region that draws its order, in the round of a loop over an iterator: what is shown of it as everywhere holds of it there, where it defers nothing.
-/
import Derived.RangeFuncNested
import Derived.RangeFuncBound
import Derived.RangeFuncCalls
import Derived.OrdersIn
import Derived.OwnWalkIn
import Derived.Deep.RegionHeld
namespace Go.Proofs.Ytfodcgipdhppmaa
open Go.RowKit

def noDefer (ops : Array Oper) : Bool := ops.toList.all fun o => match o.op with | .defer _ => false | _ => true
theorem noDefer_spec {ops : Array Oper} (h : noDefer ops = true) {i : Nat} {o : Oper} (ho : ops[i]? = some o) : ∀ c, o.op ≠ .defer c := by
  intro c hc
  unfold noDefer at h
  rw [List.all_eq_true] at h
  have hm : o ∈ ops.toList := by
    rw [Array.mem_toList_iff]
    exact Array.mem_of_getElem? ho
  have := h o hm
  rw [hc] at this
  cases this

theorem op_round {l n : Nat} {P : Program} {o : Oper} {a : Act} {w : World} {K : Act → World → Prop} {Q : Exit → Act → World → Prop} (hd : ∀ c, o.op ≠ .defer c) (h : o.wp P a w K Q) : o.wpIn (Fence.wide.inRound l) n P a w K Q := by
  unfold Oper.wpIn
  refine ⟨fun _ _ => trivial, ?_⟩
  rw [Oper.semAt_plain _ _ _ hd]
  unfold Oper.wp at h
  generalize (execOp a.eval o).run P w = r at *
  cases r with
  | ok x w' =>
    cases x with
    | enter f args => exact ⟨fun e => (by cases e), CallsIn.inRound l (callsIn_wide.2 h)⟩
    | row row args => exact ⟨fun e => (by cases e), fun c cs _ => let ⟨v, w'', r, s⟩ := h c cs; ⟨v, w'', r, stepsIn_wide.2 s⟩⟩
    | value v => exact h
    | skip => exact h
    | «defer» d => exact h
    | _ => exact h.elim
  | halt x w' => cases x <;> exact h

theorem any_round {l n : Nat} {P : Program} {md : Region.Mode} {ops : Array Oper} {Q : Exit → Act → World → Prop} (hd : noDefer ops = true) (hQ : ¬ LetsOut Q) :
    ∀ (fuel : Nat) (listed : Array Bool) (a : Act) (w : World), wpAny P md ops Q fuel listed a w → wpAnyIn (Fence.wide.inRound l) n P md ops Q fuel listed a w
  | 0, _, _, _, h => h
  | fuel + 1, listed, a, w, h => ⟨h.1, fun i hi => by
    have h1 := wpOp_mono (K' := wpAnyIn (Fence.wide.inRound l) n P md ops Q fuel (listed.setIfInBounds i true)) (fun a' w' h' => any_round hd hQ fuel _ a' w' h') (h.2 i hi)
    unfold wpOp at h1
    unfold wpOpIn
    cases ho : ops[i]? with
    | none => rw [ho] at h1; exact h1
    | some o =>
      rw [ho] at h1
      dsimp only at h1 ⊢
      by_cases hw : Region.wanted o (yielded ops a.tmps) = true
      · rw [if_pos hw] at h1 ⊢
        rcases h1 with h1 | h1
        · exact op_round (noDefer_spec hd ho) h1
        · exact absurd h1.2 hQ
      · rw [if_neg hw] at h1 ⊢
        exact ⟨fun _ _ => trivial, h1⟩⟩

/-- A region that draws its order, in a round: the beginning, with what holds at every step. -/
theorem region_round {l n : Nat} {P : Program} {id : Nat} {ops : Array Oper} {Q : Exit → Act → World → Prop} {a : Act} {w : World} (hm : P.follows .mixedOrders = true) (hd : noDefer ops = true) (hQ : ¬ LetsOut Q) (S : World → Prop) (k : Nat) (hk : ops.size = k) (L : Array Bool) (hL : Array.replicate k false = L)
    (h : wpAnyH P .any ops Q S k L a w.drew) : (Code.region id ops true).wpIn (Fence.wide.inRound l) n P Q a w :=
  wpIn_region_any hm (any_round hd hQ _ _ _ _ (wpAny_of_held _ _ _ _ (by rw [hk, hL]; exact h)))

/-- A block of two pieces, each left at its end. -/
theorem block_two {F : Fence} {n : Nat} {P : Program} {id : Nat} {c1 c2 : Code} {Q : Exit → Act → World → Prop} {a : Act} {w : World} (R : Act → World → Prop)
    (h1 : c1.wpIn F n P (fun e a w => e = .normal ∧ R a w) a w) (h2 : ∀ a w, R a w → c2.wpIn F n P (fun e a w => e = .normal ∧ Q .normal a w) a w) : (Code.block id (c1.seq c2)).wpIn F n P Q a w := by
  refine wpIn_block (wpIn_seq (wpIn_mono h1 ?_))
  rintro e a w ⟨rfl, hr⟩
  refine wpIn_mono (h2 a w hr) ?_
  rintro e a w ⟨rfl, hq⟩
  exact hq
theorem not_out {R : Act → World → Prop} : ¬ LetsOut (fun e a w => e = Exit.normal ∧ R a w) := fun ⟨_, _, h, _⟩ => by cases h

end Go.Proofs.Ytfodcgipdhppmaa
