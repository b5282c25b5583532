/-
  One wheel of a call's own, for the laws of layer 18.
-/
import Derived.Test.YtpbpkeifehobjaaTimWp
namespace Go.Proofs.Ytpbpkeifehobjaa.Tm
open Go.RowKit Go.Proofs.Ytpbpkeifehobjaa.Tp Go.Proofs.Ytpbpkeifehobjaa.Aps

/-- One wheel in box B. -/
structure Wo (w : World) (B : Nat) (now : Int) (L : List Al) (v : Value) (W : World) : Prop where
  b : Bs w [(B, #[.int .i64 now, v], 26)] W
  lv : IsL TL W v L
  nv : NilOk v
  av : ∀ p n c, v = .slice (some p) n c → p.block ≠ B ∧ p.block < W.heap.size
theorem Wo.keep {w W W' : World} {B : Nat} {now : Int} {L : List Al} {v : Value} (h : Wo w B now L v W) (k : Below W.heap.size W W') : Wo w B now L v W' := ⟨h.b.keep k, h.lv.keep k, h.nv, fun p n c e => (h.av p n c e).imp id (fun y => Nat.lt_of_lt_of_le y k.size)⟩
/-- The box is written anew. -/
theorem Wo.put {w W W' : World} {B : Nat} {now now' : Int} {L L' : List Al} {v : Value} {a : Option Addr} {n c : Nat} (h : Wo w B now L v W) (hB : w.heap.size ≤ B) (k : Below W.heap.size W W') (hi : IsL TL W' (.slice a n c) L') (hn : NilOk (.slice a n c)) (hr : Near W.heap.size W'.heap.size v (.slice a n c)) :
    Wo w B now' L' (.slice a n c) ((W'.setCell ⟨B, 0, none⟩ (.int .i64 now')).setCell ⟨B, 1, none⟩ (.slice a n c)) := by
  have hlt := h.b.lt (.head _)
  have hp : ∀ p n' c', Value.slice a n c = .slice (some p) n' c' → p.block ≠ B ∧ p.block < W'.heap.size := by
    intro p n' c' e
    have hs := k.size
    rcases hr p n' c' e with h1 | ⟨p', n2, c2, e', h1⟩
    · omega
    · have := h.av p' n2 c2 e'
      omega
  refine ⟨((h.b.keep k).set hB (fun _ hp => absurd hp List.not_mem_nil) 0 (.int .i64 now')).set hB (fun _ hp => absurd hp List.not_mem_nil) 1 (.slice a n c), isl_put (isl_put hi _ _ _ (fun _ p n c e => (hp p n c e).1)) _ _ _ (fun _ p n c e => (hp p n c e).1), hn, fun p n' c' e => ⟨(hp p n' c' e).1, by simpa using (hp p n' c' e).2⟩⟩
theorem Wo.start (w : World) : Wo w w.heap.size 0 [] (.slice none 0 0) (w.alloc (.cells #[.int .i64 0, .slice none 0 0] 26)) :=
  ⟨(Bs.start w).new _ _, IsL.nil _ _ _, fun n c e => (by injection e with _ _ e; exact e.symm), fun p n c e => (by injection e with e; cases e)⟩

end Go.Proofs.Ytpbpkeifehobjaa.Tm
