/-
  Two wheels of a call's own, and acts, for the laws of layer 18.
-/
import Derived.Test.YtpbpkeifehobjaaTimAwk
import Derived.Test.YtpbpkeifehobjaaTimSame
import Derived.Deep.CutBlock
namespace Go.Proofs.Ytpbpkeifehobjaa.Tm
open Go.RowKit Go.Proofs.Ytpbpkeifehobjaa.Tp Go.Proofs.Ytpbpkeifehobjaa.Aps

/-- Two wheels in boxes B and B + 1: the same time, the same alarms. -/
structure Wp (w : World) (B : Nat) (now : Int) (L : List Al) (v u : Value) (W : World) : Prop where
  b : Bs w [(B, #[.int .i64 now, v], 26), (B + 1, #[.int .i64 now, u], 26)] W
  lv : IsL TL W v L
  lu : IsL TL W u L
  nv : NilOk v
  nu : NilOk u
  av : ∀ p n c, v = .slice (some p) n c → p.block ≠ B ∧ p.block ≠ B + 1 ∧ p.block < W.heap.size
  au : ∀ p n c, u = .slice (some p) n c → p.block ≠ B ∧ p.block ≠ B + 1 ∧ p.block < W.heap.size
theorem Wp.keep {w W W' : World} {B : Nat} {now : Int} {L : List Al} {v u : Value} (h : Wp w B now L v u W) (k : Below W.heap.size W W') : Wp w B now L v u W' := ⟨h.b.keep k, h.lv.keep k, h.lu.keep k, h.nv, h.nu, fun p n c e => (h.av p n c e).imp id (fun x => x.imp id (fun y => Nat.lt_of_lt_of_le y k.size)), fun p n c e => (h.au p n c e).imp id (fun x => x.imp id (fun y => Nat.lt_of_lt_of_le y k.size))⟩
theorem Wp.start (w : World) : Wp w w.heap.size 0 [] (.slice none 0 0) (.slice none 0 0) ((w.alloc (.cells #[.int .i64 0, .slice none 0 0] 26)).alloc (.cells #[.int .i64 0, .slice none 0 0] 26)) := by
  have h := (((Bs.start w).new #[.int .i64 0, .slice none 0 0] 26).new #[.int .i64 0, .slice none 0 0] 26).swap
  rw [show (w.alloc (.cells #[.int .i64 0, .slice none 0 0] 26)).heap.size = w.heap.size + 1 by simp] at h
  exact ⟨h, IsL.nil _ _ _, IsL.nil _ _ _, fun n c e => (by injection e with _ _ e; exact e.symm), fun n c e => (by injection e with _ _ e; exact e.symm), fun p n c e => (by injection e with e; cases e), fun p n c e => (by injection e with e; cases e)⟩

/-- What a callee answers of the first wheel, of the second one, lies apart from both boxes, and from those that were made since. -/
theorem Wp.near1 {w W : World} {B N E : Nat} {now : Int} {L : List Al} {v u x : Value} (h : Wp w B now L v u W) (hN : W.heap.size ≤ N) (hr : Near N E v x) : ∀ p n c, x = .slice (some p) n c → p.block ≠ B ∧ p.block ≠ B + 1 := by
  intro p n c e
  have hB := h.b.lt (.tail _ (.head _))
  rcases hr p n c e with h1 | ⟨p', n', c', e', h1⟩
  · omega
  · have := h.av p' n' c' e'
    omega
theorem Wp.near2 {w W : World} {B N E : Nat} {now : Int} {L : List Al} {v u x : Value} (h : Wp w B now L v u W) (hN : W.heap.size ≤ N) (hr : Near N E u x) : ∀ p n c, x = .slice (some p) n c → p.block ≠ B ∧ p.block ≠ B + 1 := by
  intro p n c e
  have hB := h.b.lt (.tail _ (.head _))
  rcases hr p n c e with h1 | ⟨p', n', c', e', h1⟩
  · omega
  · have := h.au p' n' c' e'
    omega
theorem Wp.far1 {w W : World} {B N E q : Nat} {now : Int} {L : List Al} {v u x : Value} (h : Wp w B now L v u W) (hq : W.heap.size ≤ q) (hqN : q < N) (hr : Near N E v x) : ∀ p n c, x = .slice (some p) n c → p.block ≠ q := by
  intro p n c e
  rcases hr p n c e with h1 | ⟨p', n', c', e', h1⟩
  · omega
  · have := (h.av p' n' c' e').2.2
    omega
theorem Wp.far2 {w W : World} {B N E q : Nat} {now : Int} {L : List Al} {v u x : Value} (h : Wp w B now L v u W) (hq : W.heap.size ≤ q) (hqN : q < N) (hr : Near N E u x) : ∀ p n c, x = .slice (some p) n c → p.block ≠ q := by
  intro p n c e
  rcases hr p n c e with h1 | ⟨p', n', c', e', h1⟩
  · omega
  · have := (h.au p' n' c' e').2.2
    omega
theorem near_lt {N E E' : Nat} {w0 : World} {v x : Value} (hr : Near N E v x) (hv : ∀ p n c, v = .slice (some p) n c → p.block < w0.heap.size) (h1 : w0.heap.size ≤ E') (h2 : E ≤ E') : ∀ p n c, x = .slice (some p) n c → p.block < E' := by
  intro p n c e
  rcases hr p n c e with h | ⟨p', n', c', e', h⟩
  · omega
  · have := hv p' n' c' e'
    omega

/-- Acts. -/
structure Ac where
  k : Int
  i : Int
  a : Int
def aczero : Ac := ⟨0, 0, 0⟩
def AcB (r : Ac) : Prop := (-9223372036854775808 ≤ r.k ∧ r.k ≤ 9223372036854775807) ∧ (-9223372036854775808 ≤ r.i ∧ r.i ≤ 9223372036854775807) ∧ (-9223372036854775808 ≤ r.a ∧ r.a ≤ 9223372036854775807)
def acCells (r : Ac) : List Value := [.int .i64 r.k, .int .i64 r.i, .int .i64 r.a]
def AcL : Lay Ac where
  enc := acCells
  k := 3
  len := fun _ => rfl
  one := by intro f u hu; unfold acCells at hu; simp at hu; rcases hu with rfl | rfl | rfl <;> rfl
  pos := by decide
  T := 28
  ok := AcB
  z := aczero
theorem ac_at {w : World} {a : Option Addr} {n cap : Nat} {l : List Ac} (h : IsL AcL w (.slice a n cap) l) {i : Nat} (hi : i < n) : ∃ b off, a = some ⟨b, off, none⟩ ∧ w.cell? ⟨b, off + i * 3, none⟩ = some (.int .i64 (l.getD i aczero).k) ∧ w.cell? ⟨b, off + i * 3 + 1, none⟩ = some (.int .i64 (l.getD i aczero).i) ∧ w.cell? ⟨b, off + i * 3 + 2, none⟩ = some (.int .i64 (l.getD i aczero).a) ∧ AcB (l.getD i aczero) := by
  have h' := h
  have hok := h.ok
  obtain ⟨a', cap', e, _, _, h3⟩ := h
  injection e with e1 e2 e3
  have hb : AcB (l.getD i aczero) := by
    rw [getD_lt (by omega)]
    exact hok _ (List.getElem_mem _)
  rcases h3 with h3 | ⟨b, off, h4, _⟩
  · rw [h3] at e2; simp at e2; omega
  · subst e1
    subst h4
    exact ⟨b, off, rfl, h'.at_ hi 0 _ rfl, h'.at_ hi 1 _ rfl, h'.at_ hi 2 _ rfl, hb⟩

end Go.Proofs.Ytpbpkeifehobjaa.Tm
