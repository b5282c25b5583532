/-
  No cell of these rows narrows 'for every input' (looked for: loops, veiled, ifaces, maps, wideKeys, modest, calm, conditions, laid).
  DERIVED. THE GIVEN ROWS OF THIS SEAT. 3 by the template 'for every input the law returns true; each argument reads behind the call as it read before'; 0 by the template 'total and deterministic' (their statements: YtailajcepjklaaaTotals.lean).
  GIVEN WITH THE SEED: the statements are not yours to turn. If you find one false, say at which input.
  Laid BY PROGRAM, IN A SANDBOX (cutbox-rows.mjs): the forced cells as the released guide's own fill.sh prints them over the translation fac187486b430f9c… (all of the seat's roots in one cut). By AI agents, Wed Nov 11 2026. No macro, syntax, notation, axiom, sorry.
-/
import Derived.Test.YtailajcepjklaaaChecked
import GoSem.Claim
import GoSem.ClaimJoined
import GoSem.ClaimMapViews
import Derived.JoinedTies
import Derived.KernelRfl
namespace Go.Proofs.Ytailajcepjklaaa
/- THE CELL 'sum', in the pinned program and in every row, IS THE sha256 OF THE DUMP (.gsa) THAT YtailajcepjklaaaProg.lean LOADS. Nothing in Lean hashes anything: it is a label: what it is worth is what the hold of that sum in a sandbox is worth. -/
noncomputable def Try.pinned : Pinned := { name := "ytailajcepjklaaa", sum := "fac187486b430f9cff4a19f385cf5032f035ce2c073d819836141e06112b45a8", checked := Try.checked }
namespace Rows
def none {H : Type} : Left H := { results := [], args := [] }

/-- 'wagonerlaw08.SparseTells': WHATEVER THE INPUT: true; the input reads as it did. -/
def sparseTellsSpec : ChangeSpec := { name := "sparseTells", fn := fun _ => fun
  | [d] => { results := [.lit (.bool true)], args := [d] }
  | _ => none }
def sparseTellsRow : OpenClaim := { program := "ytailajcepjklaaa", sum := "fac187486b430f9cff4a19f385cf5032f035ce2c073d819836141e06112b45a8", func := "wagoner/wagonerlaw08.SparseTells", spec := "sparseTells", apart := false }
def SparseTellsSaid : Prop := sparseTellsRow.holds Try.pinned (OpenSpec.ofChange sparseTellsSpec)

/-- ITS FALSE NEIGHBOUR: 'it returns false'. Refute it at one input. -/
def sparseTellsWrong : ChangeSpec := { name := "sparseTells", fn := fun _ => fun
  | [d] => { results := [.lit (.bool false)], args := [d] }
  | _ => none }
def SparseTellsWrongFalsely : Prop := sparseTellsRow.holds Try.pinned (OpenSpec.ofChange sparseTellsWrong)

/-- 'wagonerlaw08.SparseKeeps': WHATEVER THE INPUT: true; the input reads as it did. -/
def sparseKeepsSpec : ChangeSpec := { name := "sparseKeeps", fn := fun _ => fun
  | [d1, d2, d3] => { results := [.lit (.bool true)], args := [d1, d2, d3] }
  | _ => none }
def sparseKeepsRow : OpenClaim := { program := "ytailajcepjklaaa", sum := "fac187486b430f9cff4a19f385cf5032f035ce2c073d819836141e06112b45a8", func := "wagoner/wagonerlaw08.SparseKeeps", spec := "sparseKeeps", apart := false }
def SparseKeepsSaid : Prop := sparseKeepsRow.holds Try.pinned (OpenSpec.ofChange sparseKeepsSpec)

/-- ITS FALSE NEIGHBOUR: 'it returns false'. Refute it at one input. -/
def sparseKeepsWrong : ChangeSpec := { name := "sparseKeeps", fn := fun _ => fun
  | [d1, d2, d3] => { results := [.lit (.bool false)], args := [d1, d2, d3] }
  | _ => none }
def SparseKeepsWrongFalsely : Prop := sparseKeepsRow.holds Try.pinned (OpenSpec.ofChange sparseKeepsWrong)

/-- 'wagonerlaw08.SparseSplits': WHATEVER THE INPUT: true; the input reads as it did. -/
def sparseSplitsSpec : ChangeSpec := { name := "sparseSplits", fn := fun _ => fun
  | [d1, d2] => { results := [.lit (.bool true)], args := [d1, d2] }
  | _ => none }
def sparseSplitsRow : OpenClaim := { program := "ytailajcepjklaaa", sum := "fac187486b430f9cff4a19f385cf5032f035ce2c073d819836141e06112b45a8", func := "wagoner/wagonerlaw08.SparseSplits", spec := "sparseSplits", apart := false }
def SparseSplitsSaid : Prop := sparseSplitsRow.holds Try.pinned (OpenSpec.ofChange sparseSplitsSpec)

/-- ITS FALSE NEIGHBOUR: 'it returns false'. Refute it at one input. -/
def sparseSplitsWrong : ChangeSpec := { name := "sparseSplits", fn := fun _ => fun
  | [d1, d2] => { results := [.lit (.bool false)], args := [d1, d2] }
  | _ => none }
def SparseSplitsWrongFalsely : Prop := sparseSplitsRow.holds Try.pinned (OpenSpec.ofChange sparseSplitsWrong)

/- THE SECOND FORM. 'bulk': how many values and letters a reading holds, each counted each time it is reached (what is shared counts as often as it is met; a slice's spare places count too). A statement '..UptoSaid' is the law's where the arguments, and the package variables that the reading takes, are together of bulk at most 1048576: NARROWER than '..Said'. Prove '..Said' where nothing that the law and all that it calls make is longer than what came in: it says more and counts as full. Else prove '..UptoSaid'. A law counts once. -/
mutual
def uptoBulk {H : Type} : DataW H → Nat
  | .lit (.string bytes) => bytes.length + 1
  | .lit _ => 1
  | .nil => 1
  | .ptr d => uptoBulk d + 1
  | .slice elems spare => uptoBulkAll elems + uptoBulkAll spare + 1
  | .agg parts => uptoBulkAll parts + 1
  | .iface _ d => uptoBulk d + 1
  | .map entries => uptoBulkEntries entries + 1
  | .held _ => 1
def uptoBulkAll {H : Type} : List (DataW H) → Nat
  | [] => 0
  | d :: r => uptoBulk d + uptoBulkAll r
def uptoBulkEntries {H : Type} : List (Lit × DataW H) → Nat
  | [] => 0
  | x :: r => uptoBulkEntry x + uptoBulkEntries r
def uptoBulkEntry {H : Type} : Lit × DataW H → Nat
  | (.string bytes, d) => bytes.length + uptoBulk d + 1
  | (_, d) => uptoBulk d + 1
 end
def uptoSmall : (H : Type) → List (DataW H) → Bool := fun _ ds => decide (uptoBulkAll ds ≤ 1048576)
def OpenSpec.upto (s : _root_.Go.ChangeSpec) : _root_.Go.OpenSpec := { _root_.Go.OpenSpec.ofChange s with cond := some uptoSmall }

/-- 'wagonerlaw08.SparseTells', WHERE WHAT IT READS IS OF BULK AT MOST 1048576: true; the input reads as it did. -/
def sparseTellsUptoRow : OpenClaim := { program := "ytailajcepjklaaa", sum := "fac187486b430f9cff4a19f385cf5032f035ce2c073d819836141e06112b45a8", func := "wagoner/wagonerlaw08.SparseTells", spec := "sparseTells", apart := false, narrowed := true }
def SparseTellsUptoSaid : Prop := sparseTellsUptoRow.holds Try.pinned (OpenSpec.upto sparseTellsSpec)

/-- 'wagonerlaw08.SparseKeeps', WHERE WHAT IT READS IS OF BULK AT MOST 1048576: true; the input reads as it did. -/
def sparseKeepsUptoRow : OpenClaim := { program := "ytailajcepjklaaa", sum := "fac187486b430f9cff4a19f385cf5032f035ce2c073d819836141e06112b45a8", func := "wagoner/wagonerlaw08.SparseKeeps", spec := "sparseKeeps", apart := false, narrowed := true }
def SparseKeepsUptoSaid : Prop := sparseKeepsUptoRow.holds Try.pinned (OpenSpec.upto sparseKeepsSpec)

/-- 'wagonerlaw08.SparseSplits', WHERE WHAT IT READS IS OF BULK AT MOST 1048576: true; the input reads as it did. -/
def sparseSplitsUptoRow : OpenClaim := { program := "ytailajcepjklaaa", sum := "fac187486b430f9cff4a19f385cf5032f035ce2c073d819836141e06112b45a8", func := "wagoner/wagonerlaw08.SparseSplits", spec := "sparseSplits", apart := false, narrowed := true }
def SparseSplitsUptoSaid : Prop := sparseSplitsUptoRow.holds Try.pinned (OpenSpec.upto sparseSplitsSpec)

end Rows
end Go.Proofs.Ytailajcepjklaaa
