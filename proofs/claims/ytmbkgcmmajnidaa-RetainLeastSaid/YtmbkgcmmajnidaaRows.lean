/-
  No cell of these rows narrows 'for every input' (looked for: loops, veiled, ifaces, maps, wideKeys, modest, calm, conditions, laid).
  DERIVED. THE GIVEN ROWS OF THIS SEAT. 3 by the template 'for every input the law returns true; each argument reads behind the call as it read before'; 0 by the template 'total and deterministic' (their statements: YtmbkgcmmajnidaaTotals.lean).
  GIVEN WITH THE SEED: the statements are not yours to turn. If you find one false, say at which input.
  Laid BY PROGRAM, IN A SANDBOX (cutbox-rows.mjs): the forced cells as the released guide's own fill.sh prints them over the translation f7cd63600cf9c84b… (all of the seat's roots in one cut). By AI agents, Wed Nov 11 2026. No macro, syntax, notation, axiom, sorry.
-/
import Derived.Test.YtmbkgcmmajnidaaChecked
import GoSem.Claim
import GoSem.ClaimJoined
import GoSem.ClaimMapViews
import Derived.JoinedTies
import Derived.KernelRfl
namespace Go.Proofs.Ytmbkgcmmajnidaa
/- THE CELL 'sum', in the pinned program and in every row, IS THE sha256 OF THE DUMP (.gsa) THAT YtmbkgcmmajnidaaProg.lean LOADS. Nothing in Lean hashes anything: it is a label: what it is worth is what the hold of that sum in a sandbox is worth. -/
noncomputable def Try.pinned : Pinned := { name := "ytmbkgcmmajnidaa", sum := "f7cd63600cf9c84bf421340cd537e11b2db37507bebc305bc21c043c43bdbf1a", checked := Try.checked }
namespace Rows
def none {H : Type} : Left H := { results := [], args := [] }

/-- 'wagonerlaw11.RetainTells': WHATEVER THE INPUT: true; the input reads as it did. -/
def retainTellsSpec : ChangeSpec := { name := "retainTells", fn := fun _ => fun
  | [d1, d2, d3] => { results := [.lit (.bool true)], args := [d1, d2, d3] }
  | _ => none }
def retainTellsRow : OpenClaim := { program := "ytmbkgcmmajnidaa", sum := "f7cd63600cf9c84bf421340cd537e11b2db37507bebc305bc21c043c43bdbf1a", func := "wagoner/wagonerlaw11.RetainTells", spec := "retainTells", apart := false }
def RetainTellsSaid : Prop := retainTellsRow.holds Try.pinned (OpenSpec.ofChange retainTellsSpec)

/-- ITS FALSE NEIGHBOUR: 'it returns false'. Refute it at one input. -/
def retainTellsWrong : ChangeSpec := { name := "retainTells", fn := fun _ => fun
  | [d1, d2, d3] => { results := [.lit (.bool false)], args := [d1, d2, d3] }
  | _ => none }
def RetainTellsWrongFalsely : Prop := retainTellsRow.holds Try.pinned (OpenSpec.ofChange retainTellsWrong)

/-- 'wagonerlaw11.RetainLeast': WHATEVER THE INPUT: true; the input reads as it did. -/
def retainLeastSpec : ChangeSpec := { name := "retainLeast", fn := fun _ => fun
  | [d1, d2, d3] => { results := [.lit (.bool true)], args := [d1, d2, d3] }
  | _ => none }
def retainLeastRow : OpenClaim := { program := "ytmbkgcmmajnidaa", sum := "f7cd63600cf9c84bf421340cd537e11b2db37507bebc305bc21c043c43bdbf1a", func := "wagoner/wagonerlaw11.RetainLeast", spec := "retainLeast", apart := false }
def RetainLeastSaid : Prop := retainLeastRow.holds Try.pinned (OpenSpec.ofChange retainLeastSpec)

/-- ITS FALSE NEIGHBOUR: 'it returns false'. Refute it at one input. -/
def retainLeastWrong : ChangeSpec := { name := "retainLeast", fn := fun _ => fun
  | [d1, d2, d3] => { results := [.lit (.bool false)], args := [d1, d2, d3] }
  | _ => none }
def RetainLeastWrongFalsely : Prop := retainLeastRow.holds Try.pinned (OpenSpec.ofChange retainLeastWrong)

/-- 'wagonerlaw11.RetainRises': WHATEVER THE INPUT: true; the input reads as it did. -/
def retainRisesSpec : ChangeSpec := { name := "retainRises", fn := fun _ => fun
  | [d] => { results := [.lit (.bool true)], args := [d] }
  | _ => none }
def retainRisesRow : OpenClaim := { program := "ytmbkgcmmajnidaa", sum := "f7cd63600cf9c84bf421340cd537e11b2db37507bebc305bc21c043c43bdbf1a", func := "wagoner/wagonerlaw11.RetainRises", spec := "retainRises", apart := false }
def RetainRisesSaid : Prop := retainRisesRow.holds Try.pinned (OpenSpec.ofChange retainRisesSpec)

/-- ITS FALSE NEIGHBOUR: 'it returns false'. Refute it at one input. -/
def retainRisesWrong : ChangeSpec := { name := "retainRises", fn := fun _ => fun
  | [d] => { results := [.lit (.bool false)], args := [d] }
  | _ => none }
def RetainRisesWrongFalsely : Prop := retainRisesRow.holds Try.pinned (OpenSpec.ofChange retainRisesWrong)

/- THE SECOND FORM. 'bulk': how many values and letters a reading holds, each counted each time it is reached (what is shared counts as often as it is met; a slice's spare places count too). A statement '..UptoSaid' is the law's where the arguments, and the package variables that the reading takes, are together of bulk at most 1048576: NARROWER than '..Said'. Prove '..Said' where nothing that the law and all that it calls make is longer than what came in: it says more and counts as full. Else prove '..UptoSaid'. A law counts once. -/
mutual
def uptoBulk {H : Type} : DataW H → Nat
  | .lit (.string bytes) => bytes.length + 1
  | .lit _ => 1
  | .nil => 1
  | .ptr d => uptoBulk d + 1
  | .slice elems spare => uptoBulkAll elems + uptoBulkAll spare + 1
  | .agg parts => uptoBulkAll parts + 1
  | .iface _ d => uptoBulk d + 1
  | .map entries => uptoBulkEntries entries + 1
  | .held _ => 1
def uptoBulkAll {H : Type} : List (DataW H) → Nat
  | [] => 0
  | d :: r => uptoBulk d + uptoBulkAll r
def uptoBulkEntries {H : Type} : List (Lit × DataW H) → Nat
  | [] => 0
  | x :: r => uptoBulkEntry x + uptoBulkEntries r
def uptoBulkEntry {H : Type} : Lit × DataW H → Nat
  | (.string bytes, d) => bytes.length + uptoBulk d + 1
  | (_, d) => uptoBulk d + 1
 end
def uptoSmall : (H : Type) → List (DataW H) → Bool := fun _ ds => decide (uptoBulkAll ds ≤ 1048576)
def OpenSpec.upto (s : _root_.Go.ChangeSpec) : _root_.Go.OpenSpec := { _root_.Go.OpenSpec.ofChange s with cond := some uptoSmall }

/-- 'wagonerlaw11.RetainTells', WHERE WHAT IT READS IS OF BULK AT MOST 1048576: true; the input reads as it did. -/
def retainTellsUptoRow : OpenClaim := { program := "ytmbkgcmmajnidaa", sum := "f7cd63600cf9c84bf421340cd537e11b2db37507bebc305bc21c043c43bdbf1a", func := "wagoner/wagonerlaw11.RetainTells", spec := "retainTells", apart := false, narrowed := true }
def RetainTellsUptoSaid : Prop := retainTellsUptoRow.holds Try.pinned (OpenSpec.upto retainTellsSpec)

/-- 'wagonerlaw11.RetainLeast', WHERE WHAT IT READS IS OF BULK AT MOST 1048576: true; the input reads as it did. -/
def retainLeastUptoRow : OpenClaim := { program := "ytmbkgcmmajnidaa", sum := "f7cd63600cf9c84bf421340cd537e11b2db37507bebc305bc21c043c43bdbf1a", func := "wagoner/wagonerlaw11.RetainLeast", spec := "retainLeast", apart := false, narrowed := true }
def RetainLeastUptoSaid : Prop := retainLeastUptoRow.holds Try.pinned (OpenSpec.upto retainLeastSpec)

/-- 'wagonerlaw11.RetainRises', WHERE WHAT IT READS IS OF BULK AT MOST 1048576: true; the input reads as it did. -/
def retainRisesUptoRow : OpenClaim := { program := "ytmbkgcmmajnidaa", sum := "f7cd63600cf9c84bf421340cd537e11b2db37507bebc305bc21c043c43bdbf1a", func := "wagoner/wagonerlaw11.RetainRises", spec := "retainRises", apart := false, narrowed := true }
def RetainRisesUptoSaid : Prop := retainRisesUptoRow.holds Try.pinned (OpenSpec.upto retainRisesSpec)

end Rows
end Go.Proofs.Ytmbkgcmmajnidaa
