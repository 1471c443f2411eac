/-
  No cell of these rows narrows 'for every input' (looked for: loops, veiled, ifaces, maps, wideKeys, modest, calm, conditions, laid).
  DERIVED. THE GIVEN ROWS OF THIS SEAT. 6 by the template 'for every input the law returns true; each argument reads behind the call as it read before'; 0 by the template 'total and deterministic' (their statements: YtmfklggjcggoeaaTotals.lean).
  GIVEN WITH THE SEED: the statements are not yours to turn. If you find one false, say at which input.
  Laid BY PROGRAM, IN A SANDBOX (cutbox-rows.mjs): the forced cells as the released guide's own fill.sh prints them over the translation a536128fa119fcd3… (all of the seat's roots in one cut). By AI agents, Wed Nov 11 2026. No macro, syntax, notation, axiom, sorry.
-/
import Derived.Test.YtmfklggjcggoeaaChecked
import GoSem.Claim
import GoSem.ClaimJoined
import GoSem.ClaimMapViews
import Derived.JoinedTies
import Derived.KernelRfl
namespace Go.Proofs.Ytmfklggjcggoeaa
/- THE CELL 'sum', in the pinned program and in every row, IS THE sha256 OF THE DUMP (.gsa) THAT YtmfklggjcggoeaaProg.lean LOADS. Nothing in Lean hashes anything: it is a label: what it is worth is what the hold of that sum in a sandbox is worth. -/
noncomputable def Try.pinned : Pinned := { name := "ytmfklggjcggoeaa", sum := "a536128fa119fcd3b5e7821cbe542d1401fca41c9f627149981ae64a5910f1dc", checked := Try.checked }
namespace Rows
def none {H : Type} : Left H := { results := [], args := [] }

/-- 'spillframelaw03.ExtentArithmetic': WHATEVER THE INPUT: true; the input reads as it did. -/
def extentArithmeticSpec : ChangeSpec := { name := "extentArithmetic", fn := fun _ => fun
  | [d1, d2, d3] => { results := [.lit (.bool true)], args := [d1, d2, d3] }
  | _ => none }
def extentArithmeticRow : OpenClaim := { program := "ytmfklggjcggoeaa", sum := "a536128fa119fcd3b5e7821cbe542d1401fca41c9f627149981ae64a5910f1dc", func := "spillframe/spillframelaw03.ExtentArithmetic", spec := "extentArithmetic", apart := false }
def ExtentArithmeticSaid : Prop := extentArithmeticRow.holds Try.pinned (OpenSpec.ofChange extentArithmeticSpec)

/-- ITS FALSE NEIGHBOUR: 'it returns false'. Refute it at one input. -/
def extentArithmeticWrong : ChangeSpec := { name := "extentArithmetic", fn := fun _ => fun
  | [d1, d2, d3] => { results := [.lit (.bool false)], args := [d1, d2, d3] }
  | _ => none }
def ExtentArithmeticWrongFalsely : Prop := extentArithmeticRow.holds Try.pinned (OpenSpec.ofChange extentArithmeticWrong)

/-- 'spillframelaw03.ExtentUpIsLeast': WHATEVER THE INPUT: true; the input reads as it did. -/
def extentUpIsLeastSpec : ChangeSpec := { name := "extentUpIsLeast", fn := fun _ => fun
  | [d1, d2] => { results := [.lit (.bool true)], args := [d1, d2] }
  | _ => none }
def extentUpIsLeastRow : OpenClaim := { program := "ytmfklggjcggoeaa", sum := "a536128fa119fcd3b5e7821cbe542d1401fca41c9f627149981ae64a5910f1dc", func := "spillframe/spillframelaw03.ExtentUpIsLeast", spec := "extentUpIsLeast", apart := false }
def ExtentUpIsLeastSaid : Prop := extentUpIsLeastRow.holds Try.pinned (OpenSpec.ofChange extentUpIsLeastSpec)

/-- ITS FALSE NEIGHBOUR: 'it returns false'. Refute it at one input. -/
def extentUpIsLeastWrong : ChangeSpec := { name := "extentUpIsLeast", fn := fun _ => fun
  | [d1, d2] => { results := [.lit (.bool false)], args := [d1, d2] }
  | _ => none }
def ExtentUpIsLeastWrongFalsely : Prop := extentUpIsLeastRow.holds Try.pinned (OpenSpec.ofChange extentUpIsLeastWrong)

/-- 'spillframelaw03.ExtentIntervals': WHATEVER THE INPUT: true; the input reads as it did. -/
def extentIntervalsSpec : ChangeSpec := { name := "extentIntervals", fn := fun _ => fun
  | [d1, d2, d3] => { results := [.lit (.bool true)], args := [d1, d2, d3] }
  | _ => none }
def extentIntervalsRow : OpenClaim := { program := "ytmfklggjcggoeaa", sum := "a536128fa119fcd3b5e7821cbe542d1401fca41c9f627149981ae64a5910f1dc", func := "spillframe/spillframelaw03.ExtentIntervals", spec := "extentIntervals", apart := false }
def ExtentIntervalsSaid : Prop := extentIntervalsRow.holds Try.pinned (OpenSpec.ofChange extentIntervalsSpec)

/-- ITS FALSE NEIGHBOUR: 'it returns false'. Refute it at one input. -/
def extentIntervalsWrong : ChangeSpec := { name := "extentIntervals", fn := fun _ => fun
  | [d1, d2, d3] => { results := [.lit (.bool false)], args := [d1, d2, d3] }
  | _ => none }
def ExtentIntervalsWrongFalsely : Prop := extentIntervalsRow.holds Try.pinned (OpenSpec.ofChange extentIntervalsWrong)

/-- 'spillframelaw03.ExtentSlots': WHATEVER THE INPUT: true; the input reads as it did. -/
def extentSlotsSpec : ChangeSpec := { name := "extentSlots", fn := fun _ => fun
  | [d1, d2] => { results := [.lit (.bool true)], args := [d1, d2] }
  | _ => none }
def extentSlotsRow : OpenClaim := { program := "ytmfklggjcggoeaa", sum := "a536128fa119fcd3b5e7821cbe542d1401fca41c9f627149981ae64a5910f1dc", func := "spillframe/spillframelaw03.ExtentSlots", spec := "extentSlots", unfollowed := true, recurses := true, apart := false }
def ExtentSlotsSaid : Prop := extentSlotsRow.holds Try.pinned (OpenSpec.ofChange extentSlotsSpec)

/-- ITS FALSE NEIGHBOUR: 'it returns false'. Refute it at one input. -/
def extentSlotsWrong : ChangeSpec := { name := "extentSlots", fn := fun _ => fun
  | [d1, d2] => { results := [.lit (.bool false)], args := [d1, d2] }
  | _ => none }
def ExtentSlotsWrongFalsely : Prop := extentSlotsRow.holds Try.pinned (OpenSpec.ofChange extentSlotsWrong)

/-- 'spillframelaw03.ExtentFit': WHATEVER THE INPUT: true; the input reads as it did. -/
def extentFitSpec : ChangeSpec := { name := "extentFit", fn := fun _ => fun
  | [d1, d2, d3, d4, d5] => { results := [.lit (.bool true)], args := [d1, d2, d3, d4, d5] }
  | _ => none }
def extentFitRow : OpenClaim := { program := "ytmfklggjcggoeaa", sum := "a536128fa119fcd3b5e7821cbe542d1401fca41c9f627149981ae64a5910f1dc", func := "spillframe/spillframelaw03.ExtentFit", spec := "extentFit", unfollowed := true, recurses := true, apart := false }
def ExtentFitSaid : Prop := extentFitRow.holds Try.pinned (OpenSpec.ofChange extentFitSpec)

/-- ITS FALSE NEIGHBOUR: 'it returns false'. Refute it at one input. -/
def extentFitWrong : ChangeSpec := { name := "extentFit", fn := fun _ => fun
  | [d1, d2, d3, d4, d5] => { results := [.lit (.bool false)], args := [d1, d2, d3, d4, d5] }
  | _ => none }
def ExtentFitWrongFalsely : Prop := extentFitRow.holds Try.pinned (OpenSpec.ofChange extentFitWrong)

/-- 'spillframelaw03.ExtentFitIsLeast': WHATEVER THE INPUT: true; the input reads as it did. -/
def extentFitIsLeastSpec : ChangeSpec := { name := "extentFitIsLeast", fn := fun _ => fun
  | [d] => { results := [.lit (.bool true)], args := [d] }
  | _ => none }
def extentFitIsLeastRow : OpenClaim := { program := "ytmfklggjcggoeaa", sum := "a536128fa119fcd3b5e7821cbe542d1401fca41c9f627149981ae64a5910f1dc", func := "spillframe/spillframelaw03.ExtentFitIsLeast", spec := "extentFitIsLeast", unfollowed := true, recurses := true, apart := false }
def ExtentFitIsLeastSaid : Prop := extentFitIsLeastRow.holds Try.pinned (OpenSpec.ofChange extentFitIsLeastSpec)

/-- ITS FALSE NEIGHBOUR: 'it returns false'. Refute it at one input. -/
def extentFitIsLeastWrong : ChangeSpec := { name := "extentFitIsLeast", fn := fun _ => fun
  | [d] => { results := [.lit (.bool false)], args := [d] }
  | _ => none }
def ExtentFitIsLeastWrongFalsely : Prop := extentFitIsLeastRow.holds Try.pinned (OpenSpec.ofChange extentFitIsLeastWrong)

/- THE SECOND FORM. 'bulk': how many values and letters a reading holds, each counted each time it is reached (what is shared counts as often as it is met; a slice's spare places count too). A statement '..UptoSaid' is the law's where the arguments, and the package variables that the reading takes, are together of bulk at most 1048576: NARROWER than '..Said'. Prove '..Said' where nothing that the law and all that it calls make is longer than what came in: it says more and counts as full. Else prove '..UptoSaid'. A law counts once. -/
mutual
def uptoBulk {H : Type} : DataW H → Nat
  | .lit (.string bytes) => bytes.length + 1
  | .lit _ => 1
  | .nil => 1
  | .ptr d => uptoBulk d + 1
  | .slice elems spare => uptoBulkAll elems + uptoBulkAll spare + 1
  | .agg parts => uptoBulkAll parts + 1
  | .iface _ d => uptoBulk d + 1
  | .map entries => uptoBulkEntries entries + 1
  | .held _ => 1
def uptoBulkAll {H : Type} : List (DataW H) → Nat
  | [] => 0
  | d :: r => uptoBulk d + uptoBulkAll r
def uptoBulkEntries {H : Type} : List (Lit × DataW H) → Nat
  | [] => 0
  | x :: r => uptoBulkEntry x + uptoBulkEntries r
def uptoBulkEntry {H : Type} : Lit × DataW H → Nat
  | (.string bytes, d) => bytes.length + uptoBulk d + 1
  | (_, d) => uptoBulk d + 1
 end
def uptoSmall : (H : Type) → List (DataW H) → Bool := fun _ ds => decide (uptoBulkAll ds ≤ 1048576)
def OpenSpec.upto (s : _root_.Go.ChangeSpec) : _root_.Go.OpenSpec := { _root_.Go.OpenSpec.ofChange s with cond := some uptoSmall }

/-- 'spillframelaw03.ExtentArithmetic', WHERE WHAT IT READS IS OF BULK AT MOST 1048576: true; the input reads as it did. -/
def extentArithmeticUptoRow : OpenClaim := { program := "ytmfklggjcggoeaa", sum := "a536128fa119fcd3b5e7821cbe542d1401fca41c9f627149981ae64a5910f1dc", func := "spillframe/spillframelaw03.ExtentArithmetic", spec := "extentArithmetic", apart := false, narrowed := true }
def ExtentArithmeticUptoSaid : Prop := extentArithmeticUptoRow.holds Try.pinned (OpenSpec.upto extentArithmeticSpec)

/-- 'spillframelaw03.ExtentUpIsLeast', WHERE WHAT IT READS IS OF BULK AT MOST 1048576: true; the input reads as it did. -/
def extentUpIsLeastUptoRow : OpenClaim := { program := "ytmfklggjcggoeaa", sum := "a536128fa119fcd3b5e7821cbe542d1401fca41c9f627149981ae64a5910f1dc", func := "spillframe/spillframelaw03.ExtentUpIsLeast", spec := "extentUpIsLeast", apart := false, narrowed := true }
def ExtentUpIsLeastUptoSaid : Prop := extentUpIsLeastUptoRow.holds Try.pinned (OpenSpec.upto extentUpIsLeastSpec)

/-- 'spillframelaw03.ExtentIntervals', WHERE WHAT IT READS IS OF BULK AT MOST 1048576: true; the input reads as it did. -/
def extentIntervalsUptoRow : OpenClaim := { program := "ytmfklggjcggoeaa", sum := "a536128fa119fcd3b5e7821cbe542d1401fca41c9f627149981ae64a5910f1dc", func := "spillframe/spillframelaw03.ExtentIntervals", spec := "extentIntervals", apart := false, narrowed := true }
def ExtentIntervalsUptoSaid : Prop := extentIntervalsUptoRow.holds Try.pinned (OpenSpec.upto extentIntervalsSpec)

/-- 'spillframelaw03.ExtentSlots', WHERE WHAT IT READS IS OF BULK AT MOST 1048576: true; the input reads as it did. -/
def extentSlotsUptoRow : OpenClaim := { program := "ytmfklggjcggoeaa", sum := "a536128fa119fcd3b5e7821cbe542d1401fca41c9f627149981ae64a5910f1dc", func := "spillframe/spillframelaw03.ExtentSlots", spec := "extentSlots", unfollowed := true, recurses := true, apart := false, narrowed := true }
def ExtentSlotsUptoSaid : Prop := extentSlotsUptoRow.holds Try.pinned (OpenSpec.upto extentSlotsSpec)

/-- 'spillframelaw03.ExtentFit', WHERE WHAT IT READS IS OF BULK AT MOST 1048576: true; the input reads as it did. -/
def extentFitUptoRow : OpenClaim := { program := "ytmfklggjcggoeaa", sum := "a536128fa119fcd3b5e7821cbe542d1401fca41c9f627149981ae64a5910f1dc", func := "spillframe/spillframelaw03.ExtentFit", spec := "extentFit", unfollowed := true, recurses := true, apart := false, narrowed := true }
def ExtentFitUptoSaid : Prop := extentFitUptoRow.holds Try.pinned (OpenSpec.upto extentFitSpec)

/-- 'spillframelaw03.ExtentFitIsLeast', WHERE WHAT IT READS IS OF BULK AT MOST 1048576: true; the input reads as it did. -/
def extentFitIsLeastUptoRow : OpenClaim := { program := "ytmfklggjcggoeaa", sum := "a536128fa119fcd3b5e7821cbe542d1401fca41c9f627149981ae64a5910f1dc", func := "spillframe/spillframelaw03.ExtentFitIsLeast", spec := "extentFitIsLeast", unfollowed := true, recurses := true, apart := false, narrowed := true }
def ExtentFitIsLeastUptoSaid : Prop := extentFitIsLeastUptoRow.holds Try.pinned (OpenSpec.upto extentFitIsLeastSpec)

end Rows
end Go.Proofs.Ytmfklggjcggoeaa
