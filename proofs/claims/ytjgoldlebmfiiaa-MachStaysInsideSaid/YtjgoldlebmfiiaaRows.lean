/-
  No cell of these rows narrows 'for every input' (looked for: loops, veiled, ifaces, maps, wideKeys, modest, calm, conditions, laid).
  DERIVED. THE GIVEN ROWS OF THIS SEAT. 4 by the template 'for every input the law returns true; each argument reads behind the call as it read before'; 0 by the template 'total and deterministic' (their statements: YtjgoldlebmfiiaaTotals.lean).
  GIVEN WITH THE SEED: the statements are not yours to turn. If you find one false, say at which input.
  Laid BY PROGRAM, IN A SANDBOX (cutbox-rows.mjs): the forced cells as the released guide's own fill.sh prints them over the translation 28a655a0acb17b1a… (all of the seat's roots in one cut). By AI agents, Wed Nov 11 2026. No macro, syntax, notation, axiom, sorry.
-/
import Derived.Test.YtjgoldlebmfiiaaChecked
import GoSem.Claim
import GoSem.ClaimJoined
import GoSem.ClaimMapViews
import Derived.JoinedTies
import Derived.KernelRfl
namespace Go.Proofs.Ytjgoldlebmfiiaa
/- THE CELL 'sum', in the pinned program and in every row, IS THE sha256 OF THE DUMP (.gsa) THAT YtjgoldlebmfiiaaProg.lean LOADS. Nothing in Lean hashes anything: it is a label: what it is worth is what the hold of that sum in a sandbox is worth. -/
noncomputable def Try.pinned : Pinned := { name := "ytjgoldlebmfiiaa", sum := "28a655a0acb17b1ae21b07a14966d8def39b7beb1a74ae867f72a141e246d8fc", checked := Try.checked }
namespace Rows
def none {H : Type} : Left H := { results := [], args := [] }

/-- 'spillframelaw10.MachIntervals': WHATEVER THE INPUT: true; the input reads as it did. -/
def machIntervalsSpec : ChangeSpec := { name := "machIntervals", fn := fun _ => fun
  | [d1, d2, d3] => { results := [.lit (.bool true)], args := [d1, d2, d3] }
  | _ => none }
def machIntervalsRow : OpenClaim := { program := "ytjgoldlebmfiiaa", sum := "28a655a0acb17b1ae21b07a14966d8def39b7beb1a74ae867f72a141e246d8fc", func := "spillframe/spillframelaw10.MachIntervals", spec := "machIntervals", apart := false }
def MachIntervalsSaid : Prop := machIntervalsRow.holds Try.pinned (OpenSpec.ofChange machIntervalsSpec)

/-- ITS FALSE NEIGHBOUR: 'it returns false'. Refute it at one input. -/
def machIntervalsWrong : ChangeSpec := { name := "machIntervals", fn := fun _ => fun
  | [d1, d2, d3] => { results := [.lit (.bool false)], args := [d1, d2, d3] }
  | _ => none }
def MachIntervalsWrongFalsely : Prop := machIntervalsRow.holds Try.pinned (OpenSpec.ofChange machIntervalsWrong)

/-- 'spillframelaw10.MachStaysInside': WHATEVER THE INPUT: true; the input reads as it did. -/
def machStaysInsideSpec : ChangeSpec := { name := "machStaysInside", fn := fun _ => fun
  | [d] => { results := [.lit (.bool true)], args := [d] }
  | _ => none }
def machStaysInsideRow : OpenClaim := { program := "ytjgoldlebmfiiaa", sum := "28a655a0acb17b1ae21b07a14966d8def39b7beb1a74ae867f72a141e246d8fc", func := "spillframe/spillframelaw10.MachStaysInside", spec := "machStaysInside", apart := false }
def MachStaysInsideSaid : Prop := machStaysInsideRow.holds Try.pinned (OpenSpec.ofChange machStaysInsideSpec)

/-- ITS FALSE NEIGHBOUR: 'it returns false'. Refute it at one input. -/
def machStaysInsideWrong : ChangeSpec := { name := "machStaysInside", fn := fun _ => fun
  | [d] => { results := [.lit (.bool false)], args := [d] }
  | _ => none }
def MachStaysInsideWrongFalsely : Prop := machStaysInsideRow.holds Try.pinned (OpenSpec.ofChange machStaysInsideWrong)

/-- 'spillframelaw10.MachSame': WHATEVER THE INPUT: true; the input reads as it did. -/
def machSameSpec : ChangeSpec := { name := "machSame", fn := fun _ => fun
  | [d1, d2, d3] => { results := [.lit (.bool true)], args := [d1, d2, d3] }
  | _ => none }
def machSameRow : OpenClaim := { program := "ytjgoldlebmfiiaa", sum := "28a655a0acb17b1ae21b07a14966d8def39b7beb1a74ae867f72a141e246d8fc", func := "spillframe/spillframelaw10.MachSame", spec := "machSame", unfollowed := true, recurses := true, apart := false }
def MachSameSaid : Prop := machSameRow.holds Try.pinned (OpenSpec.ofChange machSameSpec)

/-- ITS FALSE NEIGHBOUR: 'it returns false'. Refute it at one input. -/
def machSameWrong : ChangeSpec := { name := "machSame", fn := fun _ => fun
  | [d1, d2, d3] => { results := [.lit (.bool false)], args := [d1, d2, d3] }
  | _ => none }
def MachSameWrongFalsely : Prop := machSameRow.holds Try.pinned (OpenSpec.ofChange machSameWrong)

/-- 'spillframelaw10.MachLimits': WHATEVER THE INPUT: true; the input reads as it did. -/
def machLimitsSpec : ChangeSpec := { name := "machLimits", fn := fun _ => fun
  | [d1, d2] => { results := [.lit (.bool true)], args := [d1, d2] }
  | _ => none }
def machLimitsRow : OpenClaim := { program := "ytjgoldlebmfiiaa", sum := "28a655a0acb17b1ae21b07a14966d8def39b7beb1a74ae867f72a141e246d8fc", func := "spillframe/spillframelaw10.MachLimits", spec := "machLimits", apart := false }
def MachLimitsSaid : Prop := machLimitsRow.holds Try.pinned (OpenSpec.ofChange machLimitsSpec)

/-- ITS FALSE NEIGHBOUR: 'it returns false'. Refute it at one input. -/
def machLimitsWrong : ChangeSpec := { name := "machLimits", fn := fun _ => fun
  | [d1, d2] => { results := [.lit (.bool false)], args := [d1, d2] }
  | _ => none }
def MachLimitsWrongFalsely : Prop := machLimitsRow.holds Try.pinned (OpenSpec.ofChange machLimitsWrong)

/- THE SECOND FORM. 'bulk': how many values and letters a reading holds, each counted each time it is reached (what is shared counts as often as it is met; a slice's spare places count too). A statement '..UptoSaid' is the law's where the arguments, and the package variables that the reading takes, are together of bulk at most 1048576: NARROWER than '..Said'. Prove '..Said' where nothing that the law and all that it calls make is longer than what came in: it says more and counts as full. Else prove '..UptoSaid'. A law counts once. -/
mutual
def uptoBulk {H : Type} : DataW H → Nat
  | .lit (.string bytes) => bytes.length + 1
  | .lit _ => 1
  | .nil => 1
  | .ptr d => uptoBulk d + 1
  | .slice elems spare => uptoBulkAll elems + uptoBulkAll spare + 1
  | .agg parts => uptoBulkAll parts + 1
  | .iface _ d => uptoBulk d + 1
  | .map entries => uptoBulkEntries entries + 1
  | .held _ => 1
def uptoBulkAll {H : Type} : List (DataW H) → Nat
  | [] => 0
  | d :: r => uptoBulk d + uptoBulkAll r
def uptoBulkEntries {H : Type} : List (Lit × DataW H) → Nat
  | [] => 0
  | x :: r => uptoBulkEntry x + uptoBulkEntries r
def uptoBulkEntry {H : Type} : Lit × DataW H → Nat
  | (.string bytes, d) => bytes.length + uptoBulk d + 1
  | (_, d) => uptoBulk d + 1
 end
def uptoSmall : (H : Type) → List (DataW H) → Bool := fun _ ds => decide (uptoBulkAll ds ≤ 1048576)
def OpenSpec.upto (s : _root_.Go.ChangeSpec) : _root_.Go.OpenSpec := { _root_.Go.OpenSpec.ofChange s with cond := some uptoSmall }

/-- 'spillframelaw10.MachIntervals', WHERE WHAT IT READS IS OF BULK AT MOST 1048576: true; the input reads as it did. -/
def machIntervalsUptoRow : OpenClaim := { program := "ytjgoldlebmfiiaa", sum := "28a655a0acb17b1ae21b07a14966d8def39b7beb1a74ae867f72a141e246d8fc", func := "spillframe/spillframelaw10.MachIntervals", spec := "machIntervals", apart := false, narrowed := true }
def MachIntervalsUptoSaid : Prop := machIntervalsUptoRow.holds Try.pinned (OpenSpec.upto machIntervalsSpec)

/-- 'spillframelaw10.MachStaysInside', WHERE WHAT IT READS IS OF BULK AT MOST 1048576: true; the input reads as it did. -/
def machStaysInsideUptoRow : OpenClaim := { program := "ytjgoldlebmfiiaa", sum := "28a655a0acb17b1ae21b07a14966d8def39b7beb1a74ae867f72a141e246d8fc", func := "spillframe/spillframelaw10.MachStaysInside", spec := "machStaysInside", apart := false, narrowed := true }
def MachStaysInsideUptoSaid : Prop := machStaysInsideUptoRow.holds Try.pinned (OpenSpec.upto machStaysInsideSpec)

/-- 'spillframelaw10.MachSame', WHERE WHAT IT READS IS OF BULK AT MOST 1048576: true; the input reads as it did. -/
def machSameUptoRow : OpenClaim := { program := "ytjgoldlebmfiiaa", sum := "28a655a0acb17b1ae21b07a14966d8def39b7beb1a74ae867f72a141e246d8fc", func := "spillframe/spillframelaw10.MachSame", spec := "machSame", unfollowed := true, recurses := true, apart := false, narrowed := true }
def MachSameUptoSaid : Prop := machSameUptoRow.holds Try.pinned (OpenSpec.upto machSameSpec)

/-- 'spillframelaw10.MachLimits', WHERE WHAT IT READS IS OF BULK AT MOST 1048576: true; the input reads as it did. -/
def machLimitsUptoRow : OpenClaim := { program := "ytjgoldlebmfiiaa", sum := "28a655a0acb17b1ae21b07a14966d8def39b7beb1a74ae867f72a141e246d8fc", func := "spillframe/spillframelaw10.MachLimits", spec := "machLimits", apart := false, narrowed := true }
def MachLimitsUptoSaid : Prop := machLimitsUptoRow.holds Try.pinned (OpenSpec.upto machLimitsSpec)

end Rows
end Go.Proofs.Ytjgoldlebmfiiaa
