/-
  NARROWER THAN 'FOR EVERY INPUT', by the rows' own cells (each row's printed sentence says how): BitsetOf: laid · BitsetElements: laid · BitsetOperations: laid · BitsetLattice: laid · BitsetSharesNoMemory: laid.
  DERIVED. THE GIVEN ROWS OF THIS SEAT. 5 by the template 'for every input the law returns true; each argument reads behind the call as it read before'; 0 by the template 'total and deterministic' (their statements: YtfpdopfomagngaaDoorTotals.lean).
  GIVEN WITH THE SEED: the statements are not yours to turn. If you find one false, say at which input.
  Laid BY PROGRAM, IN A SANDBOX (cutbox-rows.mjs): the forced cells as the released guide's own fill.sh prints them over the translation 0e6f0737a2766992… (all of the seat's roots in one cut). By AI agents, Wed Nov 11 2026. No macro, syntax, notation, axiom, sorry.
-/
import Derived.Test.YtfpdopfomagngaaDoorChecked
import GoSem.Claim
import GoSem.ClaimJoined
import GoSem.ClaimMapViews
import Derived.JoinedTies
import Derived.KernelRfl
namespace Go.Proofs.YtfpdopfomagngaaDoor
/- THE CELL 'sum', in the pinned program and in every row, IS THE sha256 OF THE DUMP (.gsa) THAT YtfpdopfomagngaaDoorProg.lean LOADS. Nothing in Lean hashes anything: it is a label: what it is worth is what the hold of that sum in a sandbox is worth. -/
noncomputable def Tryd.pinned : Pinned := { name := "ytfpdopfomagngaadoor", sum := "0e6f0737a2766992825a8aec286a0f91d1def050456ab2bf9d349cd168ceb8ac", checked := Tryd.checked }
namespace Rows
def none {H : Type} : Left H := { results := [], args := [] }

/- WHAT THE LISTED PACKAGE-LEVEL VARIABLES READ AS WHEN THE CALL BEGINS. Each datum BY PROGRAM (the guide's laid-datum.mjs) off the statement by which the dump's own 'gosem.cut.vars' lays the variable. In a bare row this is a premise. The card (YtfpdopfomagngaaDoorCards.lean) ties it to the program's text. -/
def laid_math_bits_deBruijn64tab {H : Type} : DataW H := .agg [.lit (.int .u8 0), .lit (.int .u8 1), .lit (.int .u8 56), .lit (.int .u8 2), .lit (.int .u8 57), .lit (.int .u8 49), .lit (.int .u8 28), .lit (.int .u8 3), .lit (.int .u8 61), .lit (.int .u8 58), .lit (.int .u8 42), .lit (.int .u8 50), .lit (.int .u8 38), .lit (.int .u8 29), .lit (.int .u8 17), .lit (.int .u8 4), .lit (.int .u8 62), .lit (.int .u8 47), .lit (.int .u8 59), .lit (.int .u8 36), .lit (.int .u8 45), .lit (.int .u8 43), .lit (.int .u8 51), .lit (.int .u8 22), .lit (.int .u8 53), .lit (.int .u8 39), .lit (.int .u8 33), .lit (.int .u8 30), .lit (.int .u8 24), .lit (.int .u8 18), .lit (.int .u8 12), .lit (.int .u8 5), .lit (.int .u8 63), .lit (.int .u8 55), .lit (.int .u8 48), .lit (.int .u8 27), .lit (.int .u8 60), .lit (.int .u8 41), .lit (.int .u8 37), .lit (.int .u8 16), .lit (.int .u8 46), .lit (.int .u8 35), .lit (.int .u8 44), .lit (.int .u8 21), .lit (.int .u8 52), .lit (.int .u8 32), .lit (.int .u8 23), .lit (.int .u8 11), .lit (.int .u8 54), .lit (.int .u8 26), .lit (.int .u8 40), .lit (.int .u8 15), .lit (.int .u8 34), .lit (.int .u8 20), .lit (.int .u8 31), .lit (.int .u8 10), .lit (.int .u8 25), .lit (.int .u8 14), .lit (.int .u8 19), .lit (.int .u8 9), .lit (.int .u8 13), .lit (.int .u8 8), .lit (.int .u8 7), .lit (.int .u8 6)]

/-- 'spillframelaw04.BitsetOf': WHATEVER THE INPUT: true; the input reads as it did. -/
def bitsetOfSpec : ChangeSpec := { name := "bitsetOf", fn := fun _ => fun
  | [d] => { results := [.lit (.bool true)], args := [d] }
  | _ => none }
def bitsetOfRow : OpenClaim := { program := "ytfpdopfomagngaadoor", sum := "0e6f0737a2766992825a8aec286a0f91d1def050456ab2bf9d349cd168ceb8ac", func := "spillframe/spillframelaw04.BitsetOf", spec := "bitsetOf", named := ["math/bits.deBruijn64tab"], apart := false, laid := [("math/bits.deBruijn64tab", laid_math_bits_deBruijn64tab)] }
def BitsetOfSaid : Prop := bitsetOfRow.holds Tryd.pinned (OpenSpec.ofChange bitsetOfSpec)

/-- ITS FALSE NEIGHBOUR: 'it returns false'. Refute it at one input. -/
def bitsetOfWrong : ChangeSpec := { name := "bitsetOf", fn := fun _ => fun
  | [d] => { results := [.lit (.bool false)], args := [d] }
  | _ => none }
def BitsetOfWrongFalsely : Prop := bitsetOfRow.holds Tryd.pinned (OpenSpec.ofChange bitsetOfWrong)

/-- 'spillframelaw04.BitsetElements': WHATEVER THE INPUT: true; the input reads as it did. -/
def bitsetElementsSpec : ChangeSpec := { name := "bitsetElements", fn := fun _ => fun
  | [d1, d2] => { results := [.lit (.bool true)], args := [d1, d2] }
  | _ => none }
def bitsetElementsRow : OpenClaim := { program := "ytfpdopfomagngaadoor", sum := "0e6f0737a2766992825a8aec286a0f91d1def050456ab2bf9d349cd168ceb8ac", func := "spillframe/spillframelaw04.BitsetElements", spec := "bitsetElements", named := ["math/bits.deBruijn64tab"], apart := false, laid := [("math/bits.deBruijn64tab", laid_math_bits_deBruijn64tab)] }
def BitsetElementsSaid : Prop := bitsetElementsRow.holds Tryd.pinned (OpenSpec.ofChange bitsetElementsSpec)

/-- ITS FALSE NEIGHBOUR: 'it returns false'. Refute it at one input. -/
def bitsetElementsWrong : ChangeSpec := { name := "bitsetElements", fn := fun _ => fun
  | [d1, d2] => { results := [.lit (.bool false)], args := [d1, d2] }
  | _ => none }
def BitsetElementsWrongFalsely : Prop := bitsetElementsRow.holds Tryd.pinned (OpenSpec.ofChange bitsetElementsWrong)

/-- 'spillframelaw04.BitsetOperations': WHATEVER THE INPUT: true; the input reads as it did. -/
def bitsetOperationsSpec : ChangeSpec := { name := "bitsetOperations", fn := fun _ => fun
  | [d] => { results := [.lit (.bool true)], args := [d] }
  | _ => none }
def bitsetOperationsRow : OpenClaim := { program := "ytfpdopfomagngaadoor", sum := "0e6f0737a2766992825a8aec286a0f91d1def050456ab2bf9d349cd168ceb8ac", func := "spillframe/spillframelaw04.BitsetOperations", spec := "bitsetOperations", named := ["math/bits.deBruijn64tab"], apart := false, laid := [("math/bits.deBruijn64tab", laid_math_bits_deBruijn64tab)] }
def BitsetOperationsSaid : Prop := bitsetOperationsRow.holds Tryd.pinned (OpenSpec.ofChange bitsetOperationsSpec)

/-- ITS FALSE NEIGHBOUR: 'it returns false'. Refute it at one input. -/
def bitsetOperationsWrong : ChangeSpec := { name := "bitsetOperations", fn := fun _ => fun
  | [d] => { results := [.lit (.bool false)], args := [d] }
  | _ => none }
def BitsetOperationsWrongFalsely : Prop := bitsetOperationsRow.holds Tryd.pinned (OpenSpec.ofChange bitsetOperationsWrong)

/-- 'spillframelaw04.BitsetLattice': WHATEVER THE INPUT: true; the input reads as it did. -/
def bitsetLatticeSpec : ChangeSpec := { name := "bitsetLattice", fn := fun _ => fun
  | [d] => { results := [.lit (.bool true)], args := [d] }
  | _ => none }
def bitsetLatticeRow : OpenClaim := { program := "ytfpdopfomagngaadoor", sum := "0e6f0737a2766992825a8aec286a0f91d1def050456ab2bf9d349cd168ceb8ac", func := "spillframe/spillframelaw04.BitsetLattice", spec := "bitsetLattice", named := ["math/bits.deBruijn64tab"], apart := false, laid := [("math/bits.deBruijn64tab", laid_math_bits_deBruijn64tab)] }
def BitsetLatticeSaid : Prop := bitsetLatticeRow.holds Tryd.pinned (OpenSpec.ofChange bitsetLatticeSpec)

/-- ITS FALSE NEIGHBOUR: 'it returns false'. Refute it at one input. -/
def bitsetLatticeWrong : ChangeSpec := { name := "bitsetLattice", fn := fun _ => fun
  | [d] => { results := [.lit (.bool false)], args := [d] }
  | _ => none }
def BitsetLatticeWrongFalsely : Prop := bitsetLatticeRow.holds Tryd.pinned (OpenSpec.ofChange bitsetLatticeWrong)

/-- 'spillframelaw04.BitsetSharesNoMemory': WHATEVER THE INPUT: true; the input reads as it did. -/
def bitsetSharesNoMemorySpec : ChangeSpec := { name := "bitsetSharesNoMemory", fn := fun _ => fun
  | [d1, d2] => { results := [.lit (.bool true)], args := [d1, d2] }
  | _ => none }
def bitsetSharesNoMemoryRow : OpenClaim := { program := "ytfpdopfomagngaadoor", sum := "0e6f0737a2766992825a8aec286a0f91d1def050456ab2bf9d349cd168ceb8ac", func := "spillframe/spillframelaw04.BitsetSharesNoMemory", spec := "bitsetSharesNoMemory", named := ["math/bits.deBruijn64tab"], apart := false, laid := [("math/bits.deBruijn64tab", laid_math_bits_deBruijn64tab)] }
def BitsetSharesNoMemorySaid : Prop := bitsetSharesNoMemoryRow.holds Tryd.pinned (OpenSpec.ofChange bitsetSharesNoMemorySpec)

/-- ITS FALSE NEIGHBOUR: 'it returns false'. Refute it at one input. -/
def bitsetSharesNoMemoryWrong : ChangeSpec := { name := "bitsetSharesNoMemory", fn := fun _ => fun
  | [d1, d2] => { results := [.lit (.bool false)], args := [d1, d2] }
  | _ => none }
def BitsetSharesNoMemoryWrongFalsely : Prop := bitsetSharesNoMemoryRow.holds Tryd.pinned (OpenSpec.ofChange bitsetSharesNoMemoryWrong)

/- THE SECOND FORM. 'bulk': how many values and letters a reading holds, each counted each time it is reached (what is shared counts as often as it is met; a slice's spare places count too). A statement '..UptoSaid' is the law's where the arguments, and the package variables that the reading takes, are together of bulk at most 1048576: NARROWER than '..Said'. Prove '..Said' where nothing that the law and all that it calls make is longer than what came in: it says more and counts as full. Else prove '..UptoSaid'. A law counts once. -/
mutual
def uptoBulk {H : Type} : DataW H → Nat
  | .lit (.string bytes) => bytes.length + 1
  | .lit _ => 1
  | .nil => 1
  | .ptr d => uptoBulk d + 1
  | .slice elems spare => uptoBulkAll elems + uptoBulkAll spare + 1
  | .agg parts => uptoBulkAll parts + 1
  | .iface _ d => uptoBulk d + 1
  | .map entries => uptoBulkEntries entries + 1
  | .held _ => 1
def uptoBulkAll {H : Type} : List (DataW H) → Nat
  | [] => 0
  | d :: r => uptoBulk d + uptoBulkAll r
def uptoBulkEntries {H : Type} : List (Lit × DataW H) → Nat
  | [] => 0
  | x :: r => uptoBulkEntry x + uptoBulkEntries r
def uptoBulkEntry {H : Type} : Lit × DataW H → Nat
  | (.string bytes, d) => bytes.length + uptoBulk d + 1
  | (_, d) => uptoBulk d + 1
 end
def uptoSmall : (H : Type) → List (DataW H) → Bool := fun _ ds => decide (uptoBulkAll ds ≤ 1048576)
def OpenSpec.upto (s : _root_.Go.ChangeSpec) : _root_.Go.OpenSpec := { _root_.Go.OpenSpec.ofChange s with cond := some uptoSmall }

/-- 'spillframelaw04.BitsetOf', WHERE WHAT IT READS IS OF BULK AT MOST 1048576: true; the input reads as it did. -/
def bitsetOfUptoRow : OpenClaim := { program := "ytfpdopfomagngaadoor", sum := "0e6f0737a2766992825a8aec286a0f91d1def050456ab2bf9d349cd168ceb8ac", func := "spillframe/spillframelaw04.BitsetOf", spec := "bitsetOf", named := ["math/bits.deBruijn64tab"], apart := false, laid := [("math/bits.deBruijn64tab", laid_math_bits_deBruijn64tab)], narrowed := true }
def BitsetOfUptoSaid : Prop := bitsetOfUptoRow.holds Tryd.pinned (OpenSpec.upto bitsetOfSpec)

/-- 'spillframelaw04.BitsetElements', WHERE WHAT IT READS IS OF BULK AT MOST 1048576: true; the input reads as it did. -/
def bitsetElementsUptoRow : OpenClaim := { program := "ytfpdopfomagngaadoor", sum := "0e6f0737a2766992825a8aec286a0f91d1def050456ab2bf9d349cd168ceb8ac", func := "spillframe/spillframelaw04.BitsetElements", spec := "bitsetElements", named := ["math/bits.deBruijn64tab"], apart := false, laid := [("math/bits.deBruijn64tab", laid_math_bits_deBruijn64tab)], narrowed := true }
def BitsetElementsUptoSaid : Prop := bitsetElementsUptoRow.holds Tryd.pinned (OpenSpec.upto bitsetElementsSpec)

/-- 'spillframelaw04.BitsetOperations', WHERE WHAT IT READS IS OF BULK AT MOST 1048576: true; the input reads as it did. -/
def bitsetOperationsUptoRow : OpenClaim := { program := "ytfpdopfomagngaadoor", sum := "0e6f0737a2766992825a8aec286a0f91d1def050456ab2bf9d349cd168ceb8ac", func := "spillframe/spillframelaw04.BitsetOperations", spec := "bitsetOperations", named := ["math/bits.deBruijn64tab"], apart := false, laid := [("math/bits.deBruijn64tab", laid_math_bits_deBruijn64tab)], narrowed := true }
def BitsetOperationsUptoSaid : Prop := bitsetOperationsUptoRow.holds Tryd.pinned (OpenSpec.upto bitsetOperationsSpec)

/-- 'spillframelaw04.BitsetLattice', WHERE WHAT IT READS IS OF BULK AT MOST 1048576: true; the input reads as it did. -/
def bitsetLatticeUptoRow : OpenClaim := { program := "ytfpdopfomagngaadoor", sum := "0e6f0737a2766992825a8aec286a0f91d1def050456ab2bf9d349cd168ceb8ac", func := "spillframe/spillframelaw04.BitsetLattice", spec := "bitsetLattice", named := ["math/bits.deBruijn64tab"], apart := false, laid := [("math/bits.deBruijn64tab", laid_math_bits_deBruijn64tab)], narrowed := true }
def BitsetLatticeUptoSaid : Prop := bitsetLatticeUptoRow.holds Tryd.pinned (OpenSpec.upto bitsetLatticeSpec)

/-- 'spillframelaw04.BitsetSharesNoMemory', WHERE WHAT IT READS IS OF BULK AT MOST 1048576: true; the input reads as it did. -/
def bitsetSharesNoMemoryUptoRow : OpenClaim := { program := "ytfpdopfomagngaadoor", sum := "0e6f0737a2766992825a8aec286a0f91d1def050456ab2bf9d349cd168ceb8ac", func := "spillframe/spillframelaw04.BitsetSharesNoMemory", spec := "bitsetSharesNoMemory", named := ["math/bits.deBruijn64tab"], apart := false, laid := [("math/bits.deBruijn64tab", laid_math_bits_deBruijn64tab)], narrowed := true }
def BitsetSharesNoMemoryUptoSaid : Prop := bitsetSharesNoMemoryUptoRow.holds Tryd.pinned (OpenSpec.upto bitsetSharesNoMemorySpec)

end Rows
end Go.Proofs.YtfpdopfomagngaaDoor
