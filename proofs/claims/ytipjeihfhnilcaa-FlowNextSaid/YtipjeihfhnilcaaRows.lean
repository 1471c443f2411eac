/-
  No cell of these rows narrows 'for every input' (looked for: loops, veiled, ifaces, maps, wideKeys, modest, calm, conditions, laid).
  DERIVED. THE GIVEN ROWS OF THIS SEAT. 4 by the template 'for every input the law returns true; each argument reads behind the call as it read before'; 0 by the template 'total and deterministic' (their statements: YtipjeihfhnilcaaTotals.lean).
  GIVEN WITH THE SEED: the statements are not yours to turn. If you find one false, say at which input.
  Laid BY PROGRAM, IN A SANDBOX (cutbox-rows.mjs): the forced cells as the released guide's own fill.sh prints them over the translation 20808aca7e034e96… (all of the seat's roots in one cut). By AI agents, Wed Nov 11 2026. No macro, syntax, notation, axiom, sorry.
-/
import Derived.Test.YtipjeihfhnilcaaChecked
import GoSem.Claim
import GoSem.ClaimJoined
import GoSem.ClaimMapViews
import Derived.JoinedTies
import Derived.KernelRfl
namespace Go.Proofs.Ytipjeihfhnilcaa
/- THE CELL 'sum', in the pinned program and in every row, IS THE sha256 OF THE DUMP (.gsa) THAT YtipjeihfhnilcaaProg.lean LOADS. Nothing in Lean hashes anything: it is a label: what it is worth is what the hold of that sum in a sandbox is worth. -/
noncomputable def Try.pinned : Pinned := { name := "ytipjeihfhnilcaa", sum := "20808aca7e034e9682655107cddfced105abb03cabfe342dad811016049b8cf2", checked := Try.checked }
namespace Rows
def none {H : Type} : Left H := { results := [], args := [] }

/-- 'spillframelaw09.StackOperations': WHATEVER THE INPUT: true; the input reads as it did. -/
def stackOperationsSpec : ChangeSpec := { name := "stackOperations", fn := fun _ => fun
  | [d1, d2, d3] => { results := [.lit (.bool true)], args := [d1, d2, d3] }
  | _ => none }
def stackOperationsRow : OpenClaim := { program := "ytipjeihfhnilcaa", sum := "20808aca7e034e9682655107cddfced105abb03cabfe342dad811016049b8cf2", func := "spillframe/spillframelaw09.StackOperations", spec := "stackOperations", apart := false }
def StackOperationsSaid : Prop := stackOperationsRow.holds Try.pinned (OpenSpec.ofChange stackOperationsSpec)

/-- ITS FALSE NEIGHBOUR: 'it returns false'. Refute it at one input. -/
def stackOperationsWrong : ChangeSpec := { name := "stackOperations", fn := fun _ => fun
  | [d1, d2, d3] => { results := [.lit (.bool false)], args := [d1, d2, d3] }
  | _ => none }
def StackOperationsWrongFalsely : Prop := stackOperationsRow.holds Try.pinned (OpenSpec.ofChange stackOperationsWrong)

/-- 'spillframelaw09.StackLoadAfterStore': WHATEVER THE INPUT: true; the input reads as it did. -/
def stackLoadAfterStoreSpec : ChangeSpec := { name := "stackLoadAfterStore", fn := fun _ => fun
  | [d1, d2] => { results := [.lit (.bool true)], args := [d1, d2] }
  | _ => none }
def stackLoadAfterStoreRow : OpenClaim := { program := "ytipjeihfhnilcaa", sum := "20808aca7e034e9682655107cddfced105abb03cabfe342dad811016049b8cf2", func := "spillframe/spillframelaw09.StackLoadAfterStore", spec := "stackLoadAfterStore", apart := false }
def StackLoadAfterStoreSaid : Prop := stackLoadAfterStoreRow.holds Try.pinned (OpenSpec.ofChange stackLoadAfterStoreSpec)

/-- ITS FALSE NEIGHBOUR: 'it returns false'. Refute it at one input. -/
def stackLoadAfterStoreWrong : ChangeSpec := { name := "stackLoadAfterStore", fn := fun _ => fun
  | [d1, d2] => { results := [.lit (.bool false)], args := [d1, d2] }
  | _ => none }
def StackLoadAfterStoreWrongFalsely : Prop := stackLoadAfterStoreRow.holds Try.pinned (OpenSpec.ofChange stackLoadAfterStoreWrong)

/-- 'spillframelaw13.FlowNext': WHATEVER THE INPUT: true; the input reads as it did. -/
def flowNextSpec : ChangeSpec := { name := "flowNext", fn := fun _ => fun
  | [d1, d2] => { results := [.lit (.bool true)], args := [d1, d2] }
  | _ => none }
def flowNextRow : OpenClaim := { program := "ytipjeihfhnilcaa", sum := "20808aca7e034e9682655107cddfced105abb03cabfe342dad811016049b8cf2", func := "spillframe/spillframelaw13.FlowNext", spec := "flowNext", recurses := true, apart := false }
def FlowNextSaid : Prop := flowNextRow.holds Try.pinned (OpenSpec.ofChange flowNextSpec)

/-- ITS FALSE NEIGHBOUR: 'it returns false'. Refute it at one input. -/
def flowNextWrong : ChangeSpec := { name := "flowNext", fn := fun _ => fun
  | [d1, d2] => { results := [.lit (.bool false)], args := [d1, d2] }
  | _ => none }
def FlowNextWrongFalsely : Prop := flowNextRow.holds Try.pinned (OpenSpec.ofChange flowNextWrong)

/-- 'spillframelaw13.FlowNextIsBefore': WHATEVER THE INPUT: true; the input reads as it did. -/
def flowNextIsBeforeSpec : ChangeSpec := { name := "flowNextIsBefore", fn := fun _ => fun
  | [d] => { results := [.lit (.bool true)], args := [d] }
  | _ => none }
def flowNextIsBeforeRow : OpenClaim := { program := "ytipjeihfhnilcaa", sum := "20808aca7e034e9682655107cddfced105abb03cabfe342dad811016049b8cf2", func := "spillframe/spillframelaw13.FlowNextIsBefore", spec := "flowNextIsBefore", recurses := true, apart := false }
def FlowNextIsBeforeSaid : Prop := flowNextIsBeforeRow.holds Try.pinned (OpenSpec.ofChange flowNextIsBeforeSpec)

/-- ITS FALSE NEIGHBOUR: 'it returns false'. Refute it at one input. -/
def flowNextIsBeforeWrong : ChangeSpec := { name := "flowNextIsBefore", fn := fun _ => fun
  | [d] => { results := [.lit (.bool false)], args := [d] }
  | _ => none }
def FlowNextIsBeforeWrongFalsely : Prop := flowNextIsBeforeRow.holds Try.pinned (OpenSpec.ofChange flowNextIsBeforeWrong)

/- THE SECOND FORM. 'bulk': how many values and letters a reading holds, each counted each time it is reached (what is shared counts as often as it is met; a slice's spare places count too). A statement '..UptoSaid' is the law's where the arguments, and the package variables that the reading takes, are together of bulk at most 1048576: NARROWER than '..Said'. Prove '..Said' where nothing that the law and all that it calls make is longer than what came in: it says more and counts as full. Else prove '..UptoSaid'. A law counts once. -/
mutual
def uptoBulk {H : Type} : DataW H → Nat
  | .lit (.string bytes) => bytes.length + 1
  | .lit _ => 1
  | .nil => 1
  | .ptr d => uptoBulk d + 1
  | .slice elems spare => uptoBulkAll elems + uptoBulkAll spare + 1
  | .agg parts => uptoBulkAll parts + 1
  | .iface _ d => uptoBulk d + 1
  | .map entries => uptoBulkEntries entries + 1
  | .held _ => 1
def uptoBulkAll {H : Type} : List (DataW H) → Nat
  | [] => 0
  | d :: r => uptoBulk d + uptoBulkAll r
def uptoBulkEntries {H : Type} : List (Lit × DataW H) → Nat
  | [] => 0
  | x :: r => uptoBulkEntry x + uptoBulkEntries r
def uptoBulkEntry {H : Type} : Lit × DataW H → Nat
  | (.string bytes, d) => bytes.length + uptoBulk d + 1
  | (_, d) => uptoBulk d + 1
 end
def uptoSmall : (H : Type) → List (DataW H) → Bool := fun _ ds => decide (uptoBulkAll ds ≤ 1048576)
def OpenSpec.upto (s : _root_.Go.ChangeSpec) : _root_.Go.OpenSpec := { _root_.Go.OpenSpec.ofChange s with cond := some uptoSmall }

/-- 'spillframelaw09.StackOperations', WHERE WHAT IT READS IS OF BULK AT MOST 1048576: true; the input reads as it did. -/
def stackOperationsUptoRow : OpenClaim := { program := "ytipjeihfhnilcaa", sum := "20808aca7e034e9682655107cddfced105abb03cabfe342dad811016049b8cf2", func := "spillframe/spillframelaw09.StackOperations", spec := "stackOperations", apart := false, narrowed := true }
def StackOperationsUptoSaid : Prop := stackOperationsUptoRow.holds Try.pinned (OpenSpec.upto stackOperationsSpec)

/-- 'spillframelaw09.StackLoadAfterStore', WHERE WHAT IT READS IS OF BULK AT MOST 1048576: true; the input reads as it did. -/
def stackLoadAfterStoreUptoRow : OpenClaim := { program := "ytipjeihfhnilcaa", sum := "20808aca7e034e9682655107cddfced105abb03cabfe342dad811016049b8cf2", func := "spillframe/spillframelaw09.StackLoadAfterStore", spec := "stackLoadAfterStore", apart := false, narrowed := true }
def StackLoadAfterStoreUptoSaid : Prop := stackLoadAfterStoreUptoRow.holds Try.pinned (OpenSpec.upto stackLoadAfterStoreSpec)

/-- 'spillframelaw13.FlowNext', WHERE WHAT IT READS IS OF BULK AT MOST 1048576: true; the input reads as it did. -/
def flowNextUptoRow : OpenClaim := { program := "ytipjeihfhnilcaa", sum := "20808aca7e034e9682655107cddfced105abb03cabfe342dad811016049b8cf2", func := "spillframe/spillframelaw13.FlowNext", spec := "flowNext", recurses := true, apart := false, narrowed := true }
def FlowNextUptoSaid : Prop := flowNextUptoRow.holds Try.pinned (OpenSpec.upto flowNextSpec)

/-- 'spillframelaw13.FlowNextIsBefore', WHERE WHAT IT READS IS OF BULK AT MOST 1048576: true; the input reads as it did. -/
def flowNextIsBeforeUptoRow : OpenClaim := { program := "ytipjeihfhnilcaa", sum := "20808aca7e034e9682655107cddfced105abb03cabfe342dad811016049b8cf2", func := "spillframe/spillframelaw13.FlowNextIsBefore", spec := "flowNextIsBefore", recurses := true, apart := false, narrowed := true }
def FlowNextIsBeforeUptoSaid : Prop := flowNextIsBeforeUptoRow.holds Try.pinned (OpenSpec.upto flowNextIsBeforeSpec)

end Rows
end Go.Proofs.Ytipjeihfhnilcaa
