/-
  No cell of these rows narrows 'for every input' (looked for: loops, veiled, ifaces, maps, wideKeys, modest, calm, conditions, laid).
  DERIVED. THE GIVEN ROWS OF THIS SEAT. 3 by the template 'for every input the law returns true; each argument reads behind the call as it read before'; 0 by the template 'total and deterministic' (their statements: YtipjeihfhnilcabTotals.lean).
  GIVEN WITH THE SEED: the statements are not yours to turn. If you find one false, say at which input.
  Laid BY PROGRAM, IN A SANDBOX (cutbox-rows.mjs): the forced cells as the released guide's own fill.sh prints them over the translation 0124da487e46bc6a… (all of the seat's roots in one cut). By AI agents, Wed Nov 11 2026. No macro, syntax, notation, axiom, sorry.
-/
import Derived.Test.YtipjeihfhnilcabChecked
import GoSem.Claim
import GoSem.ClaimJoined
import GoSem.ClaimMapViews
import Derived.JoinedTies
import Derived.KernelRfl
namespace Go.Proofs.Ytipjeihfhnilcab
/- THE CELL 'sum', in the pinned program and in every row, IS THE sha256 OF THE DUMP (.gsa) THAT YtipjeihfhnilcabProg.lean LOADS. Nothing in Lean hashes anything: it is a label: what it is worth is what the hold of that sum in a sandbox is worth. -/
noncomputable def Try.pinned : Pinned := { name := "ytipjeihfhnilcab", sum := "0124da487e46bc6a1a72eb5ceee7e69134b661f1358e434e02131692ae3faab4", checked := Try.checked }
namespace Rows
def none {H : Type} : Left H := { results := [], args := [] }

/-- 'spillframelaw13.FlowReached': WHATEVER THE INPUT: true; the input reads as it did. -/
def flowReachedSpec : ChangeSpec := { name := "flowReached", fn := fun _ => fun
  | [d] => { results := [.lit (.bool true)], args := [d] }
  | _ => none }
def flowReachedRow : OpenClaim := { program := "ytipjeihfhnilcab", sum := "0124da487e46bc6a1a72eb5ceee7e69134b661f1358e434e02131692ae3faab4", func := "spillframe/spillframelaw13.FlowReached", spec := "flowReached", recurses := true, apart := false }
def FlowReachedSaid : Prop := flowReachedRow.holds Try.pinned (OpenSpec.ofChange flowReachedSpec)

/-- ITS FALSE NEIGHBOUR: 'it returns false'. Refute it at one input. -/
def flowReachedWrong : ChangeSpec := { name := "flowReached", fn := fun _ => fun
  | [d] => { results := [.lit (.bool false)], args := [d] }
  | _ => none }
def FlowReachedWrongFalsely : Prop := flowReachedRow.holds Try.pinned (OpenSpec.ofChange flowReachedWrong)

/-- 'spillframelaw13.FlowBlocks': WHATEVER THE INPUT: true; the input reads as it did. -/
def flowBlocksSpec : ChangeSpec := { name := "flowBlocks", fn := fun _ => fun
  | [d1, d2] => { results := [.lit (.bool true)], args := [d1, d2] }
  | _ => none }
def flowBlocksRow : OpenClaim := { program := "ytipjeihfhnilcab", sum := "0124da487e46bc6a1a72eb5ceee7e69134b661f1358e434e02131692ae3faab4", func := "spillframe/spillframelaw13.FlowBlocks", spec := "flowBlocks", recurses := true, apart := false }
def FlowBlocksSaid : Prop := flowBlocksRow.holds Try.pinned (OpenSpec.ofChange flowBlocksSpec)

/-- ITS FALSE NEIGHBOUR: 'it returns false'. Refute it at one input. -/
def flowBlocksWrong : ChangeSpec := { name := "flowBlocks", fn := fun _ => fun
  | [d1, d2] => { results := [.lit (.bool false)], args := [d1, d2] }
  | _ => none }
def FlowBlocksWrongFalsely : Prop := flowBlocksRow.holds Try.pinned (OpenSpec.ofChange flowBlocksWrong)

/-- 'spillframelaw13.FlowBlocksDivideTheCode': WHATEVER THE INPUT: true; the input reads as it did. -/
def flowBlocksDivideTheCodeSpec : ChangeSpec := { name := "flowBlocksDivideTheCode", fn := fun _ => fun
  | [d] => { results := [.lit (.bool true)], args := [d] }
  | _ => none }
def flowBlocksDivideTheCodeRow : OpenClaim := { program := "ytipjeihfhnilcab", sum := "0124da487e46bc6a1a72eb5ceee7e69134b661f1358e434e02131692ae3faab4", func := "spillframe/spillframelaw13.FlowBlocksDivideTheCode", spec := "flowBlocksDivideTheCode", recurses := true, apart := false }
def FlowBlocksDivideTheCodeSaid : Prop := flowBlocksDivideTheCodeRow.holds Try.pinned (OpenSpec.ofChange flowBlocksDivideTheCodeSpec)

/-- ITS FALSE NEIGHBOUR: 'it returns false'. Refute it at one input. -/
def flowBlocksDivideTheCodeWrong : ChangeSpec := { name := "flowBlocksDivideTheCode", fn := fun _ => fun
  | [d] => { results := [.lit (.bool false)], args := [d] }
  | _ => none }
def FlowBlocksDivideTheCodeWrongFalsely : Prop := flowBlocksDivideTheCodeRow.holds Try.pinned (OpenSpec.ofChange flowBlocksDivideTheCodeWrong)

/- THE SECOND FORM. 'bulk': how many values and letters a reading holds, each counted each time it is reached (what is shared counts as often as it is met; a slice's spare places count too). A statement '..UptoSaid' is the law's where the arguments, and the package variables that the reading takes, are together of bulk at most 1048576: NARROWER than '..Said'. Prove '..Said' where nothing that the law and all that it calls make is longer than what came in: it says more and counts as full. Else prove '..UptoSaid'. A law counts once. -/
mutual
def uptoBulk {H : Type} : DataW H → Nat
  | .lit (.string bytes) => bytes.length + 1
  | .lit _ => 1
  | .nil => 1
  | .ptr d => uptoBulk d + 1
  | .slice elems spare => uptoBulkAll elems + uptoBulkAll spare + 1
  | .agg parts => uptoBulkAll parts + 1
  | .iface _ d => uptoBulk d + 1
  | .map entries => uptoBulkEntries entries + 1
  | .held _ => 1
def uptoBulkAll {H : Type} : List (DataW H) → Nat
  | [] => 0
  | d :: r => uptoBulk d + uptoBulkAll r
def uptoBulkEntries {H : Type} : List (Lit × DataW H) → Nat
  | [] => 0
  | x :: r => uptoBulkEntry x + uptoBulkEntries r
def uptoBulkEntry {H : Type} : Lit × DataW H → Nat
  | (.string bytes, d) => bytes.length + uptoBulk d + 1
  | (_, d) => uptoBulk d + 1
 end
def uptoSmall : (H : Type) → List (DataW H) → Bool := fun _ ds => decide (uptoBulkAll ds ≤ 1048576)
def OpenSpec.upto (s : _root_.Go.ChangeSpec) : _root_.Go.OpenSpec := { _root_.Go.OpenSpec.ofChange s with cond := some uptoSmall }

/-- 'spillframelaw13.FlowReached', WHERE WHAT IT READS IS OF BULK AT MOST 1048576: true; the input reads as it did. -/
def flowReachedUptoRow : OpenClaim := { program := "ytipjeihfhnilcab", sum := "0124da487e46bc6a1a72eb5ceee7e69134b661f1358e434e02131692ae3faab4", func := "spillframe/spillframelaw13.FlowReached", spec := "flowReached", recurses := true, apart := false, narrowed := true }
def FlowReachedUptoSaid : Prop := flowReachedUptoRow.holds Try.pinned (OpenSpec.upto flowReachedSpec)

/-- 'spillframelaw13.FlowBlocks', WHERE WHAT IT READS IS OF BULK AT MOST 1048576: true; the input reads as it did. -/
def flowBlocksUptoRow : OpenClaim := { program := "ytipjeihfhnilcab", sum := "0124da487e46bc6a1a72eb5ceee7e69134b661f1358e434e02131692ae3faab4", func := "spillframe/spillframelaw13.FlowBlocks", spec := "flowBlocks", recurses := true, apart := false, narrowed := true }
def FlowBlocksUptoSaid : Prop := flowBlocksUptoRow.holds Try.pinned (OpenSpec.upto flowBlocksSpec)

/-- 'spillframelaw13.FlowBlocksDivideTheCode', WHERE WHAT IT READS IS OF BULK AT MOST 1048576: true; the input reads as it did. -/
def flowBlocksDivideTheCodeUptoRow : OpenClaim := { program := "ytipjeihfhnilcab", sum := "0124da487e46bc6a1a72eb5ceee7e69134b661f1358e434e02131692ae3faab4", func := "spillframe/spillframelaw13.FlowBlocksDivideTheCode", spec := "flowBlocksDivideTheCode", recurses := true, apart := false, narrowed := true }
def FlowBlocksDivideTheCodeUptoSaid : Prop := flowBlocksDivideTheCodeUptoRow.holds Try.pinned (OpenSpec.upto flowBlocksDivideTheCodeSpec)

end Rows
end Go.Proofs.Ytipjeihfhnilcab
