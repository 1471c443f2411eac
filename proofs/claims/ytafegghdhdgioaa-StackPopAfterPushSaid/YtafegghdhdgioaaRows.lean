/-
  No cell of these rows narrows 'for every input' (looked for: loops, veiled, ifaces, maps, wideKeys, modest, calm, conditions, laid).
  DERIVED. THE GIVEN ROWS OF THIS SEAT. 5 by the template 'for every input the law returns true; each argument reads behind the call as it read before'; 0 by the template 'total and deterministic' (their statements: YtafegghdhdgioaaTotals.lean).
  GIVEN WITH THE SEED: the statements are not yours to turn. If you find one false, say at which input.
  Laid BY PROGRAM, IN A SANDBOX (cutbox-rows.mjs): the forced cells as the released guide's own fill.sh prints them over the translation 313ab8ff9b6ce229… (all of the seat's roots in one cut). By AI agents, Wed Nov 11 2026. No macro, syntax, notation, axiom, sorry.
-/
import Derived.Test.YtafegghdhdgioaaChecked
import GoSem.Claim
import GoSem.ClaimJoined
import GoSem.ClaimMapViews
import Derived.JoinedTies
import Derived.KernelRfl
namespace Go.Proofs.Ytafegghdhdgioaa
/- THE CELL 'sum', in the pinned program and in every row, IS THE sha256 OF THE DUMP (.gsa) THAT YtafegghdhdgioaaProg.lean LOADS. Nothing in Lean hashes anything: it is a label: what it is worth is what the hold of that sum in a sandbox is worth. -/
noncomputable def Try.pinned : Pinned := { name := "ytafegghdhdgioaa", sum := "313ab8ff9b6ce22906e964214cfcd65066dbffa28e7e06cce39e231bbcb0fe4e", checked := Try.checked }
namespace Rows
def none {H : Type} : Left H := { results := [], args := [] }

/-- 'spillframelaw09.StackNew': WHATEVER THE INPUT: true; the input reads as it did. -/
def stackNewSpec : ChangeSpec := { name := "stackNew", fn := fun _ => fun
  | [d1, d2, d3, d4] => { results := [.lit (.bool true)], args := [d1, d2, d3, d4] }
  | _ => none }
def stackNewRow : OpenClaim := { program := "ytafegghdhdgioaa", sum := "313ab8ff9b6ce22906e964214cfcd65066dbffa28e7e06cce39e231bbcb0fe4e", func := "spillframe/spillframelaw09.StackNew", spec := "stackNew", apart := false }
def StackNewSaid : Prop := stackNewRow.holds Try.pinned (OpenSpec.ofChange stackNewSpec)

/-- ITS FALSE NEIGHBOUR: 'it returns false'. Refute it at one input. -/
def stackNewWrong : ChangeSpec := { name := "stackNew", fn := fun _ => fun
  | [d1, d2, d3, d4] => { results := [.lit (.bool false)], args := [d1, d2, d3, d4] }
  | _ => none }
def StackNewWrongFalsely : Prop := stackNewRow.holds Try.pinned (OpenSpec.ofChange stackNewWrong)

/-- 'spillframelaw09.StackOperations': WHATEVER THE INPUT: true; the input reads as it did. -/
def stackOperationsSpec : ChangeSpec := { name := "stackOperations", fn := fun _ => fun
  | [d1, d2, d3] => { results := [.lit (.bool true)], args := [d1, d2, d3] }
  | _ => none }
def stackOperationsRow : OpenClaim := { program := "ytafegghdhdgioaa", sum := "313ab8ff9b6ce22906e964214cfcd65066dbffa28e7e06cce39e231bbcb0fe4e", func := "spillframe/spillframelaw09.StackOperations", spec := "stackOperations", apart := false }
def StackOperationsSaid : Prop := stackOperationsRow.holds Try.pinned (OpenSpec.ofChange stackOperationsSpec)

/-- ITS FALSE NEIGHBOUR: 'it returns false'. Refute it at one input. -/
def stackOperationsWrong : ChangeSpec := { name := "stackOperations", fn := fun _ => fun
  | [d1, d2, d3] => { results := [.lit (.bool false)], args := [d1, d2, d3] }
  | _ => none }
def StackOperationsWrongFalsely : Prop := stackOperationsRow.holds Try.pinned (OpenSpec.ofChange stackOperationsWrong)

/-- 'spillframelaw09.StackLoadAfterStore': WHATEVER THE INPUT: true; the input reads as it did. -/
def stackLoadAfterStoreSpec : ChangeSpec := { name := "stackLoadAfterStore", fn := fun _ => fun
  | [d1, d2] => { results := [.lit (.bool true)], args := [d1, d2] }
  | _ => none }
def stackLoadAfterStoreRow : OpenClaim := { program := "ytafegghdhdgioaa", sum := "313ab8ff9b6ce22906e964214cfcd65066dbffa28e7e06cce39e231bbcb0fe4e", func := "spillframe/spillframelaw09.StackLoadAfterStore", spec := "stackLoadAfterStore", apart := false }
def StackLoadAfterStoreSaid : Prop := stackLoadAfterStoreRow.holds Try.pinned (OpenSpec.ofChange stackLoadAfterStoreSpec)

/-- ITS FALSE NEIGHBOUR: 'it returns false'. Refute it at one input. -/
def stackLoadAfterStoreWrong : ChangeSpec := { name := "stackLoadAfterStore", fn := fun _ => fun
  | [d1, d2] => { results := [.lit (.bool false)], args := [d1, d2] }
  | _ => none }
def StackLoadAfterStoreWrongFalsely : Prop := stackLoadAfterStoreRow.holds Try.pinned (OpenSpec.ofChange stackLoadAfterStoreWrong)

/-- 'spillframelaw09.StackPopAfterPush': WHATEVER THE INPUT: true; the input reads as it did. -/
def stackPopAfterPushSpec : ChangeSpec := { name := "stackPopAfterPush", fn := fun _ => fun
  | [d1, d2] => { results := [.lit (.bool true)], args := [d1, d2] }
  | _ => none }
def stackPopAfterPushRow : OpenClaim := { program := "ytafegghdhdgioaa", sum := "313ab8ff9b6ce22906e964214cfcd65066dbffa28e7e06cce39e231bbcb0fe4e", func := "spillframe/spillframelaw09.StackPopAfterPush", spec := "stackPopAfterPush", apart := false }
def StackPopAfterPushSaid : Prop := stackPopAfterPushRow.holds Try.pinned (OpenSpec.ofChange stackPopAfterPushSpec)

/-- ITS FALSE NEIGHBOUR: 'it returns false'. Refute it at one input. -/
def stackPopAfterPushWrong : ChangeSpec := { name := "stackPopAfterPush", fn := fun _ => fun
  | [d1, d2] => { results := [.lit (.bool false)], args := [d1, d2] }
  | _ => none }
def StackPopAfterPushWrongFalsely : Prop := stackPopAfterPushRow.holds Try.pinned (OpenSpec.ofChange stackPopAfterPushWrong)

/-- 'spillframelaw09.StackUndefByte': WHATEVER THE INPUT: true; the input reads as it did. -/
def stackUndefByteSpec : ChangeSpec := { name := "stackUndefByte", fn := fun _ => fun
  | [d1, d2, d3] => { results := [.lit (.bool true)], args := [d1, d2, d3] }
  | _ => none }
def stackUndefByteRow : OpenClaim := { program := "ytafegghdhdgioaa", sum := "313ab8ff9b6ce22906e964214cfcd65066dbffa28e7e06cce39e231bbcb0fe4e", func := "spillframe/spillframelaw09.StackUndefByte", spec := "stackUndefByte", apart := false }
def StackUndefByteSaid : Prop := stackUndefByteRow.holds Try.pinned (OpenSpec.ofChange stackUndefByteSpec)

/-- ITS FALSE NEIGHBOUR: 'it returns false'. Refute it at one input. -/
def stackUndefByteWrong : ChangeSpec := { name := "stackUndefByte", fn := fun _ => fun
  | [d1, d2, d3] => { results := [.lit (.bool false)], args := [d1, d2, d3] }
  | _ => none }
def StackUndefByteWrongFalsely : Prop := stackUndefByteRow.holds Try.pinned (OpenSpec.ofChange stackUndefByteWrong)

/- THE SECOND FORM. 'bulk': how many values and letters a reading holds, each counted each time it is reached (what is shared counts as often as it is met; a slice's spare places count too). A statement '..UptoSaid' is the law's where the arguments, and the package variables that the reading takes, are together of bulk at most 1048576: NARROWER than '..Said'. Prove '..Said' where nothing that the law and all that it calls make is longer than what came in: it says more and counts as full. Else prove '..UptoSaid'. A law counts once. -/
mutual
def uptoBulk {H : Type} : DataW H → Nat
  | .lit (.string bytes) => bytes.length + 1
  | .lit _ => 1
  | .nil => 1
  | .ptr d => uptoBulk d + 1
  | .slice elems spare => uptoBulkAll elems + uptoBulkAll spare + 1
  | .agg parts => uptoBulkAll parts + 1
  | .iface _ d => uptoBulk d + 1
  | .map entries => uptoBulkEntries entries + 1
  | .held _ => 1
def uptoBulkAll {H : Type} : List (DataW H) → Nat
  | [] => 0
  | d :: r => uptoBulk d + uptoBulkAll r
def uptoBulkEntries {H : Type} : List (Lit × DataW H) → Nat
  | [] => 0
  | x :: r => uptoBulkEntry x + uptoBulkEntries r
def uptoBulkEntry {H : Type} : Lit × DataW H → Nat
  | (.string bytes, d) => bytes.length + uptoBulk d + 1
  | (_, d) => uptoBulk d + 1
 end
def uptoSmall : (H : Type) → List (DataW H) → Bool := fun _ ds => decide (uptoBulkAll ds ≤ 1048576)
def OpenSpec.upto (s : _root_.Go.ChangeSpec) : _root_.Go.OpenSpec := { _root_.Go.OpenSpec.ofChange s with cond := some uptoSmall }

/-- 'spillframelaw09.StackNew', WHERE WHAT IT READS IS OF BULK AT MOST 1048576: true; the input reads as it did. -/
def stackNewUptoRow : OpenClaim := { program := "ytafegghdhdgioaa", sum := "313ab8ff9b6ce22906e964214cfcd65066dbffa28e7e06cce39e231bbcb0fe4e", func := "spillframe/spillframelaw09.StackNew", spec := "stackNew", apart := false, narrowed := true }
def StackNewUptoSaid : Prop := stackNewUptoRow.holds Try.pinned (OpenSpec.upto stackNewSpec)

/-- 'spillframelaw09.StackOperations', WHERE WHAT IT READS IS OF BULK AT MOST 1048576: true; the input reads as it did. -/
def stackOperationsUptoRow : OpenClaim := { program := "ytafegghdhdgioaa", sum := "313ab8ff9b6ce22906e964214cfcd65066dbffa28e7e06cce39e231bbcb0fe4e", func := "spillframe/spillframelaw09.StackOperations", spec := "stackOperations", apart := false, narrowed := true }
def StackOperationsUptoSaid : Prop := stackOperationsUptoRow.holds Try.pinned (OpenSpec.upto stackOperationsSpec)

/-- 'spillframelaw09.StackLoadAfterStore', WHERE WHAT IT READS IS OF BULK AT MOST 1048576: true; the input reads as it did. -/
def stackLoadAfterStoreUptoRow : OpenClaim := { program := "ytafegghdhdgioaa", sum := "313ab8ff9b6ce22906e964214cfcd65066dbffa28e7e06cce39e231bbcb0fe4e", func := "spillframe/spillframelaw09.StackLoadAfterStore", spec := "stackLoadAfterStore", apart := false, narrowed := true }
def StackLoadAfterStoreUptoSaid : Prop := stackLoadAfterStoreUptoRow.holds Try.pinned (OpenSpec.upto stackLoadAfterStoreSpec)

/-- 'spillframelaw09.StackPopAfterPush', WHERE WHAT IT READS IS OF BULK AT MOST 1048576: true; the input reads as it did. -/
def stackPopAfterPushUptoRow : OpenClaim := { program := "ytafegghdhdgioaa", sum := "313ab8ff9b6ce22906e964214cfcd65066dbffa28e7e06cce39e231bbcb0fe4e", func := "spillframe/spillframelaw09.StackPopAfterPush", spec := "stackPopAfterPush", apart := false, narrowed := true }
def StackPopAfterPushUptoSaid : Prop := stackPopAfterPushUptoRow.holds Try.pinned (OpenSpec.upto stackPopAfterPushSpec)

/-- 'spillframelaw09.StackUndefByte', WHERE WHAT IT READS IS OF BULK AT MOST 1048576: true; the input reads as it did. -/
def stackUndefByteUptoRow : OpenClaim := { program := "ytafegghdhdgioaa", sum := "313ab8ff9b6ce22906e964214cfcd65066dbffa28e7e06cce39e231bbcb0fe4e", func := "spillframe/spillframelaw09.StackUndefByte", spec := "stackUndefByte", apart := false, narrowed := true }
def StackUndefByteUptoSaid : Prop := stackUndefByteUptoRow.holds Try.pinned (OpenSpec.upto stackUndefByteSpec)

end Rows
end Go.Proofs.Ytafegghdhdgioaa
