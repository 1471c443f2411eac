/-
  No cell of these rows narrows 'for every input' (looked for: loops, veiled, ifaces, maps, wideKeys, modest, calm, conditions, laid).
  DERIVED. THE GIVEN ROWS OF THIS SEAT. 3 by the template 'for every input the law returns true; each argument reads behind the call as it read before'; 0 by the template 'total and deterministic' (their statements: YtafegghdhdgioabGreatTotals.lean).
  GIVEN WITH THE SEED: the statements are not yours to turn. If you find one false, say at which input.
  Laid BY PROGRAM, IN A SANDBOX (cutbox-rows.mjs): the forced cells as the released guide's own fill.sh prints them over the translation 7679f995341dbaac… (all of the seat's roots in one cut). By AI agents, Wed Nov 11 2026. No macro, syntax, notation, axiom, sorry.
-/
import Derived.Test.YtafegghdhdgioabGreatChecked
import GoSem.Claim
import GoSem.ClaimJoined
import GoSem.ClaimMapViews
import Derived.JoinedTies
import Derived.KernelRfl
namespace Go.Proofs.YtafegghdhdgioabGreat
/- THE CELL 'sum', in the pinned program and in every row, IS THE sha256 OF THE DUMP (.gsa) THAT YtafegghdhdgioabGreatProg.lean LOADS. Nothing in Lean hashes anything: it is a label: what it is worth is what the hold of that sum in a sandbox is worth. -/
noncomputable def Tryz.pinned : Pinned := { name := "ytafegghdhdgioabgreat", sum := "7679f995341dbaac986620eb0ad714476b620559c2081ada136917f73ca1bcaa", checked := Tryz.checked }
namespace Rows
def none {H : Type} : Left H := { results := [], args := [] }

/-- 'spillframelaw12.MachrunRun': WHATEVER THE INPUT: true; the input reads as it did. -/
def machrunRunSpec : ChangeSpec := { name := "machrunRun", fn := fun _ => fun
  | [d1, d2, d3] => { results := [.lit (.bool true)], args := [d1, d2, d3] }
  | _ => none }
def machrunRunRow : OpenClaim := { program := "ytafegghdhdgioabgreat", sum := "7679f995341dbaac986620eb0ad714476b620559c2081ada136917f73ca1bcaa", func := "spillframe/spillframelaw12.MachrunRun", spec := "machrunRun", inPlace := ["math/bits.Add64", "math/bits.Sub64"], apart := false }
def MachrunRunSaid : Prop := machrunRunRow.holds Tryz.pinned (OpenSpec.ofChange machrunRunSpec)

/-- ITS FALSE NEIGHBOUR: 'it returns false'. Refute it at one input. -/
def machrunRunWrong : ChangeSpec := { name := "machrunRun", fn := fun _ => fun
  | [d1, d2, d3] => { results := [.lit (.bool false)], args := [d1, d2, d3] }
  | _ => none }
def MachrunRunWrongFalsely : Prop := machrunRunRow.holds Tryz.pinned (OpenSpec.ofChange machrunRunWrong)

/-- 'spillframelaw12.MachrunMoreRoom': WHATEVER THE INPUT: true; the input reads as it did. -/
def machrunMoreRoomSpec : ChangeSpec := { name := "machrunMoreRoom", fn := fun _ => fun
  | [d1, d2] => { results := [.lit (.bool true)], args := [d1, d2] }
  | _ => none }
def machrunMoreRoomRow : OpenClaim := { program := "ytafegghdhdgioabgreat", sum := "7679f995341dbaac986620eb0ad714476b620559c2081ada136917f73ca1bcaa", func := "spillframe/spillframelaw12.MachrunMoreRoom", spec := "machrunMoreRoom", inPlace := ["math/bits.Add64", "math/bits.Sub64"], apart := false }
def MachrunMoreRoomSaid : Prop := machrunMoreRoomRow.holds Tryz.pinned (OpenSpec.ofChange machrunMoreRoomSpec)

/-- ITS FALSE NEIGHBOUR: 'it returns false'. Refute it at one input. -/
def machrunMoreRoomWrong : ChangeSpec := { name := "machrunMoreRoom", fn := fun _ => fun
  | [d1, d2] => { results := [.lit (.bool false)], args := [d1, d2] }
  | _ => none }
def MachrunMoreRoomWrongFalsely : Prop := machrunMoreRoomRow.holds Tryz.pinned (OpenSpec.ofChange machrunMoreRoomWrong)

/-- 'spillframelaw12.MachrunFuelIsMonotone': WHATEVER THE INPUT: true; the input reads as it did. -/
def machrunFuelIsMonotoneSpec : ChangeSpec := { name := "machrunFuelIsMonotone", fn := fun _ => fun
  | [d1, d2] => { results := [.lit (.bool true)], args := [d1, d2] }
  | _ => none }
def machrunFuelIsMonotoneRow : OpenClaim := { program := "ytafegghdhdgioabgreat", sum := "7679f995341dbaac986620eb0ad714476b620559c2081ada136917f73ca1bcaa", func := "spillframe/spillframelaw12.MachrunFuelIsMonotone", spec := "machrunFuelIsMonotone", inPlace := ["math/bits.Add64", "math/bits.Sub64"], apart := false }
def MachrunFuelIsMonotoneSaid : Prop := machrunFuelIsMonotoneRow.holds Tryz.pinned (OpenSpec.ofChange machrunFuelIsMonotoneSpec)

/-- ITS FALSE NEIGHBOUR: 'it returns false'. Refute it at one input. -/
def machrunFuelIsMonotoneWrong : ChangeSpec := { name := "machrunFuelIsMonotone", fn := fun _ => fun
  | [d1, d2] => { results := [.lit (.bool false)], args := [d1, d2] }
  | _ => none }
def MachrunFuelIsMonotoneWrongFalsely : Prop := machrunFuelIsMonotoneRow.holds Tryz.pinned (OpenSpec.ofChange machrunFuelIsMonotoneWrong)

/- THE SECOND FORM. 'bulk': how many values and letters a reading holds, each counted each time it is reached (what is shared counts as often as it is met; a slice's spare places count too). A statement '..UptoSaid' is the law's where the arguments, and the package variables that the reading takes, are together of bulk at most 1048576: NARROWER than '..Said'. Prove '..Said' where nothing that the law and all that it calls make is longer than what came in: it says more and counts as full. Else prove '..UptoSaid'. A law counts once. -/
mutual
def uptoBulk {H : Type} : DataW H → Nat
  | .lit (.string bytes) => bytes.length + 1
  | .lit _ => 1
  | .nil => 1
  | .ptr d => uptoBulk d + 1
  | .slice elems spare => uptoBulkAll elems + uptoBulkAll spare + 1
  | .agg parts => uptoBulkAll parts + 1
  | .iface _ d => uptoBulk d + 1
  | .map entries => uptoBulkEntries entries + 1
  | .held _ => 1
def uptoBulkAll {H : Type} : List (DataW H) → Nat
  | [] => 0
  | d :: r => uptoBulk d + uptoBulkAll r
def uptoBulkEntries {H : Type} : List (Lit × DataW H) → Nat
  | [] => 0
  | x :: r => uptoBulkEntry x + uptoBulkEntries r
def uptoBulkEntry {H : Type} : Lit × DataW H → Nat
  | (.string bytes, d) => bytes.length + uptoBulk d + 1
  | (_, d) => uptoBulk d + 1
 end
def uptoSmall : (H : Type) → List (DataW H) → Bool := fun _ ds => decide (uptoBulkAll ds ≤ 1048576)
def OpenSpec.upto (s : _root_.Go.ChangeSpec) : _root_.Go.OpenSpec := { _root_.Go.OpenSpec.ofChange s with cond := some uptoSmall }

/-- 'spillframelaw12.MachrunRun', WHERE WHAT IT READS IS OF BULK AT MOST 1048576: true; the input reads as it did. -/
def machrunRunUptoRow : OpenClaim := { program := "ytafegghdhdgioabgreat", sum := "7679f995341dbaac986620eb0ad714476b620559c2081ada136917f73ca1bcaa", func := "spillframe/spillframelaw12.MachrunRun", spec := "machrunRun", inPlace := ["math/bits.Add64", "math/bits.Sub64"], apart := false, narrowed := true }
def MachrunRunUptoSaid : Prop := machrunRunUptoRow.holds Tryz.pinned (OpenSpec.upto machrunRunSpec)

/-- 'spillframelaw12.MachrunMoreRoom', WHERE WHAT IT READS IS OF BULK AT MOST 1048576: true; the input reads as it did. -/
def machrunMoreRoomUptoRow : OpenClaim := { program := "ytafegghdhdgioabgreat", sum := "7679f995341dbaac986620eb0ad714476b620559c2081ada136917f73ca1bcaa", func := "spillframe/spillframelaw12.MachrunMoreRoom", spec := "machrunMoreRoom", inPlace := ["math/bits.Add64", "math/bits.Sub64"], apart := false, narrowed := true }
def MachrunMoreRoomUptoSaid : Prop := machrunMoreRoomUptoRow.holds Tryz.pinned (OpenSpec.upto machrunMoreRoomSpec)

/-- 'spillframelaw12.MachrunFuelIsMonotone', WHERE WHAT IT READS IS OF BULK AT MOST 1048576: true; the input reads as it did. -/
def machrunFuelIsMonotoneUptoRow : OpenClaim := { program := "ytafegghdhdgioabgreat", sum := "7679f995341dbaac986620eb0ad714476b620559c2081ada136917f73ca1bcaa", func := "spillframe/spillframelaw12.MachrunFuelIsMonotone", spec := "machrunFuelIsMonotone", inPlace := ["math/bits.Add64", "math/bits.Sub64"], apart := false, narrowed := true }
def MachrunFuelIsMonotoneUptoSaid : Prop := machrunFuelIsMonotoneUptoRow.holds Tryz.pinned (OpenSpec.upto machrunFuelIsMonotoneSpec)

end Rows
end Go.Proofs.YtafegghdhdgioabGreat
