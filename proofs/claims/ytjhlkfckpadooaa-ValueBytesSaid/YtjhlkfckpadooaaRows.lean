/-
  No cell of these rows narrows 'for every input' (looked for: loops, veiled, ifaces, maps, wideKeys, modest, calm, conditions, laid).
  DERIVED. THE GIVEN ROWS OF THIS SEAT. 5 by the template 'for every input the law returns true; each argument reads behind the call as it read before'; 0 by the template 'total and deterministic' (their statements: YtjhlkfckpadooaaTotals.lean).
  GIVEN WITH THE SEED: the statements are not yours to turn. If you find one false, say at which input.
  Laid BY PROGRAM, IN A SANDBOX (cutbox-rows.mjs): the forced cells as the released guide's own fill.sh prints them over the translation 95fc63ce928251fd… (all of the seat's roots in one cut). By AI agents, Wed Nov 11 2026. No macro, syntax, notation, axiom, sorry.
-/
import Derived.Test.YtjhlkfckpadooaaChecked
import GoSem.Claim
import GoSem.ClaimJoined
import GoSem.ClaimMapViews
import Derived.JoinedTies
import Derived.KernelRfl
namespace Go.Proofs.Ytjhlkfckpadooaa
/- THE CELL 'sum', in the pinned program and in every row, IS THE sha256 OF THE DUMP (.gsa) THAT YtjhlkfckpadooaaProg.lean LOADS. Nothing in Lean hashes anything: it is a label: what it is worth is what the hold of that sum in a sandbox is worth. -/
noncomputable def Try.pinned : Pinned := { name := "ytjhlkfckpadooaa", sum := "95fc63ce928251fd5e23d81022c0e8863a290148c57ed503297e41b1b44105c7", checked := Try.checked }
namespace Rows
def none {H : Type} : Left H := { results := [], args := [] }

/-- 'spillframelaw02.ValueApply': WHATEVER THE INPUT: true; the input reads as it did. -/
def valueApplySpec : ChangeSpec := { name := "valueApply", fn := fun _ => fun
  | [d1, d2, d3] => { results := [.lit (.bool true)], args := [d1, d2, d3] }
  | _ => none }
def valueApplyRow : OpenClaim := { program := "ytjhlkfckpadooaa", sum := "95fc63ce928251fd5e23d81022c0e8863a290148c57ed503297e41b1b44105c7", func := "spillframe/spillframelaw02.ValueApply", spec := "valueApply", inPlace := ["math/bits.Add64", "math/bits.Sub64"], apart := false }
def ValueApplySaid : Prop := valueApplyRow.holds Try.pinned (OpenSpec.ofChange valueApplySpec)

/-- ITS FALSE NEIGHBOUR: 'it returns false'. Refute it at one input. -/
def valueApplyWrong : ChangeSpec := { name := "valueApply", fn := fun _ => fun
  | [d1, d2, d3] => { results := [.lit (.bool false)], args := [d1, d2, d3] }
  | _ => none }
def ValueApplyWrongFalsely : Prop := valueApplyRow.holds Try.pinned (OpenSpec.ofChange valueApplyWrong)

/-- 'spillframelaw02.ValueDividesWithRest': WHATEVER THE INPUT: true; the input reads as it did. -/
def valueDividesWithRestSpec : ChangeSpec := { name := "valueDividesWithRest", fn := fun _ => fun
  | [d1, d2] => { results := [.lit (.bool true)], args := [d1, d2] }
  | _ => none }
def valueDividesWithRestRow : OpenClaim := { program := "ytjhlkfckpadooaa", sum := "95fc63ce928251fd5e23d81022c0e8863a290148c57ed503297e41b1b44105c7", func := "spillframe/spillframelaw02.ValueDividesWithRest", spec := "valueDividesWithRest", inPlace := ["math/bits.Add64", "math/bits.Sub64"], apart := false }
def ValueDividesWithRestSaid : Prop := valueDividesWithRestRow.holds Try.pinned (OpenSpec.ofChange valueDividesWithRestSpec)

/-- ITS FALSE NEIGHBOUR: 'it returns false'. Refute it at one input. -/
def valueDividesWithRestWrong : ChangeSpec := { name := "valueDividesWithRest", fn := fun _ => fun
  | [d1, d2] => { results := [.lit (.bool false)], args := [d1, d2] }
  | _ => none }
def ValueDividesWithRestWrongFalsely : Prop := valueDividesWithRestRow.holds Try.pinned (OpenSpec.ofChange valueDividesWithRestWrong)

/-- 'spillframelaw02.ValueRing': WHATEVER THE INPUT: true; the input reads as it did. -/
def valueRingSpec : ChangeSpec := { name := "valueRing", fn := fun _ => fun
  | [d1, d2, d3] => { results := [.lit (.bool true)], args := [d1, d2, d3] }
  | _ => none }
def valueRingRow : OpenClaim := { program := "ytjhlkfckpadooaa", sum := "95fc63ce928251fd5e23d81022c0e8863a290148c57ed503297e41b1b44105c7", func := "spillframe/spillframelaw02.ValueRing", spec := "valueRing", inPlace := ["math/bits.Add64", "math/bits.Sub64"], apart := false }
def ValueRingSaid : Prop := valueRingRow.holds Try.pinned (OpenSpec.ofChange valueRingSpec)

/-- ITS FALSE NEIGHBOUR: 'it returns false'. Refute it at one input. -/
def valueRingWrong : ChangeSpec := { name := "valueRing", fn := fun _ => fun
  | [d1, d2, d3] => { results := [.lit (.bool false)], args := [d1, d2, d3] }
  | _ => none }
def ValueRingWrongFalsely : Prop := valueRingRow.holds Try.pinned (OpenSpec.ofChange valueRingWrong)

/-- 'spillframelaw02.ValueBytes': WHATEVER THE INPUT: true; the input reads as it did. -/
def valueBytesSpec : ChangeSpec := { name := "valueBytes", fn := fun _ => fun
  | [d1, d2, d3, d4] => { results := [.lit (.bool true)], args := [d1, d2, d3, d4] }
  | _ => none }
def valueBytesRow : OpenClaim := { program := "ytjhlkfckpadooaa", sum := "95fc63ce928251fd5e23d81022c0e8863a290148c57ed503297e41b1b44105c7", func := "spillframe/spillframelaw02.ValueBytes", spec := "valueBytes", apart := false }
def ValueBytesSaid : Prop := valueBytesRow.holds Try.pinned (OpenSpec.ofChange valueBytesSpec)

/-- ITS FALSE NEIGHBOUR: 'it returns false'. Refute it at one input. -/
def valueBytesWrong : ChangeSpec := { name := "valueBytes", fn := fun _ => fun
  | [d1, d2, d3, d4] => { results := [.lit (.bool false)], args := [d1, d2, d3, d4] }
  | _ => none }
def ValueBytesWrongFalsely : Prop := valueBytesRow.holds Try.pinned (OpenSpec.ofChange valueBytesWrong)

/-- 'spillframelaw02.ValueBytesReturn': WHATEVER THE INPUT: true; the input reads as it did. -/
def valueBytesReturnSpec : ChangeSpec := { name := "valueBytesReturn", fn := fun _ => fun
  | [d] => { results := [.lit (.bool true)], args := [d] }
  | _ => none }
def valueBytesReturnRow : OpenClaim := { program := "ytjhlkfckpadooaa", sum := "95fc63ce928251fd5e23d81022c0e8863a290148c57ed503297e41b1b44105c7", func := "spillframe/spillframelaw02.ValueBytesReturn", spec := "valueBytesReturn", apart := false }
def ValueBytesReturnSaid : Prop := valueBytesReturnRow.holds Try.pinned (OpenSpec.ofChange valueBytesReturnSpec)

/-- ITS FALSE NEIGHBOUR: 'it returns false'. Refute it at one input. -/
def valueBytesReturnWrong : ChangeSpec := { name := "valueBytesReturn", fn := fun _ => fun
  | [d] => { results := [.lit (.bool false)], args := [d] }
  | _ => none }
def ValueBytesReturnWrongFalsely : Prop := valueBytesReturnRow.holds Try.pinned (OpenSpec.ofChange valueBytesReturnWrong)

/- THE SECOND FORM. 'bulk': how many values and letters a reading holds, each counted each time it is reached (what is shared counts as often as it is met; a slice's spare places count too). A statement '..UptoSaid' is the law's where the arguments, and the package variables that the reading takes, are together of bulk at most 1048576: NARROWER than '..Said'. Prove '..Said' where nothing that the law and all that it calls make is longer than what came in: it says more and counts as full. Else prove '..UptoSaid'. A law counts once. -/
mutual
def uptoBulk {H : Type} : DataW H → Nat
  | .lit (.string bytes) => bytes.length + 1
  | .lit _ => 1
  | .nil => 1
  | .ptr d => uptoBulk d + 1
  | .slice elems spare => uptoBulkAll elems + uptoBulkAll spare + 1
  | .agg parts => uptoBulkAll parts + 1
  | .iface _ d => uptoBulk d + 1
  | .map entries => uptoBulkEntries entries + 1
  | .held _ => 1
def uptoBulkAll {H : Type} : List (DataW H) → Nat
  | [] => 0
  | d :: r => uptoBulk d + uptoBulkAll r
def uptoBulkEntries {H : Type} : List (Lit × DataW H) → Nat
  | [] => 0
  | x :: r => uptoBulkEntry x + uptoBulkEntries r
def uptoBulkEntry {H : Type} : Lit × DataW H → Nat
  | (.string bytes, d) => bytes.length + uptoBulk d + 1
  | (_, d) => uptoBulk d + 1
 end
def uptoSmall : (H : Type) → List (DataW H) → Bool := fun _ ds => decide (uptoBulkAll ds ≤ 1048576)
def OpenSpec.upto (s : _root_.Go.ChangeSpec) : _root_.Go.OpenSpec := { _root_.Go.OpenSpec.ofChange s with cond := some uptoSmall }

/-- 'spillframelaw02.ValueApply', WHERE WHAT IT READS IS OF BULK AT MOST 1048576: true; the input reads as it did. -/
def valueApplyUptoRow : OpenClaim := { program := "ytjhlkfckpadooaa", sum := "95fc63ce928251fd5e23d81022c0e8863a290148c57ed503297e41b1b44105c7", func := "spillframe/spillframelaw02.ValueApply", spec := "valueApply", inPlace := ["math/bits.Add64", "math/bits.Sub64"], apart := false, narrowed := true }
def ValueApplyUptoSaid : Prop := valueApplyUptoRow.holds Try.pinned (OpenSpec.upto valueApplySpec)

/-- 'spillframelaw02.ValueDividesWithRest', WHERE WHAT IT READS IS OF BULK AT MOST 1048576: true; the input reads as it did. -/
def valueDividesWithRestUptoRow : OpenClaim := { program := "ytjhlkfckpadooaa", sum := "95fc63ce928251fd5e23d81022c0e8863a290148c57ed503297e41b1b44105c7", func := "spillframe/spillframelaw02.ValueDividesWithRest", spec := "valueDividesWithRest", inPlace := ["math/bits.Add64", "math/bits.Sub64"], apart := false, narrowed := true }
def ValueDividesWithRestUptoSaid : Prop := valueDividesWithRestUptoRow.holds Try.pinned (OpenSpec.upto valueDividesWithRestSpec)

/-- 'spillframelaw02.ValueRing', WHERE WHAT IT READS IS OF BULK AT MOST 1048576: true; the input reads as it did. -/
def valueRingUptoRow : OpenClaim := { program := "ytjhlkfckpadooaa", sum := "95fc63ce928251fd5e23d81022c0e8863a290148c57ed503297e41b1b44105c7", func := "spillframe/spillframelaw02.ValueRing", spec := "valueRing", inPlace := ["math/bits.Add64", "math/bits.Sub64"], apart := false, narrowed := true }
def ValueRingUptoSaid : Prop := valueRingUptoRow.holds Try.pinned (OpenSpec.upto valueRingSpec)

/-- 'spillframelaw02.ValueBytes', WHERE WHAT IT READS IS OF BULK AT MOST 1048576: true; the input reads as it did. -/
def valueBytesUptoRow : OpenClaim := { program := "ytjhlkfckpadooaa", sum := "95fc63ce928251fd5e23d81022c0e8863a290148c57ed503297e41b1b44105c7", func := "spillframe/spillframelaw02.ValueBytes", spec := "valueBytes", apart := false, narrowed := true }
def ValueBytesUptoSaid : Prop := valueBytesUptoRow.holds Try.pinned (OpenSpec.upto valueBytesSpec)

/-- 'spillframelaw02.ValueBytesReturn', WHERE WHAT IT READS IS OF BULK AT MOST 1048576: true; the input reads as it did. -/
def valueBytesReturnUptoRow : OpenClaim := { program := "ytjhlkfckpadooaa", sum := "95fc63ce928251fd5e23d81022c0e8863a290148c57ed503297e41b1b44105c7", func := "spillframe/spillframelaw02.ValueBytesReturn", spec := "valueBytesReturn", apart := false, narrowed := true }
def ValueBytesReturnUptoSaid : Prop := valueBytesReturnUptoRow.holds Try.pinned (OpenSpec.upto valueBytesReturnSpec)

end Rows
end Go.Proofs.Ytjhlkfckpadooaa
