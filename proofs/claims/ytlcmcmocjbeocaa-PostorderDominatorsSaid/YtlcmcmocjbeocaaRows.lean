/-
  No cell of these rows narrows 'for every input' (looked for: loops, veiled, ifaces, maps, wideKeys, modest, calm, conditions, laid).
  DERIVED. THE GIVEN ROWS OF THIS SEAT. 5 by the template 'for every input the law returns true; each argument reads behind the call as it read before'; 0 by the template 'total and deterministic' (their statements: YtlcmcmocjbeocaaTotals.lean).
  GIVEN WITH THE SEED: the statements are not yours to turn. If you find one false, say at which input.
  Laid BY PROGRAM, IN A SANDBOX (cutbox-rows.mjs): the forced cells as the released guide's own fill.sh prints them over the translation 4452f65240cde80b… (all of the seat's roots in one cut). By AI agents, Wed Nov 11 2026. No macro, syntax, notation, axiom, sorry.
-/
import Derived.Test.YtlcmcmocjbeocaaChecked
import GoSem.Claim
import GoSem.ClaimJoined
import GoSem.ClaimMapViews
import Derived.JoinedTies
import Derived.KernelRfl
namespace Go.Proofs.Ytlcmcmocjbeocaa
/- THE CELL 'sum', in the pinned program and in every row, IS THE sha256 OF THE DUMP (.gsa) THAT YtlcmcmocjbeocaaProg.lean LOADS. Nothing in Lean hashes anything: it is a label: what it is worth is what the hold of that sum in a sandbox is worth. -/
noncomputable def Try.pinned : Pinned := { name := "ytlcmcmocjbeocaa", sum := "4452f65240cde80bf670a292e196f7344228ed84171df3fe4244fa5610ed718d", checked := Try.checked }
namespace Rows
def none {H : Type} : Left H := { results := [], args := [] }

/-- 'spillframelaw14.PostorderOrder': WHATEVER THE INPUT: true; the input reads as it did. -/
def postorderOrderSpec : ChangeSpec := { name := "postorderOrder", fn := fun _ => fun
  | [d] => { results := [.lit (.bool true)], args := [d] }
  | _ => none }
def postorderOrderRow : OpenClaim := { program := "ytlcmcmocjbeocaa", sum := "4452f65240cde80bf670a292e196f7344228ed84171df3fe4244fa5610ed718d", func := "spillframe/spillframelaw14.PostorderOrder", spec := "postorderOrder", unfollowed := true, recurses := true, apart := false }
def PostorderOrderSaid : Prop := postorderOrderRow.holds Try.pinned (OpenSpec.ofChange postorderOrderSpec)

/-- ITS FALSE NEIGHBOUR: 'it returns false'. Refute it at one input. -/
def postorderOrderWrong : ChangeSpec := { name := "postorderOrder", fn := fun _ => fun
  | [d] => { results := [.lit (.bool false)], args := [d] }
  | _ => none }
def PostorderOrderWrongFalsely : Prop := postorderOrderRow.holds Try.pinned (OpenSpec.ofChange postorderOrderWrong)

/-- 'spillframelaw14.PostorderBack': WHATEVER THE INPUT: true; the input reads as it did. -/
def postorderBackSpec : ChangeSpec := { name := "postorderBack", fn := fun _ => fun
  | [d] => { results := [.lit (.bool true)], args := [d] }
  | _ => none }
def postorderBackRow : OpenClaim := { program := "ytlcmcmocjbeocaa", sum := "4452f65240cde80bf670a292e196f7344228ed84171df3fe4244fa5610ed718d", func := "spillframe/spillframelaw14.PostorderBack", spec := "postorderBack", unfollowed := true, recurses := true, apart := false }
def PostorderBackSaid : Prop := postorderBackRow.holds Try.pinned (OpenSpec.ofChange postorderBackSpec)

/-- ITS FALSE NEIGHBOUR: 'it returns false'. Refute it at one input. -/
def postorderBackWrong : ChangeSpec := { name := "postorderBack", fn := fun _ => fun
  | [d] => { results := [.lit (.bool false)], args := [d] }
  | _ => none }
def PostorderBackWrongFalsely : Prop := postorderBackRow.holds Try.pinned (OpenSpec.ofChange postorderBackWrong)

/-- 'spillframelaw14.PostorderDominators': WHATEVER THE INPUT: true; the input reads as it did. -/
def postorderDominatorsSpec : ChangeSpec := { name := "postorderDominators", fn := fun _ => fun
  | [d] => { results := [.lit (.bool true)], args := [d] }
  | _ => none }
def postorderDominatorsRow : OpenClaim := { program := "ytlcmcmocjbeocaa", sum := "4452f65240cde80bf670a292e196f7344228ed84171df3fe4244fa5610ed718d", func := "spillframe/spillframelaw14.PostorderDominators", spec := "postorderDominators", unfollowed := true, recurses := true, apart := false }
def PostorderDominatorsSaid : Prop := postorderDominatorsRow.holds Try.pinned (OpenSpec.ofChange postorderDominatorsSpec)

/-- ITS FALSE NEIGHBOUR: 'it returns false'. Refute it at one input. -/
def postorderDominatorsWrong : ChangeSpec := { name := "postorderDominators", fn := fun _ => fun
  | [d] => { results := [.lit (.bool false)], args := [d] }
  | _ => none }
def PostorderDominatorsWrongFalsely : Prop := postorderDominatorsRow.holds Try.pinned (OpenSpec.ofChange postorderDominatorsWrong)

/-- 'spillframelaw14.PostorderCoversWhatIsReached': WHATEVER THE INPUT: true; the input reads as it did. -/
def postorderCoversWhatIsReachedSpec : ChangeSpec := { name := "postorderCoversWhatIsReached", fn := fun _ => fun
  | [d] => { results := [.lit (.bool true)], args := [d] }
  | _ => none }
def postorderCoversWhatIsReachedRow : OpenClaim := { program := "ytlcmcmocjbeocaa", sum := "4452f65240cde80bf670a292e196f7344228ed84171df3fe4244fa5610ed718d", func := "spillframe/spillframelaw14.PostorderCoversWhatIsReached", spec := "postorderCoversWhatIsReached", unfollowed := true, recurses := true, apart := false }
def PostorderCoversWhatIsReachedSaid : Prop := postorderCoversWhatIsReachedRow.holds Try.pinned (OpenSpec.ofChange postorderCoversWhatIsReachedSpec)

/-- ITS FALSE NEIGHBOUR: 'it returns false'. Refute it at one input. -/
def postorderCoversWhatIsReachedWrong : ChangeSpec := { name := "postorderCoversWhatIsReached", fn := fun _ => fun
  | [d] => { results := [.lit (.bool false)], args := [d] }
  | _ => none }
def PostorderCoversWhatIsReachedWrongFalsely : Prop := postorderCoversWhatIsReachedRow.holds Try.pinned (OpenSpec.ofChange postorderCoversWhatIsReachedWrong)

/-- 'spillframelaw14.PostorderDominatorsAreATree': WHATEVER THE INPUT: true; the input reads as it did. -/
def postorderDominatorsAreATreeSpec : ChangeSpec := { name := "postorderDominatorsAreATree", fn := fun _ => fun
  | [d] => { results := [.lit (.bool true)], args := [d] }
  | _ => none }
def postorderDominatorsAreATreeRow : OpenClaim := { program := "ytlcmcmocjbeocaa", sum := "4452f65240cde80bf670a292e196f7344228ed84171df3fe4244fa5610ed718d", func := "spillframe/spillframelaw14.PostorderDominatorsAreATree", spec := "postorderDominatorsAreATree", unfollowed := true, recurses := true, apart := false }
def PostorderDominatorsAreATreeSaid : Prop := postorderDominatorsAreATreeRow.holds Try.pinned (OpenSpec.ofChange postorderDominatorsAreATreeSpec)

/-- ITS FALSE NEIGHBOUR: 'it returns false'. Refute it at one input. -/
def postorderDominatorsAreATreeWrong : ChangeSpec := { name := "postorderDominatorsAreATree", fn := fun _ => fun
  | [d] => { results := [.lit (.bool false)], args := [d] }
  | _ => none }
def PostorderDominatorsAreATreeWrongFalsely : Prop := postorderDominatorsAreATreeRow.holds Try.pinned (OpenSpec.ofChange postorderDominatorsAreATreeWrong)

/- THE SECOND FORM. 'bulk': how many values and letters a reading holds, each counted each time it is reached (what is shared counts as often as it is met; a slice's spare places count too). A statement '..UptoSaid' is the law's where the arguments, and the package variables that the reading takes, are together of bulk at most 1048576: NARROWER than '..Said'. Prove '..Said' where nothing that the law and all that it calls make is longer than what came in: it says more and counts as full. Else prove '..UptoSaid'. A law counts once. -/
mutual
def uptoBulk {H : Type} : DataW H → Nat
  | .lit (.string bytes) => bytes.length + 1
  | .lit _ => 1
  | .nil => 1
  | .ptr d => uptoBulk d + 1
  | .slice elems spare => uptoBulkAll elems + uptoBulkAll spare + 1
  | .agg parts => uptoBulkAll parts + 1
  | .iface _ d => uptoBulk d + 1
  | .map entries => uptoBulkEntries entries + 1
  | .held _ => 1
def uptoBulkAll {H : Type} : List (DataW H) → Nat
  | [] => 0
  | d :: r => uptoBulk d + uptoBulkAll r
def uptoBulkEntries {H : Type} : List (Lit × DataW H) → Nat
  | [] => 0
  | x :: r => uptoBulkEntry x + uptoBulkEntries r
def uptoBulkEntry {H : Type} : Lit × DataW H → Nat
  | (.string bytes, d) => bytes.length + uptoBulk d + 1
  | (_, d) => uptoBulk d + 1
 end
def uptoSmall : (H : Type) → List (DataW H) → Bool := fun _ ds => decide (uptoBulkAll ds ≤ 1048576)
def OpenSpec.upto (s : _root_.Go.ChangeSpec) : _root_.Go.OpenSpec := { _root_.Go.OpenSpec.ofChange s with cond := some uptoSmall }

/-- 'spillframelaw14.PostorderOrder', WHERE WHAT IT READS IS OF BULK AT MOST 1048576: true; the input reads as it did. -/
def postorderOrderUptoRow : OpenClaim := { program := "ytlcmcmocjbeocaa", sum := "4452f65240cde80bf670a292e196f7344228ed84171df3fe4244fa5610ed718d", func := "spillframe/spillframelaw14.PostorderOrder", spec := "postorderOrder", unfollowed := true, recurses := true, apart := false, narrowed := true }
def PostorderOrderUptoSaid : Prop := postorderOrderUptoRow.holds Try.pinned (OpenSpec.upto postorderOrderSpec)

/-- 'spillframelaw14.PostorderBack', WHERE WHAT IT READS IS OF BULK AT MOST 1048576: true; the input reads as it did. -/
def postorderBackUptoRow : OpenClaim := { program := "ytlcmcmocjbeocaa", sum := "4452f65240cde80bf670a292e196f7344228ed84171df3fe4244fa5610ed718d", func := "spillframe/spillframelaw14.PostorderBack", spec := "postorderBack", unfollowed := true, recurses := true, apart := false, narrowed := true }
def PostorderBackUptoSaid : Prop := postorderBackUptoRow.holds Try.pinned (OpenSpec.upto postorderBackSpec)

/-- 'spillframelaw14.PostorderDominators', WHERE WHAT IT READS IS OF BULK AT MOST 1048576: true; the input reads as it did. -/
def postorderDominatorsUptoRow : OpenClaim := { program := "ytlcmcmocjbeocaa", sum := "4452f65240cde80bf670a292e196f7344228ed84171df3fe4244fa5610ed718d", func := "spillframe/spillframelaw14.PostorderDominators", spec := "postorderDominators", unfollowed := true, recurses := true, apart := false, narrowed := true }
def PostorderDominatorsUptoSaid : Prop := postorderDominatorsUptoRow.holds Try.pinned (OpenSpec.upto postorderDominatorsSpec)

/-- 'spillframelaw14.PostorderCoversWhatIsReached', WHERE WHAT IT READS IS OF BULK AT MOST 1048576: true; the input reads as it did. -/
def postorderCoversWhatIsReachedUptoRow : OpenClaim := { program := "ytlcmcmocjbeocaa", sum := "4452f65240cde80bf670a292e196f7344228ed84171df3fe4244fa5610ed718d", func := "spillframe/spillframelaw14.PostorderCoversWhatIsReached", spec := "postorderCoversWhatIsReached", unfollowed := true, recurses := true, apart := false, narrowed := true }
def PostorderCoversWhatIsReachedUptoSaid : Prop := postorderCoversWhatIsReachedUptoRow.holds Try.pinned (OpenSpec.upto postorderCoversWhatIsReachedSpec)

/-- 'spillframelaw14.PostorderDominatorsAreATree', WHERE WHAT IT READS IS OF BULK AT MOST 1048576: true; the input reads as it did. -/
def postorderDominatorsAreATreeUptoRow : OpenClaim := { program := "ytlcmcmocjbeocaa", sum := "4452f65240cde80bf670a292e196f7344228ed84171df3fe4244fa5610ed718d", func := "spillframe/spillframelaw14.PostorderDominatorsAreATree", spec := "postorderDominatorsAreATree", unfollowed := true, recurses := true, apart := false, narrowed := true }
def PostorderDominatorsAreATreeUptoSaid : Prop := postorderDominatorsAreATreeUptoRow.holds Try.pinned (OpenSpec.upto postorderDominatorsAreATreeSpec)

end Rows
end Go.Proofs.Ytlcmcmocjbeocaa
