/-
  NARROWER THAN 'FOR EVERY INPUT', by the rows' own cells (each row's printed sentence says how): SirrunFuelIsMonotone: laid · SirrunEqualsStepByStep: laid · SirrunSame: laid · SirrunRecursionIsDeep: laid · SirrunUndef: laid.
  DERIVED. THE GIVEN ROWS OF THIS SEAT. 5 by the template 'for every input the law returns true; each argument reads behind the call as it read before'; 0 by the template 'total and deterministic' (their statements: YtipjeihfhnilcaaDoorTotals.lean).
  GIVEN WITH THE SEED: the statements are not yours to turn. If you find one false, say at which input.
  Laid BY PROGRAM, IN A SANDBOX (cutbox-rows.mjs): the forced cells as the released guide's own fill.sh prints them over the translation 94ffd9786fa0f1dc… (all of the seat's roots in one cut). By AI agents, Wed Nov 11 2026. No macro, syntax, notation, axiom, sorry.
-/
import Derived.Test.YtipjeihfhnilcaaDoorChecked
import GoSem.Claim
import GoSem.ClaimJoined
import GoSem.ClaimMapViews
import Derived.JoinedTies
import Derived.KernelRfl
namespace Go.Proofs.YtipjeihfhnilcaaDoor
/- THE CELL 'sum', in the pinned program and in every row, IS THE sha256 OF THE DUMP (.gsa) THAT YtipjeihfhnilcaaDoorProg.lean LOADS. Nothing in Lean hashes anything: it is a label: what it is worth is what the hold of that sum in a sandbox is worth. -/
noncomputable def Tryd.pinned : Pinned := { name := "ytipjeihfhnilcaadoor", sum := "94ffd9786fa0f1dc7eb3dded7d4c4dd3eb0d34fd352e6deb91c6a81f1436f8aa", checked := Tryd.checked }
namespace Rows
def none {H : Type} : Left H := { results := [], args := [] }

/- WHAT THE LISTED PACKAGE-LEVEL VARIABLES READ AS WHEN THE CALL BEGINS. Each datum BY PROGRAM (the guide's laid-datum.mjs) off the statement by which the dump's own 'gosem.cut.vars' lays the variable. In a bare row this is a premise. The card (YtipjeihfhnilcaaDoorCards.lean) ties it to the program's text. -/
def laid_spillframe_sir_shapes {H : Type} : DataW H := .agg [.agg [.lit (.int .i64 1), .lit (.int .i64 0), .lit (.int .i64 0), .lit (.bool true)], .agg [.lit (.int .i64 1), .lit (.int .i64 1), .lit (.int .i64 0), .lit (.bool false)], .agg [.lit (.int .i64 1), .lit (.int .i64 1), .lit (.int .i64 1), .lit (.bool false)], .agg [.lit (.int .i64 1), .lit (.int .i64 1), .lit (.int .i64 1), .lit (.bool false)], .agg [.lit (.int .i64 1), .lit (.int .i64 1), .lit (.int .i64 1), .lit (.bool false)], .agg [.lit (.int .i64 1), .lit (.int .i64 1), .lit (.int .i64 1), .lit (.bool false)], .agg [.lit (.int .i64 1), .lit (.int .i64 1), .lit (.int .i64 1), .lit (.bool false)], .agg [.lit (.int .i64 1), .lit (.int .i64 1), .lit (.int .i64 1), .lit (.bool false)], .agg [.lit (.int .i64 1), .lit (.int .i64 1), .lit (.int .i64 1), .lit (.bool false)], .agg [.lit (.int .i64 1), .lit (.int .i64 1), .lit (.int .i64 1), .lit (.bool false)], .agg [.lit (.int .i64 1), .lit (.int .i64 1), .lit (.int .i64 1), .lit (.bool false)], .agg [.lit (.int .i64 1), .lit (.int .i64 1), .lit (.int .i64 1), .lit (.bool false)], .agg [.lit (.int .i64 1), .lit (.int .i64 1), .lit (.int .i64 0), .lit (.bool false)], .agg [.lit (.int .i64 1), .lit (.int .i64 0), .lit (.int .i64 0), .lit (.bool false)], .agg [.lit (.int .i64 1), .lit (.int .i64 0), .lit (.int .i64 0), .lit (.bool false)], .agg [.lit (.int .i64 1), .lit (.int .i64 2), .lit (.int .i64 0), .lit (.bool false)], .agg [.lit (.int .i64 2), .lit (.int .i64 1), .lit (.int .i64 0), .lit (.bool false)], .agg [.lit (.int .i64 2), .lit (.int .i64 2), .lit (.int .i64 0), .lit (.bool false)], .agg [.lit (.int .i64 4), .lit (.int .i64 1), .lit (.int .i64 0), .lit (.bool false)], .agg [.lit (.int .i64 1), .lit (.int .i64 5), .lit (.int .i64 0), .lit (.bool false)], .agg [.lit (.int .i64 6), .lit (.int .i64 0), .lit (.int .i64 0), .lit (.bool false)], .agg [.lit (.int .i64 1), .lit (.int .i64 6), .lit (.int .i64 0), .lit (.bool false)], .agg [.lit (.int .i64 3), .lit (.int .i64 0), .lit (.int .i64 0), .lit (.bool false)], .agg [.lit (.int .i64 0), .lit (.int .i64 0), .lit (.int .i64 0), .lit (.bool false)], .agg [.lit (.int .i64 0), .lit (.int .i64 0), .lit (.int .i64 0), .lit (.bool true)]]

/-- 'spillframelaw08.SirrunFuelIsMonotone': WHATEVER THE INPUT: true; the input reads as it did. -/
def sirrunFuelIsMonotoneSpec : ChangeSpec := { name := "sirrunFuelIsMonotone", fn := fun _ => fun
  | [d1, d2] => { results := [.lit (.bool true)], args := [d1, d2] }
  | _ => none }
def sirrunFuelIsMonotoneRow : OpenClaim := { program := "ytipjeihfhnilcaadoor", sum := "94ffd9786fa0f1dc7eb3dded7d4c4dd3eb0d34fd352e6deb91c6a81f1436f8aa", func := "spillframe/spillframelaw08.SirrunFuelIsMonotone", spec := "sirrunFuelIsMonotone", inPlace := ["math/bits.Add64", "math/bits.Sub64"], unfollowed := true, recurses := true, named := ["spillframe/sir.shapes"], apart := false, laid := [("spillframe/sir.shapes", laid_spillframe_sir_shapes)] }
def SirrunFuelIsMonotoneSaid : Prop := sirrunFuelIsMonotoneRow.holds Tryd.pinned (OpenSpec.ofChange sirrunFuelIsMonotoneSpec)

/-- ITS FALSE NEIGHBOUR: 'it returns false'. Refute it at one input. -/
def sirrunFuelIsMonotoneWrong : ChangeSpec := { name := "sirrunFuelIsMonotone", fn := fun _ => fun
  | [d1, d2] => { results := [.lit (.bool false)], args := [d1, d2] }
  | _ => none }
def SirrunFuelIsMonotoneWrongFalsely : Prop := sirrunFuelIsMonotoneRow.holds Tryd.pinned (OpenSpec.ofChange sirrunFuelIsMonotoneWrong)

/-- 'spillframelaw08.SirrunEqualsStepByStep': WHATEVER THE INPUT: true; the input reads as it did. -/
def sirrunEqualsStepByStepSpec : ChangeSpec := { name := "sirrunEqualsStepByStep", fn := fun _ => fun
  | [d] => { results := [.lit (.bool true)], args := [d] }
  | _ => none }
def sirrunEqualsStepByStepRow : OpenClaim := { program := "ytipjeihfhnilcaadoor", sum := "94ffd9786fa0f1dc7eb3dded7d4c4dd3eb0d34fd352e6deb91c6a81f1436f8aa", func := "spillframe/spillframelaw08.SirrunEqualsStepByStep", spec := "sirrunEqualsStepByStep", inPlace := ["math/bits.Add64", "math/bits.Sub64"], unfollowed := true, recurses := true, named := ["spillframe/sir.shapes"], apart := false, laid := [("spillframe/sir.shapes", laid_spillframe_sir_shapes)] }
def SirrunEqualsStepByStepSaid : Prop := sirrunEqualsStepByStepRow.holds Tryd.pinned (OpenSpec.ofChange sirrunEqualsStepByStepSpec)

/-- ITS FALSE NEIGHBOUR: 'it returns false'. Refute it at one input. -/
def sirrunEqualsStepByStepWrong : ChangeSpec := { name := "sirrunEqualsStepByStep", fn := fun _ => fun
  | [d] => { results := [.lit (.bool false)], args := [d] }
  | _ => none }
def SirrunEqualsStepByStepWrongFalsely : Prop := sirrunEqualsStepByStepRow.holds Tryd.pinned (OpenSpec.ofChange sirrunEqualsStepByStepWrong)

/-- 'spillframelaw08.SirrunSame': WHATEVER THE INPUT: true; the input reads as it did. -/
def sirrunSameSpec : ChangeSpec := { name := "sirrunSame", fn := fun _ => fun
  | [d1, d2, d3] => { results := [.lit (.bool true)], args := [d1, d2, d3] }
  | _ => none }
def sirrunSameRow : OpenClaim := { program := "ytipjeihfhnilcaadoor", sum := "94ffd9786fa0f1dc7eb3dded7d4c4dd3eb0d34fd352e6deb91c6a81f1436f8aa", func := "spillframe/spillframelaw08.SirrunSame", spec := "sirrunSame", inPlace := ["math/bits.Add64", "math/bits.Sub64"], unfollowed := true, recurses := true, named := ["spillframe/sir.shapes"], apart := false, laid := [("spillframe/sir.shapes", laid_spillframe_sir_shapes)] }
def SirrunSameSaid : Prop := sirrunSameRow.holds Tryd.pinned (OpenSpec.ofChange sirrunSameSpec)

/-- ITS FALSE NEIGHBOUR: 'it returns false'. Refute it at one input. -/
def sirrunSameWrong : ChangeSpec := { name := "sirrunSame", fn := fun _ => fun
  | [d1, d2, d3] => { results := [.lit (.bool false)], args := [d1, d2, d3] }
  | _ => none }
def SirrunSameWrongFalsely : Prop := sirrunSameRow.holds Tryd.pinned (OpenSpec.ofChange sirrunSameWrong)

/-- 'spillframelaw08.SirrunRecursionIsDeep': WHATEVER THE INPUT: true; the input reads as it did. -/
def sirrunRecursionIsDeepSpec : ChangeSpec := { name := "sirrunRecursionIsDeep", fn := fun _ => fun
  | [d] => { results := [.lit (.bool true)], args := [d] }
  | _ => none }
def sirrunRecursionIsDeepRow : OpenClaim := { program := "ytipjeihfhnilcaadoor", sum := "94ffd9786fa0f1dc7eb3dded7d4c4dd3eb0d34fd352e6deb91c6a81f1436f8aa", func := "spillframe/spillframelaw08.SirrunRecursionIsDeep", spec := "sirrunRecursionIsDeep", inPlace := ["math/bits.Add64", "math/bits.Sub64"], unfollowed := true, recurses := true, named := ["spillframe/sir.shapes"], apart := false, laid := [("spillframe/sir.shapes", laid_spillframe_sir_shapes)] }
def SirrunRecursionIsDeepSaid : Prop := sirrunRecursionIsDeepRow.holds Tryd.pinned (OpenSpec.ofChange sirrunRecursionIsDeepSpec)

/-- ITS FALSE NEIGHBOUR: 'it returns false'. Refute it at one input. -/
def sirrunRecursionIsDeepWrong : ChangeSpec := { name := "sirrunRecursionIsDeep", fn := fun _ => fun
  | [d] => { results := [.lit (.bool false)], args := [d] }
  | _ => none }
def SirrunRecursionIsDeepWrongFalsely : Prop := sirrunRecursionIsDeepRow.holds Tryd.pinned (OpenSpec.ofChange sirrunRecursionIsDeepWrong)

/-- 'spillframelaw08.SirrunUndef': WHATEVER THE INPUT: true; the input reads as it did. -/
def sirrunUndefSpec : ChangeSpec := { name := "sirrunUndef", fn := fun _ => fun
  | [d1, d2] => { results := [.lit (.bool true)], args := [d1, d2] }
  | _ => none }
def sirrunUndefRow : OpenClaim := { program := "ytipjeihfhnilcaadoor", sum := "94ffd9786fa0f1dc7eb3dded7d4c4dd3eb0d34fd352e6deb91c6a81f1436f8aa", func := "spillframe/spillframelaw08.SirrunUndef", spec := "sirrunUndef", inPlace := ["math/bits.Add64", "math/bits.Sub64"], unfollowed := true, recurses := true, named := ["spillframe/sir.shapes"], apart := false, laid := [("spillframe/sir.shapes", laid_spillframe_sir_shapes)] }
def SirrunUndefSaid : Prop := sirrunUndefRow.holds Tryd.pinned (OpenSpec.ofChange sirrunUndefSpec)

/-- ITS FALSE NEIGHBOUR: 'it returns false'. Refute it at one input. -/
def sirrunUndefWrong : ChangeSpec := { name := "sirrunUndef", fn := fun _ => fun
  | [d1, d2] => { results := [.lit (.bool false)], args := [d1, d2] }
  | _ => none }
def SirrunUndefWrongFalsely : Prop := sirrunUndefRow.holds Tryd.pinned (OpenSpec.ofChange sirrunUndefWrong)

/- THE SECOND FORM. 'bulk': how many values and letters a reading holds, each counted each time it is reached (what is shared counts as often as it is met; a slice's spare places count too). A statement '..UptoSaid' is the law's where the arguments, and the package variables that the reading takes, are together of bulk at most 1048576: NARROWER than '..Said'. Prove '..Said' where nothing that the law and all that it calls make is longer than what came in: it says more and counts as full. Else prove '..UptoSaid'. A law counts once. -/
mutual
def uptoBulk {H : Type} : DataW H → Nat
  | .lit (.string bytes) => bytes.length + 1
  | .lit _ => 1
  | .nil => 1
  | .ptr d => uptoBulk d + 1
  | .slice elems spare => uptoBulkAll elems + uptoBulkAll spare + 1
  | .agg parts => uptoBulkAll parts + 1
  | .iface _ d => uptoBulk d + 1
  | .map entries => uptoBulkEntries entries + 1
  | .held _ => 1
def uptoBulkAll {H : Type} : List (DataW H) → Nat
  | [] => 0
  | d :: r => uptoBulk d + uptoBulkAll r
def uptoBulkEntries {H : Type} : List (Lit × DataW H) → Nat
  | [] => 0
  | x :: r => uptoBulkEntry x + uptoBulkEntries r
def uptoBulkEntry {H : Type} : Lit × DataW H → Nat
  | (.string bytes, d) => bytes.length + uptoBulk d + 1
  | (_, d) => uptoBulk d + 1
 end
def uptoSmall : (H : Type) → List (DataW H) → Bool := fun _ ds => decide (uptoBulkAll ds ≤ 1048576)
def OpenSpec.upto (s : _root_.Go.ChangeSpec) : _root_.Go.OpenSpec := { _root_.Go.OpenSpec.ofChange s with cond := some uptoSmall }

/-- 'spillframelaw08.SirrunFuelIsMonotone', WHERE WHAT IT READS IS OF BULK AT MOST 1048576: true; the input reads as it did. -/
def sirrunFuelIsMonotoneUptoRow : OpenClaim := { program := "ytipjeihfhnilcaadoor", sum := "94ffd9786fa0f1dc7eb3dded7d4c4dd3eb0d34fd352e6deb91c6a81f1436f8aa", func := "spillframe/spillframelaw08.SirrunFuelIsMonotone", spec := "sirrunFuelIsMonotone", inPlace := ["math/bits.Add64", "math/bits.Sub64"], unfollowed := true, recurses := true, named := ["spillframe/sir.shapes"], apart := false, laid := [("spillframe/sir.shapes", laid_spillframe_sir_shapes)], narrowed := true }
def SirrunFuelIsMonotoneUptoSaid : Prop := sirrunFuelIsMonotoneUptoRow.holds Tryd.pinned (OpenSpec.upto sirrunFuelIsMonotoneSpec)

/-- 'spillframelaw08.SirrunEqualsStepByStep', WHERE WHAT IT READS IS OF BULK AT MOST 1048576: true; the input reads as it did. -/
def sirrunEqualsStepByStepUptoRow : OpenClaim := { program := "ytipjeihfhnilcaadoor", sum := "94ffd9786fa0f1dc7eb3dded7d4c4dd3eb0d34fd352e6deb91c6a81f1436f8aa", func := "spillframe/spillframelaw08.SirrunEqualsStepByStep", spec := "sirrunEqualsStepByStep", inPlace := ["math/bits.Add64", "math/bits.Sub64"], unfollowed := true, recurses := true, named := ["spillframe/sir.shapes"], apart := false, laid := [("spillframe/sir.shapes", laid_spillframe_sir_shapes)], narrowed := true }
def SirrunEqualsStepByStepUptoSaid : Prop := sirrunEqualsStepByStepUptoRow.holds Tryd.pinned (OpenSpec.upto sirrunEqualsStepByStepSpec)

/-- 'spillframelaw08.SirrunSame', WHERE WHAT IT READS IS OF BULK AT MOST 1048576: true; the input reads as it did. -/
def sirrunSameUptoRow : OpenClaim := { program := "ytipjeihfhnilcaadoor", sum := "94ffd9786fa0f1dc7eb3dded7d4c4dd3eb0d34fd352e6deb91c6a81f1436f8aa", func := "spillframe/spillframelaw08.SirrunSame", spec := "sirrunSame", inPlace := ["math/bits.Add64", "math/bits.Sub64"], unfollowed := true, recurses := true, named := ["spillframe/sir.shapes"], apart := false, laid := [("spillframe/sir.shapes", laid_spillframe_sir_shapes)], narrowed := true }
def SirrunSameUptoSaid : Prop := sirrunSameUptoRow.holds Tryd.pinned (OpenSpec.upto sirrunSameSpec)

/-- 'spillframelaw08.SirrunRecursionIsDeep', WHERE WHAT IT READS IS OF BULK AT MOST 1048576: true; the input reads as it did. -/
def sirrunRecursionIsDeepUptoRow : OpenClaim := { program := "ytipjeihfhnilcaadoor", sum := "94ffd9786fa0f1dc7eb3dded7d4c4dd3eb0d34fd352e6deb91c6a81f1436f8aa", func := "spillframe/spillframelaw08.SirrunRecursionIsDeep", spec := "sirrunRecursionIsDeep", inPlace := ["math/bits.Add64", "math/bits.Sub64"], unfollowed := true, recurses := true, named := ["spillframe/sir.shapes"], apart := false, laid := [("spillframe/sir.shapes", laid_spillframe_sir_shapes)], narrowed := true }
def SirrunRecursionIsDeepUptoSaid : Prop := sirrunRecursionIsDeepUptoRow.holds Tryd.pinned (OpenSpec.upto sirrunRecursionIsDeepSpec)

/-- 'spillframelaw08.SirrunUndef', WHERE WHAT IT READS IS OF BULK AT MOST 1048576: true; the input reads as it did. -/
def sirrunUndefUptoRow : OpenClaim := { program := "ytipjeihfhnilcaadoor", sum := "94ffd9786fa0f1dc7eb3dded7d4c4dd3eb0d34fd352e6deb91c6a81f1436f8aa", func := "spillframe/spillframelaw08.SirrunUndef", spec := "sirrunUndef", inPlace := ["math/bits.Add64", "math/bits.Sub64"], unfollowed := true, recurses := true, named := ["spillframe/sir.shapes"], apart := false, laid := [("spillframe/sir.shapes", laid_spillframe_sir_shapes)], narrowed := true }
def SirrunUndefUptoSaid : Prop := sirrunUndefUptoRow.holds Tryd.pinned (OpenSpec.upto sirrunUndefSpec)

end Rows
end Go.Proofs.YtipjeihfhnilcaaDoor
