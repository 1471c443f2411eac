/-
  NARROWER THAN 'FOR EVERY INPUT', by the rows' own cells (each row's printed sentence says how): SirrunFuelIsMonotone: laid · SirrunEqualsStepByStep: laid · SirrunSame: laid · SirrunRecursionIsDeep: laid · SirrunUndef: laid · MachcodeEncode: laid.
  DERIVED. THE GIVEN ROWS OF THIS SEAT. 6 by the template 'for every input the law returns true; each argument reads behind the call as it read before'; 0 by the template 'total and deterministic' (their statements: YtafegghdhdgioaaDoorTotals.lean).
  GIVEN WITH THE SEED: the statements are not yours to turn. If you find one false, say at which input.
  Laid BY PROGRAM, IN A SANDBOX (cutbox-rows.mjs): the forced cells as the released guide's own fill.sh prints them over the translation 8360fe64ab35d31f… (all of the seat's roots in one cut). By AI agents, Wed Nov 11 2026. No macro, syntax, notation, axiom, sorry.
-/
import Derived.Test.YtafegghdhdgioaaDoorChecked
import GoSem.Claim
import GoSem.ClaimJoined
import GoSem.ClaimMapViews
import Derived.JoinedTies
import Derived.KernelRfl
namespace Go.Proofs.YtafegghdhdgioaaDoor
/- THE CELL 'sum', in the pinned program and in every row, IS THE sha256 OF THE DUMP (.gsa) THAT YtafegghdhdgioaaDoorProg.lean LOADS. Nothing in Lean hashes anything: it is a label: what it is worth is what the hold of that sum in a sandbox is worth. -/
noncomputable def Tryd.pinned : Pinned := { name := "ytafegghdhdgioaadoor", sum := "8360fe64ab35d31fbe509d375ea89fe2dd6c8d29d2ebe22579cd6a9dec91edd1", checked := Tryd.checked }
namespace Rows
def none {H : Type} : Left H := { results := [], args := [] }

/- WHAT THE LISTED PACKAGE-LEVEL VARIABLES READ AS WHEN THE CALL BEGINS. Each datum BY PROGRAM (the guide's laid-datum.mjs) off the statement by which the dump's own 'gosem.cut.vars' lays the variable. In a bare row this is a premise. The card (YtafegghdhdgioaaDoorCards.lean) ties it to the program's text. -/
def laid_spillframe_sir_shapes {H : Type} : DataW H := .agg [.agg [.lit (.int .i64 1), .lit (.int .i64 0), .lit (.int .i64 0), .lit (.bool true)], .agg [.lit (.int .i64 1), .lit (.int .i64 1), .lit (.int .i64 0), .lit (.bool false)], .agg [.lit (.int .i64 1), .lit (.int .i64 1), .lit (.int .i64 1), .lit (.bool false)], .agg [.lit (.int .i64 1), .lit (.int .i64 1), .lit (.int .i64 1), .lit (.bool false)], .agg [.lit (.int .i64 1), .lit (.int .i64 1), .lit (.int .i64 1), .lit (.bool false)], .agg [.lit (.int .i64 1), .lit (.int .i64 1), .lit (.int .i64 1), .lit (.bool false)], .agg [.lit (.int .i64 1), .lit (.int .i64 1), .lit (.int .i64 1), .lit (.bool false)], .agg [.lit (.int .i64 1), .lit (.int .i64 1), .lit (.int .i64 1), .lit (.bool false)], .agg [.lit (.int .i64 1), .lit (.int .i64 1), .lit (.int .i64 1), .lit (.bool false)], .agg [.lit (.int .i64 1), .lit (.int .i64 1), .lit (.int .i64 1), .lit (.bool false)], .agg [.lit (.int .i64 1), .lit (.int .i64 1), .lit (.int .i64 1), .lit (.bool false)], .agg [.lit (.int .i64 1), .lit (.int .i64 1), .lit (.int .i64 1), .lit (.bool false)], .agg [.lit (.int .i64 1), .lit (.int .i64 1), .lit (.int .i64 0), .lit (.bool false)], .agg [.lit (.int .i64 1), .lit (.int .i64 0), .lit (.int .i64 0), .lit (.bool false)], .agg [.lit (.int .i64 1), .lit (.int .i64 0), .lit (.int .i64 0), .lit (.bool false)], .agg [.lit (.int .i64 1), .lit (.int .i64 2), .lit (.int .i64 0), .lit (.bool false)], .agg [.lit (.int .i64 2), .lit (.int .i64 1), .lit (.int .i64 0), .lit (.bool false)], .agg [.lit (.int .i64 2), .lit (.int .i64 2), .lit (.int .i64 0), .lit (.bool false)], .agg [.lit (.int .i64 4), .lit (.int .i64 1), .lit (.int .i64 0), .lit (.bool false)], .agg [.lit (.int .i64 1), .lit (.int .i64 5), .lit (.int .i64 0), .lit (.bool false)], .agg [.lit (.int .i64 6), .lit (.int .i64 0), .lit (.int .i64 0), .lit (.bool false)], .agg [.lit (.int .i64 1), .lit (.int .i64 6), .lit (.int .i64 0), .lit (.bool false)], .agg [.lit (.int .i64 3), .lit (.int .i64 0), .lit (.int .i64 0), .lit (.bool false)], .agg [.lit (.int .i64 0), .lit (.int .i64 0), .lit (.int .i64 0), .lit (.bool false)], .agg [.lit (.int .i64 0), .lit (.int .i64 0), .lit (.int .i64 0), .lit (.bool true)]]
def laid_math_bits_deBruijn32tab {H : Type} : DataW H := .agg [.lit (.int .u8 0), .lit (.int .u8 1), .lit (.int .u8 28), .lit (.int .u8 2), .lit (.int .u8 29), .lit (.int .u8 14), .lit (.int .u8 24), .lit (.int .u8 3), .lit (.int .u8 30), .lit (.int .u8 22), .lit (.int .u8 20), .lit (.int .u8 15), .lit (.int .u8 25), .lit (.int .u8 17), .lit (.int .u8 4), .lit (.int .u8 8), .lit (.int .u8 31), .lit (.int .u8 27), .lit (.int .u8 13), .lit (.int .u8 23), .lit (.int .u8 21), .lit (.int .u8 19), .lit (.int .u8 16), .lit (.int .u8 7), .lit (.int .u8 26), .lit (.int .u8 12), .lit (.int .u8 18), .lit (.int .u8 6), .lit (.int .u8 11), .lit (.int .u8 5), .lit (.int .u8 10), .lit (.int .u8 9)]
def laid_math_bits_deBruijn64tab {H : Type} : DataW H := .agg [.lit (.int .u8 0), .lit (.int .u8 1), .lit (.int .u8 56), .lit (.int .u8 2), .lit (.int .u8 57), .lit (.int .u8 49), .lit (.int .u8 28), .lit (.int .u8 3), .lit (.int .u8 61), .lit (.int .u8 58), .lit (.int .u8 42), .lit (.int .u8 50), .lit (.int .u8 38), .lit (.int .u8 29), .lit (.int .u8 17), .lit (.int .u8 4), .lit (.int .u8 62), .lit (.int .u8 47), .lit (.int .u8 59), .lit (.int .u8 36), .lit (.int .u8 45), .lit (.int .u8 43), .lit (.int .u8 51), .lit (.int .u8 22), .lit (.int .u8 53), .lit (.int .u8 39), .lit (.int .u8 33), .lit (.int .u8 30), .lit (.int .u8 24), .lit (.int .u8 18), .lit (.int .u8 12), .lit (.int .u8 5), .lit (.int .u8 63), .lit (.int .u8 55), .lit (.int .u8 48), .lit (.int .u8 27), .lit (.int .u8 60), .lit (.int .u8 41), .lit (.int .u8 37), .lit (.int .u8 16), .lit (.int .u8 46), .lit (.int .u8 35), .lit (.int .u8 44), .lit (.int .u8 21), .lit (.int .u8 52), .lit (.int .u8 32), .lit (.int .u8 23), .lit (.int .u8 11), .lit (.int .u8 54), .lit (.int .u8 26), .lit (.int .u8 40), .lit (.int .u8 15), .lit (.int .u8 34), .lit (.int .u8 20), .lit (.int .u8 31), .lit (.int .u8 10), .lit (.int .u8 25), .lit (.int .u8 14), .lit (.int .u8 19), .lit (.int .u8 9), .lit (.int .u8 13), .lit (.int .u8 8), .lit (.int .u8 7), .lit (.int .u8 6)]

/-- 'spillframelaw08.SirrunFuelIsMonotone': WHATEVER THE INPUT: true; the input reads as it did. -/
def sirrunFuelIsMonotoneSpec : ChangeSpec := { name := "sirrunFuelIsMonotone", fn := fun _ => fun
  | [d1, d2] => { results := [.lit (.bool true)], args := [d1, d2] }
  | _ => none }
def sirrunFuelIsMonotoneRow : OpenClaim := { program := "ytafegghdhdgioaadoor", sum := "8360fe64ab35d31fbe509d375ea89fe2dd6c8d29d2ebe22579cd6a9dec91edd1", func := "spillframe/spillframelaw08.SirrunFuelIsMonotone", spec := "sirrunFuelIsMonotone", inPlace := ["math/bits.Add64", "math/bits.Sub64"], unfollowed := true, recurses := true, named := ["spillframe/sir.shapes"], apart := false, laid := [("spillframe/sir.shapes", laid_spillframe_sir_shapes)] }
def SirrunFuelIsMonotoneSaid : Prop := sirrunFuelIsMonotoneRow.holds Tryd.pinned (OpenSpec.ofChange sirrunFuelIsMonotoneSpec)

/-- ITS FALSE NEIGHBOUR: 'it returns false'. Refute it at one input. -/
def sirrunFuelIsMonotoneWrong : ChangeSpec := { name := "sirrunFuelIsMonotone", fn := fun _ => fun
  | [d1, d2] => { results := [.lit (.bool false)], args := [d1, d2] }
  | _ => none }
def SirrunFuelIsMonotoneWrongFalsely : Prop := sirrunFuelIsMonotoneRow.holds Tryd.pinned (OpenSpec.ofChange sirrunFuelIsMonotoneWrong)

/-- 'spillframelaw08.SirrunEqualsStepByStep': WHATEVER THE INPUT: true; the input reads as it did. -/
def sirrunEqualsStepByStepSpec : ChangeSpec := { name := "sirrunEqualsStepByStep", fn := fun _ => fun
  | [d] => { results := [.lit (.bool true)], args := [d] }
  | _ => none }
def sirrunEqualsStepByStepRow : OpenClaim := { program := "ytafegghdhdgioaadoor", sum := "8360fe64ab35d31fbe509d375ea89fe2dd6c8d29d2ebe22579cd6a9dec91edd1", func := "spillframe/spillframelaw08.SirrunEqualsStepByStep", spec := "sirrunEqualsStepByStep", inPlace := ["math/bits.Add64", "math/bits.Sub64"], unfollowed := true, recurses := true, named := ["spillframe/sir.shapes"], apart := false, laid := [("spillframe/sir.shapes", laid_spillframe_sir_shapes)] }
def SirrunEqualsStepByStepSaid : Prop := sirrunEqualsStepByStepRow.holds Tryd.pinned (OpenSpec.ofChange sirrunEqualsStepByStepSpec)

/-- ITS FALSE NEIGHBOUR: 'it returns false'. Refute it at one input. -/
def sirrunEqualsStepByStepWrong : ChangeSpec := { name := "sirrunEqualsStepByStep", fn := fun _ => fun
  | [d] => { results := [.lit (.bool false)], args := [d] }
  | _ => none }
def SirrunEqualsStepByStepWrongFalsely : Prop := sirrunEqualsStepByStepRow.holds Tryd.pinned (OpenSpec.ofChange sirrunEqualsStepByStepWrong)

/-- 'spillframelaw08.SirrunSame': WHATEVER THE INPUT: true; the input reads as it did. -/
def sirrunSameSpec : ChangeSpec := { name := "sirrunSame", fn := fun _ => fun
  | [d1, d2, d3] => { results := [.lit (.bool true)], args := [d1, d2, d3] }
  | _ => none }
def sirrunSameRow : OpenClaim := { program := "ytafegghdhdgioaadoor", sum := "8360fe64ab35d31fbe509d375ea89fe2dd6c8d29d2ebe22579cd6a9dec91edd1", func := "spillframe/spillframelaw08.SirrunSame", spec := "sirrunSame", inPlace := ["math/bits.Add64", "math/bits.Sub64"], unfollowed := true, recurses := true, named := ["spillframe/sir.shapes"], apart := false, laid := [("spillframe/sir.shapes", laid_spillframe_sir_shapes)] }
def SirrunSameSaid : Prop := sirrunSameRow.holds Tryd.pinned (OpenSpec.ofChange sirrunSameSpec)

/-- ITS FALSE NEIGHBOUR: 'it returns false'. Refute it at one input. -/
def sirrunSameWrong : ChangeSpec := { name := "sirrunSame", fn := fun _ => fun
  | [d1, d2, d3] => { results := [.lit (.bool false)], args := [d1, d2, d3] }
  | _ => none }
def SirrunSameWrongFalsely : Prop := sirrunSameRow.holds Tryd.pinned (OpenSpec.ofChange sirrunSameWrong)

/-- 'spillframelaw08.SirrunRecursionIsDeep': WHATEVER THE INPUT: true; the input reads as it did. -/
def sirrunRecursionIsDeepSpec : ChangeSpec := { name := "sirrunRecursionIsDeep", fn := fun _ => fun
  | [d] => { results := [.lit (.bool true)], args := [d] }
  | _ => none }
def sirrunRecursionIsDeepRow : OpenClaim := { program := "ytafegghdhdgioaadoor", sum := "8360fe64ab35d31fbe509d375ea89fe2dd6c8d29d2ebe22579cd6a9dec91edd1", func := "spillframe/spillframelaw08.SirrunRecursionIsDeep", spec := "sirrunRecursionIsDeep", inPlace := ["math/bits.Add64", "math/bits.Sub64"], unfollowed := true, recurses := true, named := ["spillframe/sir.shapes"], apart := false, laid := [("spillframe/sir.shapes", laid_spillframe_sir_shapes)] }
def SirrunRecursionIsDeepSaid : Prop := sirrunRecursionIsDeepRow.holds Tryd.pinned (OpenSpec.ofChange sirrunRecursionIsDeepSpec)

/-- ITS FALSE NEIGHBOUR: 'it returns false'. Refute it at one input. -/
def sirrunRecursionIsDeepWrong : ChangeSpec := { name := "sirrunRecursionIsDeep", fn := fun _ => fun
  | [d] => { results := [.lit (.bool false)], args := [d] }
  | _ => none }
def SirrunRecursionIsDeepWrongFalsely : Prop := sirrunRecursionIsDeepRow.holds Tryd.pinned (OpenSpec.ofChange sirrunRecursionIsDeepWrong)

/-- 'spillframelaw08.SirrunUndef': WHATEVER THE INPUT: true; the input reads as it did. -/
def sirrunUndefSpec : ChangeSpec := { name := "sirrunUndef", fn := fun _ => fun
  | [d1, d2] => { results := [.lit (.bool true)], args := [d1, d2] }
  | _ => none }
def sirrunUndefRow : OpenClaim := { program := "ytafegghdhdgioaadoor", sum := "8360fe64ab35d31fbe509d375ea89fe2dd6c8d29d2ebe22579cd6a9dec91edd1", func := "spillframe/spillframelaw08.SirrunUndef", spec := "sirrunUndef", inPlace := ["math/bits.Add64", "math/bits.Sub64"], unfollowed := true, recurses := true, named := ["spillframe/sir.shapes"], apart := false, laid := [("spillframe/sir.shapes", laid_spillframe_sir_shapes)] }
def SirrunUndefSaid : Prop := sirrunUndefRow.holds Tryd.pinned (OpenSpec.ofChange sirrunUndefSpec)

/-- ITS FALSE NEIGHBOUR: 'it returns false'. Refute it at one input. -/
def sirrunUndefWrong : ChangeSpec := { name := "sirrunUndef", fn := fun _ => fun
  | [d1, d2] => { results := [.lit (.bool false)], args := [d1, d2] }
  | _ => none }
def SirrunUndefWrongFalsely : Prop := sirrunUndefRow.holds Tryd.pinned (OpenSpec.ofChange sirrunUndefWrong)

/-- 'spillframelaw11.MachcodeEncode': WHATEVER THE INPUT: true; the input reads as it did. -/
def machcodeEncodeSpec : ChangeSpec := { name := "machcodeEncode", fn := fun _ => fun
  | [d1, d2] => { results := [.lit (.bool true)], args := [d1, d2] }
  | _ => none }
def machcodeEncodeRow : OpenClaim := { program := "ytafegghdhdgioaadoor", sum := "8360fe64ab35d31fbe509d375ea89fe2dd6c8d29d2ebe22579cd6a9dec91edd1", func := "spillframe/spillframelaw11.MachcodeEncode", spec := "machcodeEncode", unfollowed := true, recurses := true, named := ["math/bits.deBruijn32tab", "math/bits.deBruijn64tab"], apart := false, laid := [("math/bits.deBruijn32tab", laid_math_bits_deBruijn32tab), ("math/bits.deBruijn64tab", laid_math_bits_deBruijn64tab)] }
def MachcodeEncodeSaid : Prop := machcodeEncodeRow.holds Tryd.pinned (OpenSpec.ofChange machcodeEncodeSpec)

/-- ITS FALSE NEIGHBOUR: 'it returns false'. Refute it at one input. -/
def machcodeEncodeWrong : ChangeSpec := { name := "machcodeEncode", fn := fun _ => fun
  | [d1, d2] => { results := [.lit (.bool false)], args := [d1, d2] }
  | _ => none }
def MachcodeEncodeWrongFalsely : Prop := machcodeEncodeRow.holds Tryd.pinned (OpenSpec.ofChange machcodeEncodeWrong)

/- THE SECOND FORM. 'bulk': how many values and letters a reading holds, each counted each time it is reached (what is shared counts as often as it is met; a slice's spare places count too). A statement '..UptoSaid' is the law's where the arguments, and the package variables that the reading takes, are together of bulk at most 1048576: NARROWER than '..Said'. Prove '..Said' where nothing that the law and all that it calls make is longer than what came in: it says more and counts as full. Else prove '..UptoSaid'. A law counts once. -/
mutual
def uptoBulk {H : Type} : DataW H → Nat
  | .lit (.string bytes) => bytes.length + 1
  | .lit _ => 1
  | .nil => 1
  | .ptr d => uptoBulk d + 1
  | .slice elems spare => uptoBulkAll elems + uptoBulkAll spare + 1
  | .agg parts => uptoBulkAll parts + 1
  | .iface _ d => uptoBulk d + 1
  | .map entries => uptoBulkEntries entries + 1
  | .held _ => 1
def uptoBulkAll {H : Type} : List (DataW H) → Nat
  | [] => 0
  | d :: r => uptoBulk d + uptoBulkAll r
def uptoBulkEntries {H : Type} : List (Lit × DataW H) → Nat
  | [] => 0
  | x :: r => uptoBulkEntry x + uptoBulkEntries r
def uptoBulkEntry {H : Type} : Lit × DataW H → Nat
  | (.string bytes, d) => bytes.length + uptoBulk d + 1
  | (_, d) => uptoBulk d + 1
 end
def uptoSmall : (H : Type) → List (DataW H) → Bool := fun _ ds => decide (uptoBulkAll ds ≤ 1048576)
def OpenSpec.upto (s : _root_.Go.ChangeSpec) : _root_.Go.OpenSpec := { _root_.Go.OpenSpec.ofChange s with cond := some uptoSmall }

/-- 'spillframelaw08.SirrunFuelIsMonotone', WHERE WHAT IT READS IS OF BULK AT MOST 1048576: true; the input reads as it did. -/
def sirrunFuelIsMonotoneUptoRow : OpenClaim := { program := "ytafegghdhdgioaadoor", sum := "8360fe64ab35d31fbe509d375ea89fe2dd6c8d29d2ebe22579cd6a9dec91edd1", func := "spillframe/spillframelaw08.SirrunFuelIsMonotone", spec := "sirrunFuelIsMonotone", inPlace := ["math/bits.Add64", "math/bits.Sub64"], unfollowed := true, recurses := true, named := ["spillframe/sir.shapes"], apart := false, laid := [("spillframe/sir.shapes", laid_spillframe_sir_shapes)], narrowed := true }
def SirrunFuelIsMonotoneUptoSaid : Prop := sirrunFuelIsMonotoneUptoRow.holds Tryd.pinned (OpenSpec.upto sirrunFuelIsMonotoneSpec)

/-- 'spillframelaw08.SirrunEqualsStepByStep', WHERE WHAT IT READS IS OF BULK AT MOST 1048576: true; the input reads as it did. -/
def sirrunEqualsStepByStepUptoRow : OpenClaim := { program := "ytafegghdhdgioaadoor", sum := "8360fe64ab35d31fbe509d375ea89fe2dd6c8d29d2ebe22579cd6a9dec91edd1", func := "spillframe/spillframelaw08.SirrunEqualsStepByStep", spec := "sirrunEqualsStepByStep", inPlace := ["math/bits.Add64", "math/bits.Sub64"], unfollowed := true, recurses := true, named := ["spillframe/sir.shapes"], apart := false, laid := [("spillframe/sir.shapes", laid_spillframe_sir_shapes)], narrowed := true }
def SirrunEqualsStepByStepUptoSaid : Prop := sirrunEqualsStepByStepUptoRow.holds Tryd.pinned (OpenSpec.upto sirrunEqualsStepByStepSpec)

/-- 'spillframelaw08.SirrunSame', WHERE WHAT IT READS IS OF BULK AT MOST 1048576: true; the input reads as it did. -/
def sirrunSameUptoRow : OpenClaim := { program := "ytafegghdhdgioaadoor", sum := "8360fe64ab35d31fbe509d375ea89fe2dd6c8d29d2ebe22579cd6a9dec91edd1", func := "spillframe/spillframelaw08.SirrunSame", spec := "sirrunSame", inPlace := ["math/bits.Add64", "math/bits.Sub64"], unfollowed := true, recurses := true, named := ["spillframe/sir.shapes"], apart := false, laid := [("spillframe/sir.shapes", laid_spillframe_sir_shapes)], narrowed := true }
def SirrunSameUptoSaid : Prop := sirrunSameUptoRow.holds Tryd.pinned (OpenSpec.upto sirrunSameSpec)

/-- 'spillframelaw08.SirrunRecursionIsDeep', WHERE WHAT IT READS IS OF BULK AT MOST 1048576: true; the input reads as it did. -/
def sirrunRecursionIsDeepUptoRow : OpenClaim := { program := "ytafegghdhdgioaadoor", sum := "8360fe64ab35d31fbe509d375ea89fe2dd6c8d29d2ebe22579cd6a9dec91edd1", func := "spillframe/spillframelaw08.SirrunRecursionIsDeep", spec := "sirrunRecursionIsDeep", inPlace := ["math/bits.Add64", "math/bits.Sub64"], unfollowed := true, recurses := true, named := ["spillframe/sir.shapes"], apart := false, laid := [("spillframe/sir.shapes", laid_spillframe_sir_shapes)], narrowed := true }
def SirrunRecursionIsDeepUptoSaid : Prop := sirrunRecursionIsDeepUptoRow.holds Tryd.pinned (OpenSpec.upto sirrunRecursionIsDeepSpec)

/-- 'spillframelaw08.SirrunUndef', WHERE WHAT IT READS IS OF BULK AT MOST 1048576: true; the input reads as it did. -/
def sirrunUndefUptoRow : OpenClaim := { program := "ytafegghdhdgioaadoor", sum := "8360fe64ab35d31fbe509d375ea89fe2dd6c8d29d2ebe22579cd6a9dec91edd1", func := "spillframe/spillframelaw08.SirrunUndef", spec := "sirrunUndef", inPlace := ["math/bits.Add64", "math/bits.Sub64"], unfollowed := true, recurses := true, named := ["spillframe/sir.shapes"], apart := false, laid := [("spillframe/sir.shapes", laid_spillframe_sir_shapes)], narrowed := true }
def SirrunUndefUptoSaid : Prop := sirrunUndefUptoRow.holds Tryd.pinned (OpenSpec.upto sirrunUndefSpec)

/-- 'spillframelaw11.MachcodeEncode', WHERE WHAT IT READS IS OF BULK AT MOST 1048576: true; the input reads as it did. -/
def machcodeEncodeUptoRow : OpenClaim := { program := "ytafegghdhdgioaadoor", sum := "8360fe64ab35d31fbe509d375ea89fe2dd6c8d29d2ebe22579cd6a9dec91edd1", func := "spillframe/spillframelaw11.MachcodeEncode", spec := "machcodeEncode", unfollowed := true, recurses := true, named := ["math/bits.deBruijn32tab", "math/bits.deBruijn64tab"], apart := false, laid := [("math/bits.deBruijn32tab", laid_math_bits_deBruijn32tab), ("math/bits.deBruijn64tab", laid_math_bits_deBruijn64tab)], narrowed := true }
def MachcodeEncodeUptoSaid : Prop := machcodeEncodeUptoRow.holds Tryd.pinned (OpenSpec.upto machcodeEncodeSpec)

end Rows
end Go.Proofs.YtafegghdhdgioaaDoor
