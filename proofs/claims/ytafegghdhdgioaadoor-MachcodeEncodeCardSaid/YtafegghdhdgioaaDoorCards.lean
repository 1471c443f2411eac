/-
  DERIVED. GIVEN WITH THE SEED: THE CARDS: each row of YtafegghdhdgioaaDoorRows.lean that lists a variable, with what it lists TIED to the program's text (the seventh form; the later family's looks); each row that meets fmt, with fmt's text TOLD by the authors' own Lean function (tested against real Go, not proved from fmt's source: count such statements apart). THE CARD IS WHAT COUNTS. Prove the row's statement (the work); the ties are given (YtafegghdhdgioaaDoorTie.lean); close each card by the builder's one call (the guide's Derived/Test/ToyasCard.lean, 'card_holds'). Laid BY PROGRAM, IN A SANDBOX (cutbox-door.mjs). By AI agents, Wed Nov 11 2026. No macro, syntax, notation, axiom, sorry.
-/
import Derived.Test.YtafegghdhdgioaaDoorRows
import GoSem.ClaimSeven
namespace Go.Proofs.YtafegghdhdgioaaDoor
namespace Rows

/-- THE TIED CARD OF 'spillframelaw08.SirrunFuelIsMonotone'. -/
def sirrunFuelIsMonotoneCard : Claim7 := { stood := { row := sirrunFuelIsMonotoneRow, standIns := [], harness := (true, "baff39b1341ab83db324dad305fba8a7bf4c4f9eca21d010eae1c75c672b988d"), looks := false }, kinds := [], alts := [], laidByText := true, laidKinds := [.data], laidTests := true, laidLooks := .later }
def SirrunFuelIsMonotoneCardSaid : Prop := Claim7.holds Tryd.pinned (.plain (OpenSpec.ofChange sirrunFuelIsMonotoneSpec)) sirrunFuelIsMonotoneCard

/-- THE TIED CARD OF 'spillframelaw08.SirrunEqualsStepByStep'. -/
def sirrunEqualsStepByStepCard : Claim7 := { stood := { row := sirrunEqualsStepByStepRow, standIns := [], harness := (true, "baff39b1341ab83db324dad305fba8a7bf4c4f9eca21d010eae1c75c672b988d"), looks := false }, kinds := [], alts := [], laidByText := true, laidKinds := [.data], laidTests := true, laidLooks := .later }
def SirrunEqualsStepByStepCardSaid : Prop := Claim7.holds Tryd.pinned (.plain (OpenSpec.ofChange sirrunEqualsStepByStepSpec)) sirrunEqualsStepByStepCard

/-- THE TIED CARD OF 'spillframelaw08.SirrunSame'. -/
def sirrunSameCard : Claim7 := { stood := { row := sirrunSameRow, standIns := [], harness := (true, "baff39b1341ab83db324dad305fba8a7bf4c4f9eca21d010eae1c75c672b988d"), looks := false }, kinds := [], alts := [], laidByText := true, laidKinds := [.data], laidTests := true, laidLooks := .later }
def SirrunSameCardSaid : Prop := Claim7.holds Tryd.pinned (.plain (OpenSpec.ofChange sirrunSameSpec)) sirrunSameCard

/-- THE TIED CARD OF 'spillframelaw08.SirrunRecursionIsDeep'. -/
def sirrunRecursionIsDeepCard : Claim7 := { stood := { row := sirrunRecursionIsDeepRow, standIns := [], harness := (true, "baff39b1341ab83db324dad305fba8a7bf4c4f9eca21d010eae1c75c672b988d"), looks := false }, kinds := [], alts := [], laidByText := true, laidKinds := [.data], laidTests := true, laidLooks := .later }
def SirrunRecursionIsDeepCardSaid : Prop := Claim7.holds Tryd.pinned (.plain (OpenSpec.ofChange sirrunRecursionIsDeepSpec)) sirrunRecursionIsDeepCard

/-- THE TIED CARD OF 'spillframelaw08.SirrunUndef'. -/
def sirrunUndefCard : Claim7 := { stood := { row := sirrunUndefRow, standIns := [], harness := (true, "baff39b1341ab83db324dad305fba8a7bf4c4f9eca21d010eae1c75c672b988d"), looks := false }, kinds := [], alts := [], laidByText := true, laidKinds := [.data], laidTests := true, laidLooks := .later }
def SirrunUndefCardSaid : Prop := Claim7.holds Tryd.pinned (.plain (OpenSpec.ofChange sirrunUndefSpec)) sirrunUndefCard

/-- THE TIED CARD OF 'spillframelaw11.MachcodeEncode'. -/
def machcodeEncodeCard : Claim7 := { stood := { row := machcodeEncodeRow, standIns := [], harness := (true, "baff39b1341ab83db324dad305fba8a7bf4c4f9eca21d010eae1c75c672b988d"), looks := false }, kinds := [], alts := [], laidByText := true, laidKinds := [.data, .data], laidTests := true, laidLooks := .later }
def MachcodeEncodeCardSaid : Prop := Claim7.holds Tryd.pinned (.plain (OpenSpec.ofChange machcodeEncodeSpec)) machcodeEncodeCard

/-- THE SECOND FORM's CARD OF 'spillframelaw08.SirrunFuelIsMonotone'. -/
def sirrunFuelIsMonotoneUptoCard : Claim7 := { stood := { row := sirrunFuelIsMonotoneUptoRow, standIns := [], harness := (true, "baff39b1341ab83db324dad305fba8a7bf4c4f9eca21d010eae1c75c672b988d"), looks := false }, kinds := [], alts := [], laidByText := true, laidKinds := [.data], laidTests := true, laidLooks := .later }
def SirrunFuelIsMonotoneUptoCardSaid : Prop := Claim7.holds Tryd.pinned (.plain (OpenSpec.upto sirrunFuelIsMonotoneSpec)) sirrunFuelIsMonotoneUptoCard

/-- THE SECOND FORM's CARD OF 'spillframelaw08.SirrunEqualsStepByStep'. -/
def sirrunEqualsStepByStepUptoCard : Claim7 := { stood := { row := sirrunEqualsStepByStepUptoRow, standIns := [], harness := (true, "baff39b1341ab83db324dad305fba8a7bf4c4f9eca21d010eae1c75c672b988d"), looks := false }, kinds := [], alts := [], laidByText := true, laidKinds := [.data], laidTests := true, laidLooks := .later }
def SirrunEqualsStepByStepUptoCardSaid : Prop := Claim7.holds Tryd.pinned (.plain (OpenSpec.upto sirrunEqualsStepByStepSpec)) sirrunEqualsStepByStepUptoCard

/-- THE SECOND FORM's CARD OF 'spillframelaw08.SirrunSame'. -/
def sirrunSameUptoCard : Claim7 := { stood := { row := sirrunSameUptoRow, standIns := [], harness := (true, "baff39b1341ab83db324dad305fba8a7bf4c4f9eca21d010eae1c75c672b988d"), looks := false }, kinds := [], alts := [], laidByText := true, laidKinds := [.data], laidTests := true, laidLooks := .later }
def SirrunSameUptoCardSaid : Prop := Claim7.holds Tryd.pinned (.plain (OpenSpec.upto sirrunSameSpec)) sirrunSameUptoCard

/-- THE SECOND FORM's CARD OF 'spillframelaw08.SirrunRecursionIsDeep'. -/
def sirrunRecursionIsDeepUptoCard : Claim7 := { stood := { row := sirrunRecursionIsDeepUptoRow, standIns := [], harness := (true, "baff39b1341ab83db324dad305fba8a7bf4c4f9eca21d010eae1c75c672b988d"), looks := false }, kinds := [], alts := [], laidByText := true, laidKinds := [.data], laidTests := true, laidLooks := .later }
def SirrunRecursionIsDeepUptoCardSaid : Prop := Claim7.holds Tryd.pinned (.plain (OpenSpec.upto sirrunRecursionIsDeepSpec)) sirrunRecursionIsDeepUptoCard

/-- THE SECOND FORM's CARD OF 'spillframelaw08.SirrunUndef'. -/
def sirrunUndefUptoCard : Claim7 := { stood := { row := sirrunUndefUptoRow, standIns := [], harness := (true, "baff39b1341ab83db324dad305fba8a7bf4c4f9eca21d010eae1c75c672b988d"), looks := false }, kinds := [], alts := [], laidByText := true, laidKinds := [.data], laidTests := true, laidLooks := .later }
def SirrunUndefUptoCardSaid : Prop := Claim7.holds Tryd.pinned (.plain (OpenSpec.upto sirrunUndefSpec)) sirrunUndefUptoCard

/-- THE SECOND FORM's CARD OF 'spillframelaw11.MachcodeEncode'. -/
def machcodeEncodeUptoCard : Claim7 := { stood := { row := machcodeEncodeUptoRow, standIns := [], harness := (true, "baff39b1341ab83db324dad305fba8a7bf4c4f9eca21d010eae1c75c672b988d"), looks := false }, kinds := [], alts := [], laidByText := true, laidKinds := [.data, .data], laidTests := true, laidLooks := .later }
def MachcodeEncodeUptoCardSaid : Prop := Claim7.holds Tryd.pinned (.plain (OpenSpec.upto machcodeEncodeSpec)) machcodeEncodeUptoCard
end Rows
end Go.Proofs.YtafegghdhdgioaaDoor
