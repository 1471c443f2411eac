/-
  DERIVED. GIVEN WITH THE SEED: THE CARDS: each row of YtipjeihfhnilcaaDoorRows.lean that lists a variable, with what it lists TIED to the program's text (the seventh form; the later family's looks); each row that meets fmt, with fmt's text TOLD by the authors' own Lean function (tested against real Go, not proved from fmt's source: count such statements apart). THE CARD IS WHAT COUNTS. Prove the row's statement (the work); the ties are given (YtipjeihfhnilcaaDoorTie.lean); close each card by the builder's one call (the guide's Derived/Test/ToyasCard.lean, 'card_holds'). Laid BY PROGRAM, IN A SANDBOX (cutbox-door.mjs). By AI agents, Wed Nov 11 2026. No macro, syntax, notation, axiom, sorry.
-/
import Derived.Test.YtipjeihfhnilcaaDoorRows
import GoSem.ClaimSeven
namespace Go.Proofs.YtipjeihfhnilcaaDoor
namespace Rows

/-- THE TIED CARD OF 'spillframelaw08.SirrunFuelIsMonotone'. -/
def sirrunFuelIsMonotoneCard : Claim7 := { stood := { row := sirrunFuelIsMonotoneRow, standIns := [], harness := (true, "7214d98ae4d8f6f134295dcbcb4eafae30b3741b3e4c3b827d3dac806e496980"), looks := false }, kinds := [], alts := [], laidByText := true, laidKinds := [.data], laidTests := true, laidLooks := .later }
def SirrunFuelIsMonotoneCardSaid : Prop := Claim7.holds Tryd.pinned (.plain (OpenSpec.ofChange sirrunFuelIsMonotoneSpec)) sirrunFuelIsMonotoneCard

/-- THE TIED CARD OF 'spillframelaw08.SirrunEqualsStepByStep'. -/
def sirrunEqualsStepByStepCard : Claim7 := { stood := { row := sirrunEqualsStepByStepRow, standIns := [], harness := (true, "7214d98ae4d8f6f134295dcbcb4eafae30b3741b3e4c3b827d3dac806e496980"), looks := false }, kinds := [], alts := [], laidByText := true, laidKinds := [.data], laidTests := true, laidLooks := .later }
def SirrunEqualsStepByStepCardSaid : Prop := Claim7.holds Tryd.pinned (.plain (OpenSpec.ofChange sirrunEqualsStepByStepSpec)) sirrunEqualsStepByStepCard

/-- THE TIED CARD OF 'spillframelaw08.SirrunSame'. -/
def sirrunSameCard : Claim7 := { stood := { row := sirrunSameRow, standIns := [], harness := (true, "7214d98ae4d8f6f134295dcbcb4eafae30b3741b3e4c3b827d3dac806e496980"), looks := false }, kinds := [], alts := [], laidByText := true, laidKinds := [.data], laidTests := true, laidLooks := .later }
def SirrunSameCardSaid : Prop := Claim7.holds Tryd.pinned (.plain (OpenSpec.ofChange sirrunSameSpec)) sirrunSameCard

/-- THE TIED CARD OF 'spillframelaw08.SirrunRecursionIsDeep'. -/
def sirrunRecursionIsDeepCard : Claim7 := { stood := { row := sirrunRecursionIsDeepRow, standIns := [], harness := (true, "7214d98ae4d8f6f134295dcbcb4eafae30b3741b3e4c3b827d3dac806e496980"), looks := false }, kinds := [], alts := [], laidByText := true, laidKinds := [.data], laidTests := true, laidLooks := .later }
def SirrunRecursionIsDeepCardSaid : Prop := Claim7.holds Tryd.pinned (.plain (OpenSpec.ofChange sirrunRecursionIsDeepSpec)) sirrunRecursionIsDeepCard

/-- THE TIED CARD OF 'spillframelaw08.SirrunUndef'. -/
def sirrunUndefCard : Claim7 := { stood := { row := sirrunUndefRow, standIns := [], harness := (true, "7214d98ae4d8f6f134295dcbcb4eafae30b3741b3e4c3b827d3dac806e496980"), looks := false }, kinds := [], alts := [], laidByText := true, laidKinds := [.data], laidTests := true, laidLooks := .later }
def SirrunUndefCardSaid : Prop := Claim7.holds Tryd.pinned (.plain (OpenSpec.ofChange sirrunUndefSpec)) sirrunUndefCard

/-- THE SECOND FORM's CARD OF 'spillframelaw08.SirrunFuelIsMonotone'. -/
def sirrunFuelIsMonotoneUptoCard : Claim7 := { stood := { row := sirrunFuelIsMonotoneUptoRow, standIns := [], harness := (true, "7214d98ae4d8f6f134295dcbcb4eafae30b3741b3e4c3b827d3dac806e496980"), looks := false }, kinds := [], alts := [], laidByText := true, laidKinds := [.data], laidTests := true, laidLooks := .later }
def SirrunFuelIsMonotoneUptoCardSaid : Prop := Claim7.holds Tryd.pinned (.plain (OpenSpec.upto sirrunFuelIsMonotoneSpec)) sirrunFuelIsMonotoneUptoCard

/-- THE SECOND FORM's CARD OF 'spillframelaw08.SirrunEqualsStepByStep'. -/
def sirrunEqualsStepByStepUptoCard : Claim7 := { stood := { row := sirrunEqualsStepByStepUptoRow, standIns := [], harness := (true, "7214d98ae4d8f6f134295dcbcb4eafae30b3741b3e4c3b827d3dac806e496980"), looks := false }, kinds := [], alts := [], laidByText := true, laidKinds := [.data], laidTests := true, laidLooks := .later }
def SirrunEqualsStepByStepUptoCardSaid : Prop := Claim7.holds Tryd.pinned (.plain (OpenSpec.upto sirrunEqualsStepByStepSpec)) sirrunEqualsStepByStepUptoCard

/-- THE SECOND FORM's CARD OF 'spillframelaw08.SirrunSame'. -/
def sirrunSameUptoCard : Claim7 := { stood := { row := sirrunSameUptoRow, standIns := [], harness := (true, "7214d98ae4d8f6f134295dcbcb4eafae30b3741b3e4c3b827d3dac806e496980"), looks := false }, kinds := [], alts := [], laidByText := true, laidKinds := [.data], laidTests := true, laidLooks := .later }
def SirrunSameUptoCardSaid : Prop := Claim7.holds Tryd.pinned (.plain (OpenSpec.upto sirrunSameSpec)) sirrunSameUptoCard

/-- THE SECOND FORM's CARD OF 'spillframelaw08.SirrunRecursionIsDeep'. -/
def sirrunRecursionIsDeepUptoCard : Claim7 := { stood := { row := sirrunRecursionIsDeepUptoRow, standIns := [], harness := (true, "7214d98ae4d8f6f134295dcbcb4eafae30b3741b3e4c3b827d3dac806e496980"), looks := false }, kinds := [], alts := [], laidByText := true, laidKinds := [.data], laidTests := true, laidLooks := .later }
def SirrunRecursionIsDeepUptoCardSaid : Prop := Claim7.holds Tryd.pinned (.plain (OpenSpec.upto sirrunRecursionIsDeepSpec)) sirrunRecursionIsDeepUptoCard

/-- THE SECOND FORM's CARD OF 'spillframelaw08.SirrunUndef'. -/
def sirrunUndefUptoCard : Claim7 := { stood := { row := sirrunUndefUptoRow, standIns := [], harness := (true, "7214d98ae4d8f6f134295dcbcb4eafae30b3741b3e4c3b827d3dac806e496980"), looks := false }, kinds := [], alts := [], laidByText := true, laidKinds := [.data], laidTests := true, laidLooks := .later }
def SirrunUndefUptoCardSaid : Prop := Claim7.holds Tryd.pinned (.plain (OpenSpec.upto sirrunUndefSpec)) sirrunUndefUptoCard
end Rows
end Go.Proofs.YtipjeihfhnilcaaDoor
