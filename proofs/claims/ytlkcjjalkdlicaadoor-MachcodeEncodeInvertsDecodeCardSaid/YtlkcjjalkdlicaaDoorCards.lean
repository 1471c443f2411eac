/-
  DERIVED. GIVEN WITH THE SEED: THE CARDS: each row of YtlkcjjalkdlicaaDoorRows.lean that lists a variable, with what it lists TIED to the program's text (the seventh form; the later family's looks); each row that meets fmt, with fmt's text TOLD by the authors' own Lean function (tested against real Go, not proved from fmt's source: count such statements apart). THE CARD IS WHAT COUNTS. Prove the row's statement (the work); the ties are given (YtlkcjjalkdlicaaDoorTie.lean); close each card by the builder's one call (the guide's Derived/Test/ToyasCard.lean, 'card_holds'). Laid BY PROGRAM, IN A SANDBOX (cutbox-door.mjs). By AI agents, Wed Nov 11 2026. No macro, syntax, notation, axiom, sorry.
-/
import Derived.Test.YtlkcjjalkdlicaaDoorRows
import GoSem.ClaimSeven
namespace Go.Proofs.YtlkcjjalkdlicaaDoor
namespace Rows

/-- THE TIED CARD OF 'spillframelaw08.SirrunFuelIsMonotone'. -/
def sirrunFuelIsMonotoneCard : Claim7 := { stood := { row := sirrunFuelIsMonotoneRow, standIns := [], harness := (true, "e8c233ad12a599768d7ed54128b92113e7ff31747b87bad3f7741b26ca18d249"), looks := false }, kinds := [], alts := [], laidByText := true, laidKinds := [.data], laidTests := true, laidLooks := .later }
def SirrunFuelIsMonotoneCardSaid : Prop := Claim7.holds Tryd.pinned (.plain (OpenSpec.ofChange sirrunFuelIsMonotoneSpec)) sirrunFuelIsMonotoneCard

/-- THE TIED CARD OF 'spillframelaw08.SirrunEqualsStepByStep'. -/
def sirrunEqualsStepByStepCard : Claim7 := { stood := { row := sirrunEqualsStepByStepRow, standIns := [], harness := (true, "e8c233ad12a599768d7ed54128b92113e7ff31747b87bad3f7741b26ca18d249"), looks := false }, kinds := [], alts := [], laidByText := true, laidKinds := [.data], laidTests := true, laidLooks := .later }
def SirrunEqualsStepByStepCardSaid : Prop := Claim7.holds Tryd.pinned (.plain (OpenSpec.ofChange sirrunEqualsStepByStepSpec)) sirrunEqualsStepByStepCard

/-- THE TIED CARD OF 'spillframelaw11.MachcodeEncode'. -/
def machcodeEncodeCard : Claim7 := { stood := { row := machcodeEncodeRow, standIns := [], harness := (true, "e8c233ad12a599768d7ed54128b92113e7ff31747b87bad3f7741b26ca18d249"), looks := false }, kinds := [], alts := [], laidByText := true, laidKinds := [.data, .data], laidTests := true, laidLooks := .later }
def MachcodeEncodeCardSaid : Prop := Claim7.holds Tryd.pinned (.plain (OpenSpec.ofChange machcodeEncodeSpec)) machcodeEncodeCard

/-- THE TIED CARD OF 'spillframelaw11.MachcodeDecodeInvertsEncode'. -/
def machcodeDecodeInvertsEncodeCard : Claim7 := { stood := { row := machcodeDecodeInvertsEncodeRow, standIns := [], harness := (true, "e8c233ad12a599768d7ed54128b92113e7ff31747b87bad3f7741b26ca18d249"), looks := false }, kinds := [], alts := [], laidByText := true, laidKinds := [.data, .data], laidTests := true, laidLooks := .later }
def MachcodeDecodeInvertsEncodeCardSaid : Prop := Claim7.holds Tryd.pinned (.plain (OpenSpec.ofChange machcodeDecodeInvertsEncodeSpec)) machcodeDecodeInvertsEncodeCard

/-- THE TIED CARD OF 'spillframelaw11.MachcodeEncodeInvertsDecode'. -/
def machcodeEncodeInvertsDecodeCard : Claim7 := { stood := { row := machcodeEncodeInvertsDecodeRow, standIns := [], harness := (true, "e8c233ad12a599768d7ed54128b92113e7ff31747b87bad3f7741b26ca18d249"), looks := false }, kinds := [], alts := [], laidByText := true, laidKinds := [.data, .data], laidTests := true, laidLooks := .later }
def MachcodeEncodeInvertsDecodeCardSaid : Prop := Claim7.holds Tryd.pinned (.plain (OpenSpec.ofChange machcodeEncodeInvertsDecodeSpec)) machcodeEncodeInvertsDecodeCard

/-- THE SECOND FORM's CARD OF 'spillframelaw08.SirrunFuelIsMonotone'. -/
def sirrunFuelIsMonotoneUptoCard : Claim7 := { stood := { row := sirrunFuelIsMonotoneUptoRow, standIns := [], harness := (true, "e8c233ad12a599768d7ed54128b92113e7ff31747b87bad3f7741b26ca18d249"), looks := false }, kinds := [], alts := [], laidByText := true, laidKinds := [.data], laidTests := true, laidLooks := .later }
def SirrunFuelIsMonotoneUptoCardSaid : Prop := Claim7.holds Tryd.pinned (.plain (OpenSpec.upto sirrunFuelIsMonotoneSpec)) sirrunFuelIsMonotoneUptoCard

/-- THE SECOND FORM's CARD OF 'spillframelaw08.SirrunEqualsStepByStep'. -/
def sirrunEqualsStepByStepUptoCard : Claim7 := { stood := { row := sirrunEqualsStepByStepUptoRow, standIns := [], harness := (true, "e8c233ad12a599768d7ed54128b92113e7ff31747b87bad3f7741b26ca18d249"), looks := false }, kinds := [], alts := [], laidByText := true, laidKinds := [.data], laidTests := true, laidLooks := .later }
def SirrunEqualsStepByStepUptoCardSaid : Prop := Claim7.holds Tryd.pinned (.plain (OpenSpec.upto sirrunEqualsStepByStepSpec)) sirrunEqualsStepByStepUptoCard

/-- THE SECOND FORM's CARD OF 'spillframelaw11.MachcodeEncode'. -/
def machcodeEncodeUptoCard : Claim7 := { stood := { row := machcodeEncodeUptoRow, standIns := [], harness := (true, "e8c233ad12a599768d7ed54128b92113e7ff31747b87bad3f7741b26ca18d249"), looks := false }, kinds := [], alts := [], laidByText := true, laidKinds := [.data, .data], laidTests := true, laidLooks := .later }
def MachcodeEncodeUptoCardSaid : Prop := Claim7.holds Tryd.pinned (.plain (OpenSpec.upto machcodeEncodeSpec)) machcodeEncodeUptoCard

/-- THE SECOND FORM's CARD OF 'spillframelaw11.MachcodeDecodeInvertsEncode'. -/
def machcodeDecodeInvertsEncodeUptoCard : Claim7 := { stood := { row := machcodeDecodeInvertsEncodeUptoRow, standIns := [], harness := (true, "e8c233ad12a599768d7ed54128b92113e7ff31747b87bad3f7741b26ca18d249"), looks := false }, kinds := [], alts := [], laidByText := true, laidKinds := [.data, .data], laidTests := true, laidLooks := .later }
def MachcodeDecodeInvertsEncodeUptoCardSaid : Prop := Claim7.holds Tryd.pinned (.plain (OpenSpec.upto machcodeDecodeInvertsEncodeSpec)) machcodeDecodeInvertsEncodeUptoCard

/-- THE SECOND FORM's CARD OF 'spillframelaw11.MachcodeEncodeInvertsDecode'. -/
def machcodeEncodeInvertsDecodeUptoCard : Claim7 := { stood := { row := machcodeEncodeInvertsDecodeUptoRow, standIns := [], harness := (true, "e8c233ad12a599768d7ed54128b92113e7ff31747b87bad3f7741b26ca18d249"), looks := false }, kinds := [], alts := [], laidByText := true, laidKinds := [.data, .data], laidTests := true, laidLooks := .later }
def MachcodeEncodeInvertsDecodeUptoCardSaid : Prop := Claim7.holds Tryd.pinned (.plain (OpenSpec.upto machcodeEncodeInvertsDecodeSpec)) machcodeEncodeInvertsDecodeUptoCard
end Rows
end Go.Proofs.YtlkcjjalkdlicaaDoor
