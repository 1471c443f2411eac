/-
  DERIVED. GIVEN WITH THE SEED: THE CARDS: each row of YtlkikjgapingjaaDoorRows.lean that lists a variable, with what it lists TIED to the program's text (the seventh form; the later family's looks); each row that meets fmt, with fmt's text TOLD by the authors' own Lean function (tested against real Go, not proved from fmt's source: count such statements apart). THE CARD IS WHAT COUNTS. Prove the row's statement (the work); the ties are given (YtlkikjgapingjaaDoorTie.lean); close each card by the builder's one call (the guide's Derived/Test/ToyasCard.lean, 'card_holds'). Laid BY PROGRAM, IN A SANDBOX (cutbox-door.mjs). By AI agents, Wed Nov 11 2026. No macro, syntax, notation, axiom, sorry.
-/
import Derived.Test.YtlkikjgapingjaaDoorRows
import GoSem.ClaimSeven
namespace Go.Proofs.YtlkikjgapingjaaDoor
namespace Rows

/-- THE TIED CARD OF 'spillframelaw08.SirrunFuelIsMonotone'. -/
def sirrunFuelIsMonotoneCard : Claim7 := { stood := { row := sirrunFuelIsMonotoneRow, standIns := [], harness := (true, "4a644017625be8b65fd404a6db1e59e6769bdaf459839c3f12f78913bdc60ae5"), looks := false }, kinds := [], alts := [], laidByText := true, laidKinds := [.data], laidTests := true, laidLooks := .later }
def SirrunFuelIsMonotoneCardSaid : Prop := Claim7.holds Tryd.pinned (.plain (OpenSpec.ofChange sirrunFuelIsMonotoneSpec)) sirrunFuelIsMonotoneCard

/-- THE TIED CARD OF 'spillframelaw08.SirrunEqualsStepByStep'. -/
def sirrunEqualsStepByStepCard : Claim7 := { stood := { row := sirrunEqualsStepByStepRow, standIns := [], harness := (true, "4a644017625be8b65fd404a6db1e59e6769bdaf459839c3f12f78913bdc60ae5"), looks := false }, kinds := [], alts := [], laidByText := true, laidKinds := [.data], laidTests := true, laidLooks := .later }
def SirrunEqualsStepByStepCardSaid : Prop := Claim7.holds Tryd.pinned (.plain (OpenSpec.ofChange sirrunEqualsStepByStepSpec)) sirrunEqualsStepByStepCard

/-- THE TIED CARD OF 'spillframelaw08.SirrunSame'. -/
def sirrunSameCard : Claim7 := { stood := { row := sirrunSameRow, standIns := [], harness := (true, "4a644017625be8b65fd404a6db1e59e6769bdaf459839c3f12f78913bdc60ae5"), looks := false }, kinds := [], alts := [], laidByText := true, laidKinds := [.data], laidTests := true, laidLooks := .later }
def SirrunSameCardSaid : Prop := Claim7.holds Tryd.pinned (.plain (OpenSpec.ofChange sirrunSameSpec)) sirrunSameCard

/-- THE SECOND FORM's CARD OF 'spillframelaw08.SirrunFuelIsMonotone'. -/
def sirrunFuelIsMonotoneUptoCard : Claim7 := { stood := { row := sirrunFuelIsMonotoneUptoRow, standIns := [], harness := (true, "4a644017625be8b65fd404a6db1e59e6769bdaf459839c3f12f78913bdc60ae5"), looks := false }, kinds := [], alts := [], laidByText := true, laidKinds := [.data], laidTests := true, laidLooks := .later }
def SirrunFuelIsMonotoneUptoCardSaid : Prop := Claim7.holds Tryd.pinned (.plain (OpenSpec.upto sirrunFuelIsMonotoneSpec)) sirrunFuelIsMonotoneUptoCard

/-- THE SECOND FORM's CARD OF 'spillframelaw08.SirrunEqualsStepByStep'. -/
def sirrunEqualsStepByStepUptoCard : Claim7 := { stood := { row := sirrunEqualsStepByStepUptoRow, standIns := [], harness := (true, "4a644017625be8b65fd404a6db1e59e6769bdaf459839c3f12f78913bdc60ae5"), looks := false }, kinds := [], alts := [], laidByText := true, laidKinds := [.data], laidTests := true, laidLooks := .later }
def SirrunEqualsStepByStepUptoCardSaid : Prop := Claim7.holds Tryd.pinned (.plain (OpenSpec.upto sirrunEqualsStepByStepSpec)) sirrunEqualsStepByStepUptoCard

/-- THE SECOND FORM's CARD OF 'spillframelaw08.SirrunSame'. -/
def sirrunSameUptoCard : Claim7 := { stood := { row := sirrunSameUptoRow, standIns := [], harness := (true, "4a644017625be8b65fd404a6db1e59e6769bdaf459839c3f12f78913bdc60ae5"), looks := false }, kinds := [], alts := [], laidByText := true, laidKinds := [.data], laidTests := true, laidLooks := .later }
def SirrunSameUptoCardSaid : Prop := Claim7.holds Tryd.pinned (.plain (OpenSpec.upto sirrunSameSpec)) sirrunSameUptoCard
end Rows
end Go.Proofs.YtlkikjgapingjaaDoor
