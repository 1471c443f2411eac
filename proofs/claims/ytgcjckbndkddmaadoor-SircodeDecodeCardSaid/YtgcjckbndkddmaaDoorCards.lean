/-
  DERIVED. GIVEN WITH THE SEED: THE CARDS: each row of YtgcjckbndkddmaaDoorRows.lean that lists a variable, with what it lists TIED to the program's text (the seventh form; the later family's looks); each row that meets fmt, with fmt's text TOLD by the authors' own Lean function (tested against real Go, not proved from fmt's source: count such statements apart). THE CARD IS WHAT COUNTS. Prove the row's statement (the work); the ties are given (YtgcjckbndkddmaaDoorTie.lean); close each card by the builder's one call (the guide's Derived/Test/ToyasCard.lean, 'card_holds'). Laid BY PROGRAM, IN A SANDBOX (cutbox-door.mjs). By AI agents, Wed Nov 11 2026. No macro, syntax, notation, axiom, sorry.
-/
import Derived.Test.YtgcjckbndkddmaaDoorRows
import GoSem.ClaimSeven
namespace Go.Proofs.YtgcjckbndkddmaaDoor
namespace Rows

/-- THE TIED CARD OF 'spillframelaw06.SircodeEncode'. -/
def sircodeEncodeCard : Claim7 := { stood := { row := sircodeEncodeRow, standIns := [], harness := (true, "d95f613bc44e2842432ba82aa7049ae8ec359c0c6bd80415cb36a3493c39c0af"), looks := false }, kinds := [], alts := [], laidByText := true, laidKinds := [.data, .data, .data], laidTests := true, laidLooks := .later }
def SircodeEncodeCardSaid : Prop := Claim7.holds Tryd.pinned (.plain (OpenSpec.ofChange sircodeEncodeSpec)) sircodeEncodeCard

/-- THE TIED CARD OF 'spillframelaw06.SircodeDecode'. -/
def sircodeDecodeCard : Claim7 := { stood := { row := sircodeDecodeRow, standIns := [], harness := (true, "d95f613bc44e2842432ba82aa7049ae8ec359c0c6bd80415cb36a3493c39c0af"), looks := false }, kinds := [], alts := [], laidByText := true, laidKinds := [.data, .data, .data], laidTests := true, laidLooks := .later }
def SircodeDecodeCardSaid : Prop := Claim7.holds Tryd.pinned (.plain (OpenSpec.ofChange sircodeDecodeSpec)) sircodeDecodeCard

/-- THE TIED CARD OF 'spillframelaw06.SircodeDecodeInvertsEncode'. -/
def sircodeDecodeInvertsEncodeCard : Claim7 := { stood := { row := sircodeDecodeInvertsEncodeRow, standIns := [], harness := (true, "d95f613bc44e2842432ba82aa7049ae8ec359c0c6bd80415cb36a3493c39c0af"), looks := false }, kinds := [], alts := [], laidByText := true, laidKinds := [.data, .data, .data], laidTests := true, laidLooks := .later }
def SircodeDecodeInvertsEncodeCardSaid : Prop := Claim7.holds Tryd.pinned (.plain (OpenSpec.ofChange sircodeDecodeInvertsEncodeSpec)) sircodeDecodeInvertsEncodeCard

/-- THE TIED CARD OF 'spillframelaw06.SircodeEncodeInvertsDecode'. -/
def sircodeEncodeInvertsDecodeCard : Claim7 := { stood := { row := sircodeEncodeInvertsDecodeRow, standIns := [], harness := (true, "d95f613bc44e2842432ba82aa7049ae8ec359c0c6bd80415cb36a3493c39c0af"), looks := false }, kinds := [], alts := [], laidByText := true, laidKinds := [.data, .data, .data], laidTests := true, laidLooks := .later }
def SircodeEncodeInvertsDecodeCardSaid : Prop := Claim7.holds Tryd.pinned (.plain (OpenSpec.ofChange sircodeEncodeInvertsDecodeSpec)) sircodeEncodeInvertsDecodeCard

/-- THE TIED CARD OF 'spillframelaw06.SircodeFunctions'. -/
def sircodeFunctionsCard : Claim7 := { stood := { row := sircodeFunctionsRow, standIns := [], harness := (true, "d95f613bc44e2842432ba82aa7049ae8ec359c0c6bd80415cb36a3493c39c0af"), looks := false }, kinds := [], alts := [], laidByText := true, laidKinds := [.data, .data, .data], laidTests := true, laidLooks := .later }
def SircodeFunctionsCardSaid : Prop := Claim7.holds Tryd.pinned (.plain (OpenSpec.ofChange sircodeFunctionsSpec)) sircodeFunctionsCard

/-- THE SECOND FORM's CARD OF 'spillframelaw06.SircodeEncode'. -/
def sircodeEncodeUptoCard : Claim7 := { stood := { row := sircodeEncodeUptoRow, standIns := [], harness := (true, "d95f613bc44e2842432ba82aa7049ae8ec359c0c6bd80415cb36a3493c39c0af"), looks := false }, kinds := [], alts := [], laidByText := true, laidKinds := [.data, .data, .data], laidTests := true, laidLooks := .later }
def SircodeEncodeUptoCardSaid : Prop := Claim7.holds Tryd.pinned (.plain (OpenSpec.upto sircodeEncodeSpec)) sircodeEncodeUptoCard

/-- THE SECOND FORM's CARD OF 'spillframelaw06.SircodeDecode'. -/
def sircodeDecodeUptoCard : Claim7 := { stood := { row := sircodeDecodeUptoRow, standIns := [], harness := (true, "d95f613bc44e2842432ba82aa7049ae8ec359c0c6bd80415cb36a3493c39c0af"), looks := false }, kinds := [], alts := [], laidByText := true, laidKinds := [.data, .data, .data], laidTests := true, laidLooks := .later }
def SircodeDecodeUptoCardSaid : Prop := Claim7.holds Tryd.pinned (.plain (OpenSpec.upto sircodeDecodeSpec)) sircodeDecodeUptoCard

/-- THE SECOND FORM's CARD OF 'spillframelaw06.SircodeDecodeInvertsEncode'. -/
def sircodeDecodeInvertsEncodeUptoCard : Claim7 := { stood := { row := sircodeDecodeInvertsEncodeUptoRow, standIns := [], harness := (true, "d95f613bc44e2842432ba82aa7049ae8ec359c0c6bd80415cb36a3493c39c0af"), looks := false }, kinds := [], alts := [], laidByText := true, laidKinds := [.data, .data, .data], laidTests := true, laidLooks := .later }
def SircodeDecodeInvertsEncodeUptoCardSaid : Prop := Claim7.holds Tryd.pinned (.plain (OpenSpec.upto sircodeDecodeInvertsEncodeSpec)) sircodeDecodeInvertsEncodeUptoCard

/-- THE SECOND FORM's CARD OF 'spillframelaw06.SircodeEncodeInvertsDecode'. -/
def sircodeEncodeInvertsDecodeUptoCard : Claim7 := { stood := { row := sircodeEncodeInvertsDecodeUptoRow, standIns := [], harness := (true, "d95f613bc44e2842432ba82aa7049ae8ec359c0c6bd80415cb36a3493c39c0af"), looks := false }, kinds := [], alts := [], laidByText := true, laidKinds := [.data, .data, .data], laidTests := true, laidLooks := .later }
def SircodeEncodeInvertsDecodeUptoCardSaid : Prop := Claim7.holds Tryd.pinned (.plain (OpenSpec.upto sircodeEncodeInvertsDecodeSpec)) sircodeEncodeInvertsDecodeUptoCard

/-- THE SECOND FORM's CARD OF 'spillframelaw06.SircodeFunctions'. -/
def sircodeFunctionsUptoCard : Claim7 := { stood := { row := sircodeFunctionsUptoRow, standIns := [], harness := (true, "d95f613bc44e2842432ba82aa7049ae8ec359c0c6bd80415cb36a3493c39c0af"), looks := false }, kinds := [], alts := [], laidByText := true, laidKinds := [.data, .data, .data], laidTests := true, laidLooks := .later }
def SircodeFunctionsUptoCardSaid : Prop := Claim7.holds Tryd.pinned (.plain (OpenSpec.upto sircodeFunctionsSpec)) sircodeFunctionsUptoCard
end Rows
end Go.Proofs.YtgcjckbndkddmaaDoor
