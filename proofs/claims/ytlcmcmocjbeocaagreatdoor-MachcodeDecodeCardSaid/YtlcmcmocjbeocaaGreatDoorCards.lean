/-
  DERIVED. GIVEN WITH THE SEED: THE CARDS: each row of YtlcmcmocjbeocaaGreatDoorRows.lean that lists a variable, with what it lists TIED to the program's text (the seventh form; the later family's looks); each row that meets fmt, with fmt's text TOLD by the authors' own Lean function (tested against real Go, not proved from fmt's source: count such statements apart). THE CARD IS WHAT COUNTS. Prove the row's statement (the work); the ties are given (YtlcmcmocjbeocaaGreatDoorTie.lean); close each card by the builder's one call (the guide's Derived/Test/ToyasCard.lean, 'card_holds'). Laid BY PROGRAM, IN A SANDBOX (cutbox-door.mjs). By AI agents, Wed Nov 11 2026. No macro, syntax, notation, axiom, sorry.
-/
import Derived.Test.YtlcmcmocjbeocaaGreatDoorRows
import GoSem.ClaimSeven
namespace Go.Proofs.YtlcmcmocjbeocaaGreatDoor
namespace Rows

/-- THE TIED CARD OF 'spillframelaw08.SirrunRun'. -/
def sirrunRunCard : Claim7 := { stood := { row := sirrunRunRow, standIns := [], harness := (true, "681f1fa7d8b0193c1005fec8c99aba6f2d12914e345f7781b5da5ac28c8f1150"), looks := false }, kinds := [], alts := [], laidByText := true, laidKinds := [.data], laidTests := true, laidLooks := .later }
def SirrunRunCardSaid : Prop := Claim7.holds Tryz.pinned (.plain (OpenSpec.ofChange sirrunRunSpec)) sirrunRunCard

/-- THE TIED CARD OF 'spillframelaw11.MachcodeDecode'. -/
def machcodeDecodeCard : Claim7 := { stood := { row := machcodeDecodeRow, standIns := [], harness := (true, "681f1fa7d8b0193c1005fec8c99aba6f2d12914e345f7781b5da5ac28c8f1150"), looks := false }, kinds := [], alts := [], laidByText := true, laidKinds := [.data, .data], laidTests := true, laidLooks := .later }
def MachcodeDecodeCardSaid : Prop := Claim7.holds Tryz.pinned (.plain (OpenSpec.ofChange machcodeDecodeSpec)) machcodeDecodeCard

/-- THE SECOND FORM's CARD OF 'spillframelaw08.SirrunRun'. -/
def sirrunRunUptoCard : Claim7 := { stood := { row := sirrunRunUptoRow, standIns := [], harness := (true, "681f1fa7d8b0193c1005fec8c99aba6f2d12914e345f7781b5da5ac28c8f1150"), looks := false }, kinds := [], alts := [], laidByText := true, laidKinds := [.data], laidTests := true, laidLooks := .later }
def SirrunRunUptoCardSaid : Prop := Claim7.holds Tryz.pinned (.plain (OpenSpec.upto sirrunRunSpec)) sirrunRunUptoCard

/-- THE SECOND FORM's CARD OF 'spillframelaw11.MachcodeDecode'. -/
def machcodeDecodeUptoCard : Claim7 := { stood := { row := machcodeDecodeUptoRow, standIns := [], harness := (true, "681f1fa7d8b0193c1005fec8c99aba6f2d12914e345f7781b5da5ac28c8f1150"), looks := false }, kinds := [], alts := [], laidByText := true, laidKinds := [.data, .data], laidTests := true, laidLooks := .later }
def MachcodeDecodeUptoCardSaid : Prop := Claim7.holds Tryz.pinned (.plain (OpenSpec.upto machcodeDecodeSpec)) machcodeDecodeUptoCard
end Rows
end Go.Proofs.YtlcmcmocjbeocaaGreatDoor
