/-
  DERIVED. GIVEN WITH THE SEED: THE CARDS: each row of YtlfifdpklmnmpaaDoorRows.lean that lists a variable, with what it lists TIED to the program's text (the seventh form; the later family's looks); each row that meets fmt, with fmt's text TOLD by the authors' own Lean function (tested against real Go, not proved from fmt's source: count such statements apart). THE CARD IS WHAT COUNTS. Prove the row's statement (the work); the ties are given (YtlfifdpklmnmpaaDoorTie.lean); close each card by the builder's one call (the guide's Derived/Test/ToyasCard.lean, 'card_holds'). Laid BY PROGRAM, IN A SANDBOX (cutbox-door.mjs). By AI agents, Wed Nov 11 2026. No macro, syntax, notation, axiom, sorry.
-/
import Derived.Test.YtlfifdpklmnmpaaDoorRows
import GoSem.ClaimSeven
namespace Go.Proofs.YtlfifdpklmnmpaaDoor
namespace Rows

/-- THE TIED CARD OF 'spillframelaw05.SirOperands'. -/
def sirOperandsCard : Claim7 := { stood := { row := sirOperandsRow, standIns := [], harness := (true, "d9569df3b30b5b8220d88990d926c63d6a194c24b0bb9b5f009bd155e186e0eb"), looks := false }, kinds := [], alts := [], laidByText := true, laidKinds := [.data], laidTests := true, laidLooks := .later }
def SirOperandsCardSaid : Prop := Claim7.holds Tryd.pinned (.plain (OpenSpec.ofChange sirOperandsSpec)) sirOperandsCard

/-- THE TIED CARD OF 'spillframelaw05.SirLimits'. -/
def sirLimitsCard : Claim7 := { stood := { row := sirLimitsRow, standIns := [], harness := (true, "d9569df3b30b5b8220d88990d926c63d6a194c24b0bb9b5f009bd155e186e0eb"), looks := false }, kinds := [], alts := [], laidByText := true, laidKinds := [.data], laidTests := true, laidLooks := .later }
def SirLimitsCardSaid : Prop := Claim7.holds Tryd.pinned (.plain (OpenSpec.ofChange sirLimitsSpec)) sirLimitsCard

/-- THE SECOND FORM's CARD OF 'spillframelaw05.SirOperands'. -/
def sirOperandsUptoCard : Claim7 := { stood := { row := sirOperandsUptoRow, standIns := [], harness := (true, "d9569df3b30b5b8220d88990d926c63d6a194c24b0bb9b5f009bd155e186e0eb"), looks := false }, kinds := [], alts := [], laidByText := true, laidKinds := [.data], laidTests := true, laidLooks := .later }
def SirOperandsUptoCardSaid : Prop := Claim7.holds Tryd.pinned (.plain (OpenSpec.upto sirOperandsSpec)) sirOperandsUptoCard

/-- THE SECOND FORM's CARD OF 'spillframelaw05.SirLimits'. -/
def sirLimitsUptoCard : Claim7 := { stood := { row := sirLimitsUptoRow, standIns := [], harness := (true, "d9569df3b30b5b8220d88990d926c63d6a194c24b0bb9b5f009bd155e186e0eb"), looks := false }, kinds := [], alts := [], laidByText := true, laidKinds := [.data], laidTests := true, laidLooks := .later }
def SirLimitsUptoCardSaid : Prop := Claim7.holds Tryd.pinned (.plain (OpenSpec.upto sirLimitsSpec)) sirLimitsUptoCard
end Rows
end Go.Proofs.YtlfifdpklmnmpaaDoor
