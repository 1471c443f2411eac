/-
  DERIVED. GIVEN WITH THE SEED: THE CARDS: each row of YtlhaendgdeflkaaGreatDoorRows.lean that lists a variable, with what it lists TIED to the program's text (the seventh form; the later family's looks); each row that meets fmt, with fmt's text TOLD by the authors' own Lean function (tested against real Go, not proved from fmt's source: count such statements apart). THE CARD IS WHAT COUNTS. Prove the row's statement (the work); the ties are given (YtlhaendgdeflkaaGreatDoorTie.lean); close each card by the builder's one call (the guide's Derived/Test/ToyasCard.lean, 'card_holds'). Laid BY PROGRAM, IN A SANDBOX (cutbox-door.mjs). By AI agents, Wed Nov 11 2026. No macro, syntax, notation, axiom, sorry.
-/
import Derived.Test.YtlhaendgdeflkaaGreatDoorRows
import GoSem.ClaimSeven
namespace Go.Proofs.YtlhaendgdeflkaaGreatDoor
namespace Rows

/-- THE TIED CARD OF 'spillframelaw07.SirtextParse'. -/
def sirtextParseCard : Claim7 := { stood := { row := sirtextParseRow, standIns := [], harness := (true, "b69ff5e86e3b4b18b21ad0188bcab51ced84d2ea4e83e9d5f54346d66e2ef8c0"), looks := true }, kinds := [], alts := [], laidByText := true, laidKinds := [.data, .data, .data, .data, .sentinel, .sentinel, .data], laidTests := true, laidLooks := .later }
def SirtextParseCardSaid : Prop := Claim7.holds Tryz.pinned (.plain (OpenSpec.ofChange sirtextParseSpec)) sirtextParseCard

/-- THE TIED CARD OF 'spillframelaw07.SirtextParseInvertsFormat'. -/
def sirtextParseInvertsFormatCard : Claim7 := { stood := { row := sirtextParseInvertsFormatRow, standIns := [], harness := (true, "b69ff5e86e3b4b18b21ad0188bcab51ced84d2ea4e83e9d5f54346d66e2ef8c0"), looks := true }, kinds := [], alts := [], laidByText := true, laidKinds := [.data, .data, .data, .data, .sentinel, .sentinel, .data], laidTests := true, laidLooks := .later }
def SirtextParseInvertsFormatCardSaid : Prop := Claim7.holds Tryz.pinned (.plain (OpenSpec.ofChange sirtextParseInvertsFormatSpec)) sirtextParseInvertsFormatCard

/-- THE SECOND FORM's CARD OF 'spillframelaw07.SirtextParse'. -/
def sirtextParseUptoCard : Claim7 := { stood := { row := sirtextParseUptoRow, standIns := [], harness := (true, "b69ff5e86e3b4b18b21ad0188bcab51ced84d2ea4e83e9d5f54346d66e2ef8c0"), looks := true }, kinds := [], alts := [], laidByText := true, laidKinds := [.data, .data, .data, .data, .sentinel, .sentinel, .data], laidTests := true, laidLooks := .later }
def SirtextParseUptoCardSaid : Prop := Claim7.holds Tryz.pinned (.plain (OpenSpec.upto sirtextParseSpec)) sirtextParseUptoCard

/-- THE SECOND FORM's CARD OF 'spillframelaw07.SirtextParseInvertsFormat'. -/
def sirtextParseInvertsFormatUptoCard : Claim7 := { stood := { row := sirtextParseInvertsFormatUptoRow, standIns := [], harness := (true, "b69ff5e86e3b4b18b21ad0188bcab51ced84d2ea4e83e9d5f54346d66e2ef8c0"), looks := true }, kinds := [], alts := [], laidByText := true, laidKinds := [.data, .data, .data, .data, .sentinel, .sentinel, .data], laidTests := true, laidLooks := .later }
def SirtextParseInvertsFormatUptoCardSaid : Prop := Claim7.holds Tryz.pinned (.plain (OpenSpec.upto sirtextParseInvertsFormatSpec)) sirtextParseInvertsFormatUptoCard
end Rows
end Go.Proofs.YtlhaendgdeflkaaGreatDoor
