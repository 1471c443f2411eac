/-
  DERIVED. GIVEN WITH THE SEED: THE CARDS: each row of YtpkdeblbobfjbaaDoorRows.lean that lists a variable, with what it lists TIED to the program's text (the seventh form; the later family's looks); each row that meets fmt, with fmt's text TOLD by the authors' own Lean function (tested against real Go, not proved from fmt's source: count such statements apart). THE CARD IS WHAT COUNTS. Prove the row's statement (the work); the ties are given (YtpkdeblbobfjbaaDoorTie.lean); close each card by the builder's one call (the guide's Derived/Test/ToyasCard.lean, 'card_holds'). Laid BY PROGRAM, IN A SANDBOX (cutbox-door.mjs). By AI agents, Wed Nov 11 2026. No macro, syntax, notation, axiom, sorry.
-/
import Derived.Test.YtpkdeblbobfjbaaDoorRows
import GoSem.ClaimSeven
namespace Go.Proofs.YtpkdeblbobfjbaaDoor
namespace Rows

/-- THE TIED CARD OF 'spillframelaw07.SirtextInstr'. -/
def sirtextInstrCard : Claim7 := { stood := { row := sirtextInstrRow, standIns := [], harness := (true, "71b2cd6ee94bb59a3aae2f34ed10a55c6381977a691044a9cfbd7ede3b9a3ab2"), looks := false }, kinds := [], alts := [], laidByText := true, laidKinds := [.data, .data, .data, .data], laidTests := true, laidLooks := .later }
def SirtextInstrCardSaid : Prop := Claim7.holds Tryd.pinned (.plain (OpenSpec.ofChange sirtextInstrSpec)) sirtextInstrCard

/-- THE TIED CARD OF 'spillframelaw07.SirtextFormat'. -/
def sirtextFormatCard : Claim7 := { stood := { row := sirtextFormatRow, standIns := [], harness := (true, "71b2cd6ee94bb59a3aae2f34ed10a55c6381977a691044a9cfbd7ede3b9a3ab2"), looks := false }, kinds := [], alts := [], laidByText := true, laidKinds := [.data, .data, .data, .data, .data], laidTests := true, laidLooks := .later }
def SirtextFormatCardSaid : Prop := Claim7.holds Tryd.pinned (.plain (OpenSpec.ofChange sirtextFormatSpec)) sirtextFormatCard

/-- THE SECOND FORM's CARD OF 'spillframelaw07.SirtextInstr'. -/
def sirtextInstrUptoCard : Claim7 := { stood := { row := sirtextInstrUptoRow, standIns := [], harness := (true, "71b2cd6ee94bb59a3aae2f34ed10a55c6381977a691044a9cfbd7ede3b9a3ab2"), looks := false }, kinds := [], alts := [], laidByText := true, laidKinds := [.data, .data, .data, .data], laidTests := true, laidLooks := .later }
def SirtextInstrUptoCardSaid : Prop := Claim7.holds Tryd.pinned (.plain (OpenSpec.upto sirtextInstrSpec)) sirtextInstrUptoCard

/-- THE SECOND FORM's CARD OF 'spillframelaw07.SirtextFormat'. -/
def sirtextFormatUptoCard : Claim7 := { stood := { row := sirtextFormatUptoRow, standIns := [], harness := (true, "71b2cd6ee94bb59a3aae2f34ed10a55c6381977a691044a9cfbd7ede3b9a3ab2"), looks := false }, kinds := [], alts := [], laidByText := true, laidKinds := [.data, .data, .data, .data, .data], laidTests := true, laidLooks := .later }
def SirtextFormatUptoCardSaid : Prop := Claim7.holds Tryd.pinned (.plain (OpenSpec.upto sirtextFormatSpec)) sirtextFormatUptoCard
end Rows
end Go.Proofs.YtpkdeblbobfjbaaDoor
