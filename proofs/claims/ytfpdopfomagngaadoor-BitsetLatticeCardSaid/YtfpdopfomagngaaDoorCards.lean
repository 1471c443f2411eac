/-
  DERIVED. GIVEN WITH THE SEED: THE CARDS: each row of YtfpdopfomagngaaDoorRows.lean that lists a variable, with what it lists TIED to the program's text (the seventh form; the later family's looks); each row that meets fmt, with fmt's text TOLD by the authors' own Lean function (tested against real Go, not proved from fmt's source: count such statements apart). THE CARD IS WHAT COUNTS. Prove the row's statement (the work); the ties are given (YtfpdopfomagngaaDoorTie.lean); close each card by the builder's one call (the guide's Derived/Test/ToyasCard.lean, 'card_holds'). Laid BY PROGRAM, IN A SANDBOX (cutbox-door.mjs). By AI agents, Wed Nov 11 2026. No macro, syntax, notation, axiom, sorry.
-/
import Derived.Test.YtfpdopfomagngaaDoorRows
import GoSem.ClaimSeven
namespace Go.Proofs.YtfpdopfomagngaaDoor
namespace Rows

/-- THE TIED CARD OF 'spillframelaw04.BitsetOf'. -/
def bitsetOfCard : Claim7 := { stood := { row := bitsetOfRow, standIns := [], harness := (true, "565b55cb2f23a242d4e3dd90dad5dd07030eb11e728deba18dc8d11c794287c3"), looks := false }, kinds := [], alts := [], laidByText := true, laidKinds := [.data], laidTests := true, laidLooks := .later }
def BitsetOfCardSaid : Prop := Claim7.holds Tryd.pinned (.plain (OpenSpec.ofChange bitsetOfSpec)) bitsetOfCard

/-- THE TIED CARD OF 'spillframelaw04.BitsetElements'. -/
def bitsetElementsCard : Claim7 := { stood := { row := bitsetElementsRow, standIns := [], harness := (true, "565b55cb2f23a242d4e3dd90dad5dd07030eb11e728deba18dc8d11c794287c3"), looks := false }, kinds := [], alts := [], laidByText := true, laidKinds := [.data], laidTests := true, laidLooks := .later }
def BitsetElementsCardSaid : Prop := Claim7.holds Tryd.pinned (.plain (OpenSpec.ofChange bitsetElementsSpec)) bitsetElementsCard

/-- THE TIED CARD OF 'spillframelaw04.BitsetOperations'. -/
def bitsetOperationsCard : Claim7 := { stood := { row := bitsetOperationsRow, standIns := [], harness := (true, "565b55cb2f23a242d4e3dd90dad5dd07030eb11e728deba18dc8d11c794287c3"), looks := false }, kinds := [], alts := [], laidByText := true, laidKinds := [.data], laidTests := true, laidLooks := .later }
def BitsetOperationsCardSaid : Prop := Claim7.holds Tryd.pinned (.plain (OpenSpec.ofChange bitsetOperationsSpec)) bitsetOperationsCard

/-- THE TIED CARD OF 'spillframelaw04.BitsetLattice'. -/
def bitsetLatticeCard : Claim7 := { stood := { row := bitsetLatticeRow, standIns := [], harness := (true, "565b55cb2f23a242d4e3dd90dad5dd07030eb11e728deba18dc8d11c794287c3"), looks := false }, kinds := [], alts := [], laidByText := true, laidKinds := [.data], laidTests := true, laidLooks := .later }
def BitsetLatticeCardSaid : Prop := Claim7.holds Tryd.pinned (.plain (OpenSpec.ofChange bitsetLatticeSpec)) bitsetLatticeCard

/-- THE TIED CARD OF 'spillframelaw04.BitsetSharesNoMemory'. -/
def bitsetSharesNoMemoryCard : Claim7 := { stood := { row := bitsetSharesNoMemoryRow, standIns := [], harness := (true, "565b55cb2f23a242d4e3dd90dad5dd07030eb11e728deba18dc8d11c794287c3"), looks := false }, kinds := [], alts := [], laidByText := true, laidKinds := [.data], laidTests := true, laidLooks := .later }
def BitsetSharesNoMemoryCardSaid : Prop := Claim7.holds Tryd.pinned (.plain (OpenSpec.ofChange bitsetSharesNoMemorySpec)) bitsetSharesNoMemoryCard

/-- THE SECOND FORM's CARD OF 'spillframelaw04.BitsetOf'. -/
def bitsetOfUptoCard : Claim7 := { stood := { row := bitsetOfUptoRow, standIns := [], harness := (true, "565b55cb2f23a242d4e3dd90dad5dd07030eb11e728deba18dc8d11c794287c3"), looks := false }, kinds := [], alts := [], laidByText := true, laidKinds := [.data], laidTests := true, laidLooks := .later }
def BitsetOfUptoCardSaid : Prop := Claim7.holds Tryd.pinned (.plain (OpenSpec.upto bitsetOfSpec)) bitsetOfUptoCard

/-- THE SECOND FORM's CARD OF 'spillframelaw04.BitsetElements'. -/
def bitsetElementsUptoCard : Claim7 := { stood := { row := bitsetElementsUptoRow, standIns := [], harness := (true, "565b55cb2f23a242d4e3dd90dad5dd07030eb11e728deba18dc8d11c794287c3"), looks := false }, kinds := [], alts := [], laidByText := true, laidKinds := [.data], laidTests := true, laidLooks := .later }
def BitsetElementsUptoCardSaid : Prop := Claim7.holds Tryd.pinned (.plain (OpenSpec.upto bitsetElementsSpec)) bitsetElementsUptoCard

/-- THE SECOND FORM's CARD OF 'spillframelaw04.BitsetOperations'. -/
def bitsetOperationsUptoCard : Claim7 := { stood := { row := bitsetOperationsUptoRow, standIns := [], harness := (true, "565b55cb2f23a242d4e3dd90dad5dd07030eb11e728deba18dc8d11c794287c3"), looks := false }, kinds := [], alts := [], laidByText := true, laidKinds := [.data], laidTests := true, laidLooks := .later }
def BitsetOperationsUptoCardSaid : Prop := Claim7.holds Tryd.pinned (.plain (OpenSpec.upto bitsetOperationsSpec)) bitsetOperationsUptoCard

/-- THE SECOND FORM's CARD OF 'spillframelaw04.BitsetLattice'. -/
def bitsetLatticeUptoCard : Claim7 := { stood := { row := bitsetLatticeUptoRow, standIns := [], harness := (true, "565b55cb2f23a242d4e3dd90dad5dd07030eb11e728deba18dc8d11c794287c3"), looks := false }, kinds := [], alts := [], laidByText := true, laidKinds := [.data], laidTests := true, laidLooks := .later }
def BitsetLatticeUptoCardSaid : Prop := Claim7.holds Tryd.pinned (.plain (OpenSpec.upto bitsetLatticeSpec)) bitsetLatticeUptoCard

/-- THE SECOND FORM's CARD OF 'spillframelaw04.BitsetSharesNoMemory'. -/
def bitsetSharesNoMemoryUptoCard : Claim7 := { stood := { row := bitsetSharesNoMemoryUptoRow, standIns := [], harness := (true, "565b55cb2f23a242d4e3dd90dad5dd07030eb11e728deba18dc8d11c794287c3"), looks := false }, kinds := [], alts := [], laidByText := true, laidKinds := [.data], laidTests := true, laidLooks := .later }
def BitsetSharesNoMemoryUptoCardSaid : Prop := Claim7.holds Tryd.pinned (.plain (OpenSpec.upto bitsetSharesNoMemorySpec)) bitsetSharesNoMemoryUptoCard
end Rows
end Go.Proofs.YtfpdopfomagngaaDoor
