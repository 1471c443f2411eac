/-
  DERIVED. GIVEN WITH THE SEED: THE CARDS: each row of YtidlnecgfgnllaaDoorRows.lean that lists a variable, with what it lists TIED to the program's text (the seventh form; the later family's looks); each row that meets fmt, with fmt's text TOLD by the authors' own Lean function (tested against real Go, not proved from fmt's source: count such statements apart). THE CARD IS WHAT COUNTS. Prove the row's statement (the work); the ties are given (YtidlnecgfgnllaaDoorTie.lean); close each card by the builder's one call (the guide's Derived/Test/ToyasCard.lean, 'card_holds'). Laid BY PROGRAM, IN A SANDBOX (cutbox-door.mjs). By AI agents, Wed Nov 11 2026. No macro, syntax, notation, axiom, sorry.
-/
import Derived.Test.YtidlnecgfgnllaaDoorRows
import GoSem.ClaimSeven
namespace Go.Proofs.YtidlnecgfgnllaaDoor
namespace Rows

/-- THE TIED CARD OF 'spillframelaw17.LivecheckCheck'. -/
def livecheckCheckCard : Claim7 := { stood := { row := livecheckCheckRow, standIns := [], harness := (true, "dd5303d2fabf194ae77c69ad4ecf4317e4e9b93fddf7bcec66bf13a547e9b8b2"), looks := false }, kinds := [], alts := [], laidByText := true, laidKinds := [.data], laidTests := true, laidLooks := .later }
def LivecheckCheckCardSaid : Prop := Claim7.holds Tryd.pinned (.plain (OpenSpec.ofChange livecheckCheckSpec)) livecheckCheckCard

/-- THE TIED CARD OF 'spillframelaw17.LivecheckAcceptsSolutions'. -/
def livecheckAcceptsSolutionsCard : Claim7 := { stood := { row := livecheckAcceptsSolutionsRow, standIns := [], harness := (true, "dd5303d2fabf194ae77c69ad4ecf4317e4e9b93fddf7bcec66bf13a547e9b8b2"), looks := false }, kinds := [], alts := [], laidByText := true, laidKinds := [.data], laidTests := true, laidLooks := .later }
def LivecheckAcceptsSolutionsCardSaid : Prop := Claim7.holds Tryd.pinned (.plain (OpenSpec.ofChange livecheckAcceptsSolutionsSpec)) livecheckAcceptsSolutionsCard

/-- THE TIED CARD OF 'spillframelaw17.LivecheckIsSound'. -/
def livecheckIsSoundCard : Claim7 := { stood := { row := livecheckIsSoundRow, standIns := [], harness := (true, "dd5303d2fabf194ae77c69ad4ecf4317e4e9b93fddf7bcec66bf13a547e9b8b2"), looks := false }, kinds := [], alts := [], laidByText := true, laidKinds := [.data], laidTests := true, laidLooks := .later }
def LivecheckIsSoundCardSaid : Prop := Claim7.holds Tryd.pinned (.plain (OpenSpec.ofChange livecheckIsSoundSpec)) livecheckIsSoundCard

/-- THE TIED CARD OF 'spillframelaw17.LivecheckIsALattice'. -/
def livecheckIsALatticeCard : Claim7 := { stood := { row := livecheckIsALatticeRow, standIns := [], harness := (true, "dd5303d2fabf194ae77c69ad4ecf4317e4e9b93fddf7bcec66bf13a547e9b8b2"), looks := false }, kinds := [], alts := [], laidByText := true, laidKinds := [.data], laidTests := true, laidLooks := .later }
def LivecheckIsALatticeCardSaid : Prop := Claim7.holds Tryd.pinned (.plain (OpenSpec.ofChange livecheckIsALatticeSpec)) livecheckIsALatticeCard

/-- THE TIED CARD OF 'spillframelaw17.LivecheckFindsWhatIsMissing'. -/
def livecheckFindsWhatIsMissingCard : Claim7 := { stood := { row := livecheckFindsWhatIsMissingRow, standIns := [], harness := (true, "dd5303d2fabf194ae77c69ad4ecf4317e4e9b93fddf7bcec66bf13a547e9b8b2"), looks := false }, kinds := [], alts := [], laidByText := true, laidKinds := [.data], laidTests := true, laidLooks := .later }
def LivecheckFindsWhatIsMissingCardSaid : Prop := Claim7.holds Tryd.pinned (.plain (OpenSpec.ofChange livecheckFindsWhatIsMissingSpec)) livecheckFindsWhatIsMissingCard

/-- THE SECOND FORM's CARD OF 'spillframelaw17.LivecheckCheck'. -/
def livecheckCheckUptoCard : Claim7 := { stood := { row := livecheckCheckUptoRow, standIns := [], harness := (true, "dd5303d2fabf194ae77c69ad4ecf4317e4e9b93fddf7bcec66bf13a547e9b8b2"), looks := false }, kinds := [], alts := [], laidByText := true, laidKinds := [.data], laidTests := true, laidLooks := .later }
def LivecheckCheckUptoCardSaid : Prop := Claim7.holds Tryd.pinned (.plain (OpenSpec.upto livecheckCheckSpec)) livecheckCheckUptoCard

/-- THE SECOND FORM's CARD OF 'spillframelaw17.LivecheckAcceptsSolutions'. -/
def livecheckAcceptsSolutionsUptoCard : Claim7 := { stood := { row := livecheckAcceptsSolutionsUptoRow, standIns := [], harness := (true, "dd5303d2fabf194ae77c69ad4ecf4317e4e9b93fddf7bcec66bf13a547e9b8b2"), looks := false }, kinds := [], alts := [], laidByText := true, laidKinds := [.data], laidTests := true, laidLooks := .later }
def LivecheckAcceptsSolutionsUptoCardSaid : Prop := Claim7.holds Tryd.pinned (.plain (OpenSpec.upto livecheckAcceptsSolutionsSpec)) livecheckAcceptsSolutionsUptoCard

/-- THE SECOND FORM's CARD OF 'spillframelaw17.LivecheckIsSound'. -/
def livecheckIsSoundUptoCard : Claim7 := { stood := { row := livecheckIsSoundUptoRow, standIns := [], harness := (true, "dd5303d2fabf194ae77c69ad4ecf4317e4e9b93fddf7bcec66bf13a547e9b8b2"), looks := false }, kinds := [], alts := [], laidByText := true, laidKinds := [.data], laidTests := true, laidLooks := .later }
def LivecheckIsSoundUptoCardSaid : Prop := Claim7.holds Tryd.pinned (.plain (OpenSpec.upto livecheckIsSoundSpec)) livecheckIsSoundUptoCard

/-- THE SECOND FORM's CARD OF 'spillframelaw17.LivecheckIsALattice'. -/
def livecheckIsALatticeUptoCard : Claim7 := { stood := { row := livecheckIsALatticeUptoRow, standIns := [], harness := (true, "dd5303d2fabf194ae77c69ad4ecf4317e4e9b93fddf7bcec66bf13a547e9b8b2"), looks := false }, kinds := [], alts := [], laidByText := true, laidKinds := [.data], laidTests := true, laidLooks := .later }
def LivecheckIsALatticeUptoCardSaid : Prop := Claim7.holds Tryd.pinned (.plain (OpenSpec.upto livecheckIsALatticeSpec)) livecheckIsALatticeUptoCard

/-- THE SECOND FORM's CARD OF 'spillframelaw17.LivecheckFindsWhatIsMissing'. -/
def livecheckFindsWhatIsMissingUptoCard : Claim7 := { stood := { row := livecheckFindsWhatIsMissingUptoRow, standIns := [], harness := (true, "dd5303d2fabf194ae77c69ad4ecf4317e4e9b93fddf7bcec66bf13a547e9b8b2"), looks := false }, kinds := [], alts := [], laidByText := true, laidKinds := [.data], laidTests := true, laidLooks := .later }
def LivecheckFindsWhatIsMissingUptoCardSaid : Prop := Claim7.holds Tryd.pinned (.plain (OpenSpec.upto livecheckFindsWhatIsMissingSpec)) livecheckFindsWhatIsMissingUptoCard
end Rows
end Go.Proofs.YtidlnecgfgnllaaDoor
