/-
  DERIVED. GIVEN WITH THE SEED: THE CARDS: each row of YtjbgepjdohfhkaaDoorRows.lean that lists a variable, with what it lists TIED to the program's text (the seventh form; the later family's looks); each row that meets fmt, with fmt's text TOLD by the authors' own Lean function (tested against real Go, not proved from fmt's source: count such statements apart). THE CARD IS WHAT COUNTS. Prove the row's statement (the work); the ties are given (YtjbgepjdohfhkaaDoorTie.lean); close each card by the builder's one call (the guide's Derived/Test/ToyasCard.lean, 'card_holds'). Laid BY PROGRAM, IN A SANDBOX (cutbox-door.mjs). By AI agents, Wed Nov 11 2026. No macro, syntax, notation, axiom, sorry.
-/
import Derived.Test.YtjbgepjdohfhkaaDoorRows
import GoSem.ClaimSeven
namespace Go.Proofs.YtjbgepjdohfhkaaDoor
namespace Rows

/-- THE TIED CARD OF 'spillframelaw16.LivenessSteps'. -/
def livenessStepsCard : Claim7 := { stood := { row := livenessStepsRow, standIns := [], harness := (true, "aee9281c94150b2ed31b7666f51caf6ba7c048a3fca9f352a0b2c804014ad23d"), looks := false }, kinds := [], alts := [], laidByText := true, laidKinds := [.data], laidTests := true, laidLooks := .later }
def LivenessStepsCardSaid : Prop := Claim7.holds Tryd.pinned (.plain (OpenSpec.ofChange livenessStepsSpec)) livenessStepsCard

/-- THE TIED CARD OF 'spillframelaw16.LivenessSolvesTheEquations'. -/
def livenessSolvesTheEquationsCard : Claim7 := { stood := { row := livenessSolvesTheEquationsRow, standIns := [], harness := (true, "aee9281c94150b2ed31b7666f51caf6ba7c048a3fca9f352a0b2c804014ad23d"), looks := false }, kinds := [], alts := [], laidByText := true, laidKinds := [.data], laidTests := true, laidLooks := .later }
def LivenessSolvesTheEquationsCardSaid : Prop := Claim7.holds Tryd.pinned (.plain (OpenSpec.ofChange livenessSolvesTheEquationsSpec)) livenessSolvesTheEquationsCard

/-- THE SECOND FORM's CARD OF 'spillframelaw16.LivenessSteps'. -/
def livenessStepsUptoCard : Claim7 := { stood := { row := livenessStepsUptoRow, standIns := [], harness := (true, "aee9281c94150b2ed31b7666f51caf6ba7c048a3fca9f352a0b2c804014ad23d"), looks := false }, kinds := [], alts := [], laidByText := true, laidKinds := [.data], laidTests := true, laidLooks := .later }
def LivenessStepsUptoCardSaid : Prop := Claim7.holds Tryd.pinned (.plain (OpenSpec.upto livenessStepsSpec)) livenessStepsUptoCard

/-- THE SECOND FORM's CARD OF 'spillframelaw16.LivenessSolvesTheEquations'. -/
def livenessSolvesTheEquationsUptoCard : Claim7 := { stood := { row := livenessSolvesTheEquationsUptoRow, standIns := [], harness := (true, "aee9281c94150b2ed31b7666f51caf6ba7c048a3fca9f352a0b2c804014ad23d"), looks := false }, kinds := [], alts := [], laidByText := true, laidKinds := [.data], laidTests := true, laidLooks := .later }
def LivenessSolvesTheEquationsUptoCardSaid : Prop := Claim7.holds Tryd.pinned (.plain (OpenSpec.upto livenessSolvesTheEquationsSpec)) livenessSolvesTheEquationsUptoCard
end Rows
end Go.Proofs.YtjbgepjdohfhkaaDoor
