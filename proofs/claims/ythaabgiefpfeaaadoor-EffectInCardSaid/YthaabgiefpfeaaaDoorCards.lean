/-
  DERIVED. GIVEN WITH THE SEED: THE CARDS: each row of YthaabgiefpfeaaaDoorRows.lean that lists a variable, with what it lists TIED to the program's text (the seventh form; the later family's looks); each row that meets fmt, with fmt's text TOLD by the authors' own Lean function (tested against real Go, not proved from fmt's source: count such statements apart). THE CARD IS WHAT COUNTS. Prove the row's statement (the work); the ties are given (YthaabgiefpfeaaaDoorTie.lean); close each card by the builder's one call (the guide's Derived/Test/ToyasCard.lean, 'card_holds'). Laid BY PROGRAM, IN A SANDBOX (cutbox-door.mjs). By AI agents, Wed Nov 11 2026. No macro, syntax, notation, axiom, sorry.
-/
import Derived.Test.YthaabgiefpfeaaaDoorRows
import GoSem.ClaimSeven
namespace Go.Proofs.YthaabgiefpfeaaaDoor
namespace Rows

/-- THE TIED CARD OF 'spillframelaw15.EffectIn'. -/
def effectInCard : Claim7 := { stood := { row := effectInRow, standIns := [], harness := (true, "1d488dfbffd6e0f5c2ae7bc91e99571dd6e8fba78fb2764111af78d327ffc9f9"), looks := false }, kinds := [], alts := [], laidByText := true, laidKinds := [.data], laidTests := true, laidLooks := .later }
def EffectInCardSaid : Prop := Claim7.holds Tryd.pinned (.plain (OpenSpec.ofChange effectInSpec)) effectInCard

/-- THE TIED CARD OF 'spillframelaw15.EffectInIsMonotone'. -/
def effectInIsMonotoneCard : Claim7 := { stood := { row := effectInIsMonotoneRow, standIns := [], harness := (true, "1d488dfbffd6e0f5c2ae7bc91e99571dd6e8fba78fb2764111af78d327ffc9f9"), looks := false }, kinds := [], alts := [], laidByText := true, laidKinds := [.data], laidTests := true, laidLooks := .later }
def EffectInIsMonotoneCardSaid : Prop := Claim7.holds Tryd.pinned (.plain (OpenSpec.ofChange effectInIsMonotoneSpec)) effectInIsMonotoneCard

/-- THE SECOND FORM's CARD OF 'spillframelaw15.EffectIn'. -/
def effectInUptoCard : Claim7 := { stood := { row := effectInUptoRow, standIns := [], harness := (true, "1d488dfbffd6e0f5c2ae7bc91e99571dd6e8fba78fb2764111af78d327ffc9f9"), looks := false }, kinds := [], alts := [], laidByText := true, laidKinds := [.data], laidTests := true, laidLooks := .later }
def EffectInUptoCardSaid : Prop := Claim7.holds Tryd.pinned (.plain (OpenSpec.upto effectInSpec)) effectInUptoCard

/-- THE SECOND FORM's CARD OF 'spillframelaw15.EffectInIsMonotone'. -/
def effectInIsMonotoneUptoCard : Claim7 := { stood := { row := effectInIsMonotoneUptoRow, standIns := [], harness := (true, "1d488dfbffd6e0f5c2ae7bc91e99571dd6e8fba78fb2764111af78d327ffc9f9"), looks := false }, kinds := [], alts := [], laidByText := true, laidKinds := [.data], laidTests := true, laidLooks := .later }
def EffectInIsMonotoneUptoCardSaid : Prop := Claim7.holds Tryd.pinned (.plain (OpenSpec.upto effectInIsMonotoneSpec)) effectInIsMonotoneUptoCard
end Rows
end Go.Proofs.YthaabgiefpfeaaaDoor
