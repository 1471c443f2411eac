/-
  The contract of spillframelaw05.awake. No condition.
-/
import Derived.Test.YtlfifdpklmnmpaaDoorPopnd
namespace Go.Proofs.YtlfifdpklmnmpaaDoor
open Go.RowKit

theorem awake_any (w : World) : Calls Tryd.prog 5 #[] w fun e w' => e = .returned (.bool true) ∧ w = w' := by
  go_enter Tryd.func5, Tryd.ntmps5
  go_wp2_with fail
  refine (term_any 23 _).mono ?_
  rintro e w' ⟨rfl, rfl⟩
  go_wp2_with fail
  go_ret
  exact ⟨rfl, rfl⟩
end Go.Proofs.YtlfifdpklmnmpaaDoor
