/-
  The contract of spillframelaw05.awake. No condition.
-/
import Derived.Test.YtlfifdpklmnmpaaPterm
namespace Go.Proofs.Ytlfifdpklmnmpaa
open Go.RowKit

theorem awake_any (w : World) : Calls Try.prog 4 #[] w fun e w' => e = .returned (.bool true) ∧ w = w' := by
  go_enter Try.func4, Try.ntmps4
  go_wp2_with fail
  refine (term_any 23 _).mono ?_
  rintro e w' ⟨rfl, rfl⟩
  go_wp2_with fail
  go_ret
  exact ⟨rfl, rfl⟩
end Go.Proofs.Ytlfifdpklmnmpaa
