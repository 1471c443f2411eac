import Derived.Test.YtjgoldlebmfiiaaMMrw
set_option linter.unusedVariables false
set_option linter.unusedSimpArgs false
section
/-
  The contract of spillframelaw10.awake. No condition.
-/
namespace Go.Proofs.Ytjgoldlebmfiiaa
open Go.RowKit

set_option maxHeartbeats 400000 in
theorem awake10_any (w : World) : Calls Try.prog 7 #[] w fun e w' => e = .returned (.bool true) ∧ Below w.heap.size w w' := by
  have c := reads_any 0 0 none 0 0 15 0 8 4 0 w
  have e : rdI ⟨15, 0, 8, 4, 0⟩ = (8, 4) := rfl
  rw [e, show rdB 15 = true from rfl] at c
  clear e
  go_enter Try.func7, Try.ntmps7
  go_wp2_with fail
  refine c.mono ?_
  rintro e w' ⟨rfl, hb⟩
  go_wp2_with fail
  go_ret
  exact ⟨rfl, by first | exact hb | exact hb.alloc hb.size _⟩
end Go.Proofs.Ytjgoldlebmfiiaa
end
