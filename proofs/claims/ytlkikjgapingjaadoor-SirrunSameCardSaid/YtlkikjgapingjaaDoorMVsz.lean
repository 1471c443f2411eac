import Derived.Test.YtlkikjgapingjaaDoorMVszo
import Derived.Test.YtlkikjgapingjaaDoorMVleaf
set_option linter.unusedVariables false
set_option linter.unusedSimpArgs false
section
/-
  The contracts of the program's Pair and High. Conditions: those of the types.
-/
namespace Go.Proofs.YtlkikjgapingjaaDoor
open Go.RowKit

theorem pair_any (X Y : Nat) (w : World) : Calls Tryd.prog 47 #[vv X, vv Y] w fun e w' => e = .returned (vv (pairV X Y)) ∧ Below w.heap.size w w' := by
  have e1 := hide (pair_lo X Y)
  have e2 := hide (pair_hi X Y)
  obtain ⟨V, hV⟩ : ∃ V, V = pairV X Y := ⟨_, rfl⟩
  rw [← hV] at e1 e2 ⊢
  clear hV
  go_enter Tryd.func47, Tryd.ntmps47
  go_wp2
  rw [e1.out, e2.out]
  exact bodyPost_ret (v := vv V) (by simp [results, Tryd.results47, go_sem]) rfl ⟨rfl, below3 _ _ _ _⟩
theorem high_any (X : Nat) (w : World) : Calls Tryd.prog 48 #[vv X] w fun e w' => e = .returned (vv (highV X)) ∧ Below w.heap.size w w' := by
  have e1 := hide (high_lo X)
  have e2 := hide (high_hi X)
  obtain ⟨V, hV⟩ : ∃ V, V = highV X := ⟨_, rfl⟩
  rw [← hV] at e1 e2 ⊢
  clear hV
  go_enter Tryd.func48, Tryd.ntmps48
  go_wp2
  rw [e1.out]
  exact bodyPost_ret (v := vv V) (by simp [results, Tryd.results48, go_sem, e2.out]) rfl ⟨rfl, below2 _ _ _⟩
end Go.Proofs.YtlkikjgapingjaaDoor
end
