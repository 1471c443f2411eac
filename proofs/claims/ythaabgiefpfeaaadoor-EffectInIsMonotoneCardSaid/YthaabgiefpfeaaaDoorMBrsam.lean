import Derived.Test.YthaabgiefpfeaaaDoorMLsam
set_option linter.unusedVariables false
set_option linter.unusedSimpArgs false
section
/-
  The reference's Same on sets.
-/
namespace Go.Proofs.YthaabgiefpfeaaaDoor
open Go.RowKit
section
variable {A A' : Option Addr} {n n' : Nat} {a b r : List Int} {w : World}
theorem s_same (c c' : Nat) {v : Bool} (h : Hid (Lst w A n a)) (h' : Hid (Lst w A' n' b)) (hr : Hid (decide (a = b) = v)) : Calls Tryd.prog 9 #[.slice A n c, .slice A' n' c'] w fun e w' => e = .returned (.bool v) ∧ Below w.heap.size w w' :=
  (lsame_any A n c a A' n' c' b w h h').mono fun e w' ⟨he, k, hk⟩ => ⟨by rw [he, hr.out], by rw [hk]; exact below_draws (Below.refl _ _) k⟩
end
end Go.Proofs.YthaabgiefpfeaaaDoor
end
