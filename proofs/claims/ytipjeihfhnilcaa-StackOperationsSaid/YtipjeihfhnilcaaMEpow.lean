import Derived.Test.YtipjeihfhnilcaaMEmath
import Derived.ProofKit
set_option linter.unusedVariables false
set_option linter.unusedSimpArgs false
section
/-
  The contract of extent.Power; what a right slot is. Conditions: those of the types.
-/
namespace Go.Proofs.Ytipjeihfhnilcaa
open Go.RowKit

theorem ret_two {a b c d : Int} (h : a = b) (h' : c = d) : Ending.returned (.tuple #[.int .i64 a, .int .i64 c]) = .returned (.tuple #[.int .i64 b, .int .i64 d]) := by rw [h, h']
/-- An int. -/
def isI (n : Int) : Prop := -9223372036854775808 ≤ n ∧ n ≤ 9223372036854775807

theorem power_any (n : Int) (w : World) : Calls Try.prog 31 #[.int .i64 n] w fun e w' => e = .returned (.bool (powB n)) ∧ w = w' := by
  by_cases h0 : 1 ≤ n
  · by_cases h1 : n ≤ 16777216
    · have hb := bits_pow n h0 h1
      generalize powB n = b at hb ⊢
      go_enter Try.func31, Try.ntmps31
      go_wp2
      go_ret
      exact ⟨rfl, rfl⟩
    · have hp := hide (powB_out (n := n) (by omega))
      go_enter Try.func31, Try.ntmps31
      go_wp2
      go_ret
      exact ⟨ret_bool hp.out.symm, rfl⟩
  · have hp := hide (powB_out (n := n) (by omega))
    go_enter Try.func31, Try.ntmps31
    go_wp2
    go_ret
    exact ⟨ret_bool hp.out.symm, rfl⟩

/-- A size of a slot. -/
def szB (n : Int) : Bool := decide (n = 1 ∨ n = 2 ∨ n = 4 ∨ n = 8 ∨ n = 16)
/-- A slot is right. -/
def slotB (s a : Int) : Bool := szB s && powB a

end Go.Proofs.Ytipjeihfhnilcaa
end
