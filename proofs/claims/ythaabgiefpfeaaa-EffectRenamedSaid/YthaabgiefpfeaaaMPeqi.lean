import Derived.Test.YthaabgiefpfeaaaMPmem
import Derived.Laws.StructEq
import Derived.WalkKit
set_option linter.unusedVariables false
set_option linter.unusedSimpArgs false
section
/-
  Instructions compared as values. No function of the program is named here.
-/
namespace Go.Proofs.Ythaabgiefpfeaaa
open Go.RowKit

theorem instr_fields : Try.prog.underlying 24 = some (.struct (Try.prog.fieldsOf 24)) := by kernel_rfl
theorem instr_held : Try.prog.stoodInHeld 24 = false := by kernel_rfl
theorem equalIn_instr (o a b c m o' a' b' c' m' : Int) (w : World) : (Op.equalIn 10000 24 (iv o a b c m) (iv o' a' b' c' m')).run Try.prog w = .ok (decide (o = o') && (decide (a = a') && (decide (b = b') && (decide (c = c') && decide (m = m'))))) w := by
  rw [show (10000 : Nat) = 9999 + 1 from rfl, run_equalIn_agg w 9999 24 _ _ instr_fields instr_held]
  have u := Try.underlying3
  have ag := Try.isAgg3
  have z := Try.sizeOf3
  have u' := Try.underlying22
  have ag' := Try.isAgg22
  have z' := Try.sizeOf22
  simp only [Program.fieldsOf, Try.underlying24]
  go_simp
  by_cases h1 : o = o' <;> by_cases h2 : a = a' <;> by_cases h3 : b = b' <;> by_cases h4 : c = c' <;> by_cases h5 : m = m' <;> simp [h1, h2, h3, h4, h5]
theorem run_ne_instr (o a b c m o' a' b' c' m' : Int) (w : World) : (binOp .neq 24 (iv o a b c m) (iv o' a' b' c' m')).run Try.prog w = .ok (.bool (!(decide (o = o') && (decide (a = a') && (decide (b = b') && (decide (c = c') && decide (m = m'))))))) w := by
  rw [run_neq_struct, equalIn_instr, Result.andThen_ok]

end Go.Proofs.Ythaabgiefpfeaaa
end
