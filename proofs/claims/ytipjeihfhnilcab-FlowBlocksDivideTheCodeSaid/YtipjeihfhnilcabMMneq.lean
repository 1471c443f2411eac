import Derived.Test.YtipjeihfhnilcabMOwn
import Derived.Test.YtipjeihfhnilcabMLeaf
import Derived.Laws.StructEq
import Derived.WalkKit
set_option linter.unusedVariables false
set_option linter.unusedSimpArgs false
section
/-
  '!=' at intervals. No function of the program is named here.
-/
namespace Go.Proofs.Ytipjeihfhnilcab
open Go.RowKit

theorem interval_fields : Try.prog.underlying 35 = some (.struct (Try.prog.fieldsOf 35)) := by kernel_rfl
theorem interval_held : Try.prog.stoodInHeld 35 = false := by kernel_rfl
theorem equalIn_interval (a b c d : Int) (w : World) : (Op.equalIn 10000 35 (pv a b) (pv c d)).run Try.prog w = .ok (decide (a = c) && decide (b = d)) w := by
  rw [show (10000 : Nat) = 9999 + 1 from rfl, run_equalIn_agg w 9999 35 _ _ interval_fields interval_held]
  have u := Try.underlying3
  have a' := Try.isAgg3
  have z := Try.sizeOf3
  simp only [Program.fieldsOf, Try.underlying35]
  go_simp
  by_cases h1 : a = c <;> by_cases h2 : b = d <;> simp [h1, h2]
theorem run_ne_interval (a b c d : Int) (w : World) : (binOp .neq 35 (pv a b) (pv c d)).run Try.prog w = .ok (.bool (!(decide (a = c) && decide (b = d)))) w := by
  rw [run_neq_struct, equalIn_interval, Result.andThen_ok]
end Go.Proofs.Ytipjeihfhnilcab
end
