/-
  '!=' at intervals. No function of the program is named here.
-/
import Derived.Test.YtjgoldlebmfiiaaMmem
namespace Go.Proofs.Ytjgoldlebmfiiaa
open Go.RowKit

theorem interval_fields : Try.prog.underlying 30 = some (.struct (Try.prog.fieldsOf 30)) := by kernel_rfl
theorem interval_held : Try.prog.stoodInHeld 30 = false := by kernel_rfl
theorem equalIn_interval (a b c d : Int) (w : World) : (Op.equalIn 10000 30 (pv a b) (pv c d)).run Try.prog w = .ok (decide (a = c) && decide (b = d)) w := by
  rw [show (10000 : Nat) = 9999 + 1 from rfl, run_equalIn_agg w 9999 30 _ _ interval_fields interval_held]
  have u := Try.underlying3
  have a' := Try.isAgg3
  have z := Try.sizeOf3
  simp only [Program.fieldsOf, Try.underlying30]
  go_simp
  by_cases h1 : a = c <;> by_cases h2 : b = d <;> simp [h1, h2]
theorem run_ne_interval (a b c d : Int) (w : World) : (binOp .neq 30 (pv a b) (pv c d)).run Try.prog w = .ok (.bool (!(decide (a = c) && decide (b = d)))) w := by
  rw [run_neq_struct, equalIn_interval, Result.andThen_ok]
end Go.Proofs.Ytjgoldlebmfiiaa
