import Derived.Test.YtipjeihfhnilcaaMVspec
import Derived.Laws.StructEq
import Derived.WalkKit
set_option linter.unusedVariables false
set_option linter.unusedSimpArgs false
section
/-
  Equality of two values as the program asks it ('==', '!='): the run of the operation. No function of the program is named here.
-/
namespace Go.Proofs.Ytipjeihfhnilcaa
open Go.RowKit

theorem vv_fields : Try.prog.underlying 39 = some (.struct (Try.prog.fieldsOf 39)) := by kernel_rfl
theorem vv_held : Try.prog.stoodInHeld 39 = false := by kernel_rfl
theorem equalIn_val (l h m k : Int) (w : World) : (Op.equalIn 10000 39 (.agg #[.int .u64 l, .int .u64 h]) (.agg #[.int .u64 m, .int .u64 k])).run Try.prog w = .ok (decide (l = m) && decide (h = k)) w := by
  rw [show (10000 : Nat) = 9999 + 1 from rfl, run_equalIn_agg w 9999 39 _ _ vv_fields vv_held]
  have u := Try.underlying37
  have a := Try.isAgg37
  have z := Try.sizeOf37
  simp only [Program.fieldsOf, Try.underlying39]
  go_simp
  by_cases h1 : l = m <;> by_cases h2 : h = k <;> simp [h1, h2]

theorem run_eq_vv (X Y : Nat) (w : World) (hX : X < two128) (hY : Y < two128) : (binOp .eql 39 (.agg #[.int .u64 (lo X), .int .u64 (hi X)]) (.agg #[.int .u64 (lo Y), .int .u64 (hi Y)])).run Try.prog w = .ok (.bool (decide (X = Y))) w := by
  rw [run_eql_struct, equalIn_val, Result.andThen_ok, ← Bool.decide_and, decide_eq_decide.2 (eq_words hX hY)]
theorem run_ne_vv (X Y : Nat) (w : World) (hX : X < two128) (hY : Y < two128) : (binOp .neq 39 (.agg #[.int .u64 (lo X), .int .u64 (hi X)]) (.agg #[.int .u64 (lo Y), .int .u64 (hi Y)])).run Try.prog w = .ok (.bool (!decide (X = Y))) w := by
  rw [run_neq_struct, equalIn_val, Result.andThen_ok, ← Bool.decide_and, decide_eq_decide.2 (eq_words hX hY)]
theorem run_eq_zero (X : Nat) (w : World) (hX : X < two128) : (binOp .eql 39 (.agg #[.int .u64 (lo X), .int .u64 (hi X)]) (.agg #[.int .u64 0, .int .u64 0])).run Try.prog w = .ok (.bool (decide (X = 0))) w := run_eq_vv X 0 w hX two128_pos
/-- Two values whose words agree. -/
theorem run_ne_same (X Y : Nat) (w : World) (h : X % two128 = Y % two128) : (binOp .neq 39 (.agg #[.int .u64 (lo X), .int .u64 (hi X)]) (.agg #[.int .u64 (lo Y), .int .u64 (hi Y)])).run Try.prog w = .ok (.bool false) w := by
  rw [run_neq_struct, equalIn_val, (vv_congr h).1, (vv_congr h).2]; simp [Result.andThen]
theorem run_eq_same (X Y : Nat) (w : World) (h : X % two128 = Y % two128) : (binOp .eql 39 (.agg #[.int .u64 (lo X), .int .u64 (hi X)]) (.agg #[.int .u64 (lo Y), .int .u64 (hi Y)])).run Try.prog w = .ok (.bool true) w := by
  rw [run_eql_struct, equalIn_val, (vv_congr h).1, (vv_congr h).2]; simp [Result.andThen]
end Go.Proofs.Ytipjeihfhnilcaa
end
