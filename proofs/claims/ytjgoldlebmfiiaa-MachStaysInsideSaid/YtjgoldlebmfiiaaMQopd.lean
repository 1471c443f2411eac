import Derived.Test.YtjgoldlebmfiiaaMQshp
set_option linter.unusedVariables false
set_option linter.unusedSimpArgs false
section
/-
  The contract of the reference's Operands (chapter 5): which operands an operation uses. Condition: the operation is one of the 25.
-/
namespace Go.Proofs.Ytjgoldlebmfiiaa
open Go.RowKit

set_option maxHeartbeats 4000000 in
theorem ropd_any (op : Int) (w : World) (h0 : 0 ≤ op) (h1 : op < 25) :
    Calls Try.prog 76 #[.int .i64 op] w fun e w' => e = .returned (.tuple #[.bool (useA op), .bool (useB op), .bool (useC op), .bool (useI op)]) ∧ w = w' := by
  have hc : op = 0 ∨ op = 1 ∨ op = 2 ∨ op = 3 ∨ op = 4 ∨ op = 5 ∨ op = 6 ∨ op = 7 ∨ op = 8 ∨ op = 9 ∨ op = 10 ∨ op = 11 ∨ op = 12 ∨ op = 13 ∨ op = 14 ∨ op = 15 ∨ op = 16 ∨ op = 17 ∨ op = 18 ∨ op = 19 ∨ op = 20 ∨ op = 21 ∨ op = 22 ∨ op = 23 ∨ op = 24 := by omega
  clear h0 h1
  rcases hc with rfl | rfl | rfl | rfl | rfl | rfl | rfl | rfl | rfl | rfl | rfl | rfl | rfl | rfl | rfl | rfl | rfl | rfl | rfl | rfl | rfl | rfl | rfl | rfl | rfl
  all_goals
    go_enter Try.func76, Try.ntmps76
    go_wp2
    refine bodyPost_ret (by simp [results, Try.results76, go_sem]; decide) rfl ⟨rfl, rfl⟩
end Go.Proofs.Ytjgoldlebmfiiaa
end
