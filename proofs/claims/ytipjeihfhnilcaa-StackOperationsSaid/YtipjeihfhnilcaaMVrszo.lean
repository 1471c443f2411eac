import Derived.Test.YtipjeihfhnilcaaMEpow
import Derived.Test.YtipjeihfhnilcaaMEmath
set_option linter.unusedVariables false
set_option linter.unusedSimpArgs false
section
/-
  The contract of the reference's Size. Conditions: those of the types.
-/
namespace Go.Proofs.Ytipjeihfhnilcaa
open Go.RowKit

set_option maxHeartbeats 400000 in
theorem rsz_1 (w : World) : Calls Try.prog 66 #[.int .i64 1] w fun e w' => e = .returned (.bool true) ∧ w = w' := by
  go_enter Try.func66, Try.ntmps66
  go_wp2
  go_ret
  exact ⟨rfl, rfl⟩
set_option maxHeartbeats 400000 in
theorem rsz_2 (w : World) : Calls Try.prog 66 #[.int .i64 2] w fun e w' => e = .returned (.bool true) ∧ w = w' := by
  go_enter Try.func66, Try.ntmps66
  go_wp2
  go_ret
  exact ⟨rfl, rfl⟩
set_option maxHeartbeats 400000 in
theorem rsz_4 (w : World) : Calls Try.prog 66 #[.int .i64 4] w fun e w' => e = .returned (.bool true) ∧ w = w' := by
  go_enter Try.func66, Try.ntmps66
  go_wp2
  go_ret
  exact ⟨rfl, rfl⟩
set_option maxHeartbeats 400000 in
theorem rsz_8 (w : World) : Calls Try.prog 66 #[.int .i64 8] w fun e w' => e = .returned (.bool true) ∧ w = w' := by
  go_enter Try.func66, Try.ntmps66
  go_wp2
  go_ret
  exact ⟨rfl, rfl⟩
set_option maxHeartbeats 400000 in
theorem rsz_16 (w : World) : Calls Try.prog 66 #[.int .i64 16] w fun e w' => e = .returned (.bool true) ∧ w = w' := by
  go_enter Try.func66, Try.ntmps66
  go_wp2
  go_ret
  exact ⟨rfl, rfl⟩
set_option maxHeartbeats 400000 in
theorem rsz_none (n : Int) (w : World) (h : szB n = false) : Calls Try.prog 66 #[.int .i64 n] w fun e w' => e = .returned (.bool false) ∧ w = w' := by
  have hn := of_decide_eq_false h
  have o1 : (n == 1) = false := by rw [beq_eq_false_iff_ne]; omega
  have o2 : (n == 2) = false := by rw [beq_eq_false_iff_ne]; omega
  have o4 : (n == 4) = false := by rw [beq_eq_false_iff_ne]; omega
  have o8 : (n == 8) = false := by rw [beq_eq_false_iff_ne]; omega
  have o16 : (n == 16) = false := by rw [beq_eq_false_iff_ne]; omega
  clear hn h
  go_enter Try.func66, Try.ntmps66
  go_wp2
  go_ret
  exact ⟨rfl, rfl⟩
theorem rsz_any (n : Int) (w : World) : Calls Try.prog 66 #[.int .i64 n] w fun e w' => e = .returned (.bool (szB n)) ∧ w = w' := by
  by_cases h : szB n = true
  · rw [h]
    have hn := of_decide_eq_true h
    rcases hn with rfl | rfl | rfl | rfl | rfl
    · exact rsz_1 w
    · exact rsz_2 w
    · exact rsz_4 w
    · exact rsz_8 w
    · exact rsz_16 w
  · have h : szB n = false := by simpa using h
    rw [h]
    exact rsz_none n w h

end Go.Proofs.Ytipjeihfhnilcaa
end

section
/-
  The contract of value.Size. Conditions: those of the types.
-/
namespace Go.Proofs.Ytipjeihfhnilcaa
open Go.RowKit

set_option maxHeartbeats 400000 in
theorem vsz_1 (w : World) : Calls Try.prog 63 #[.int .i64 1] w fun e w' => e = .returned (.bool true) ∧ w = w' := by
  go_enter Try.func63, Try.ntmps63
  go_wp2
  go_ret
  exact ⟨rfl, rfl⟩
set_option maxHeartbeats 400000 in
theorem vsz_2 (w : World) : Calls Try.prog 63 #[.int .i64 2] w fun e w' => e = .returned (.bool true) ∧ w = w' := by
  go_enter Try.func63, Try.ntmps63
  go_wp2
  go_ret
  exact ⟨rfl, rfl⟩
set_option maxHeartbeats 400000 in
theorem vsz_4 (w : World) : Calls Try.prog 63 #[.int .i64 4] w fun e w' => e = .returned (.bool true) ∧ w = w' := by
  go_enter Try.func63, Try.ntmps63
  go_wp2
  go_ret
  exact ⟨rfl, rfl⟩
set_option maxHeartbeats 400000 in
theorem vsz_8 (w : World) : Calls Try.prog 63 #[.int .i64 8] w fun e w' => e = .returned (.bool true) ∧ w = w' := by
  go_enter Try.func63, Try.ntmps63
  go_wp2
  go_ret
  exact ⟨rfl, rfl⟩
set_option maxHeartbeats 400000 in
theorem vsz_16 (w : World) : Calls Try.prog 63 #[.int .i64 16] w fun e w' => e = .returned (.bool true) ∧ w = w' := by
  go_enter Try.func63, Try.ntmps63
  go_wp2
  go_ret
  exact ⟨rfl, rfl⟩
set_option maxHeartbeats 400000 in
theorem vsz_none (n : Int) (w : World) (h : szB n = false) : Calls Try.prog 63 #[.int .i64 n] w fun e w' => e = .returned (.bool false) ∧ w = w' := by
  have hn := of_decide_eq_false h
  have o1 : (n == 1) = false := by rw [beq_eq_false_iff_ne]; omega
  have o2 : (n == 2) = false := by rw [beq_eq_false_iff_ne]; omega
  have o4 : (n == 4) = false := by rw [beq_eq_false_iff_ne]; omega
  have o8 : (n == 8) = false := by rw [beq_eq_false_iff_ne]; omega
  have o16 : (n == 16) = false := by rw [beq_eq_false_iff_ne]; omega
  clear hn h
  go_enter Try.func63, Try.ntmps63
  go_wp2
  go_ret
  exact ⟨rfl, rfl⟩
theorem vsz_any (n : Int) (w : World) : Calls Try.prog 63 #[.int .i64 n] w fun e w' => e = .returned (.bool (szB n)) ∧ w = w' := by
  by_cases h : szB n = true
  · rw [h]
    have hn := of_decide_eq_true h
    rcases hn with rfl | rfl | rfl | rfl | rfl
    · exact vsz_1 w
    · exact vsz_2 w
    · exact vsz_4 w
    · exact vsz_8 w
    · exact vsz_16 w
  · have h : szB n = false := by simpa using h
    rw [h]
    exact vsz_none n w h

end Go.Proofs.Ytipjeihfhnilcaa
end
