import Derived.Test.YtlcmcmocjbeocaaGreatDoorMBitsm
set_option linter.unusedVariables false
set_option linter.unusedSimpArgs false
section
/-
  The contract of the reference's Operands (chapter 5): which operands an operation uses. Condition: the operation is one of the 25.
-/
namespace Go.Proofs.YtlcmcmocjbeocaaGreatDoor
open Go.RowKit

set_option maxHeartbeats 4000000 in
theorem ropd_any (op : Int) (w : World) (h0 : 0 ≤ op) (h1 : op < 25) :
    Calls Tryz.prog 70 #[.int .i64 op] w fun e w' => e = .returned (.tuple #[.bool (useA op), .bool (useB op), .bool (useC op), .bool (useI op)]) ∧ w = w' := by
  have hc : op = 0 ∨ op = 1 ∨ op = 2 ∨ op = 3 ∨ op = 4 ∨ op = 5 ∨ op = 6 ∨ op = 7 ∨ op = 8 ∨ op = 9 ∨ op = 10 ∨ op = 11 ∨ op = 12 ∨ op = 13 ∨ op = 14 ∨ op = 15 ∨ op = 16 ∨ op = 17 ∨ op = 18 ∨ op = 19 ∨ op = 20 ∨ op = 21 ∨ op = 22 ∨ op = 23 ∨ op = 24 := by omega
  clear h0 h1
  rcases hc with rfl | rfl | rfl | rfl | rfl | rfl | rfl | rfl | rfl | rfl | rfl | rfl | rfl | rfl | rfl | rfl | rfl | rfl | rfl | rfl | rfl | rfl | rfl | rfl | rfl
  all_goals
    go_enter Tryz.func70, Tryz.ntmps70
    go_wp2
    refine bodyPost_ret (by simp [results, Tryz.results70, go_sem]; decide) rfl ⟨rfl, rfl⟩
end Go.Proofs.YtlcmcmocjbeocaaGreatDoor
end

section
/-
  The contracts of the reference's Power. Conditions: those of the types.
-/
namespace Go.Proofs.YtlcmcmocjbeocaaGreatDoor
open Go.RowKit

set_option maxHeartbeats 400000 in
theorem rpower_any (n : Int) (w : World) : Calls Tryz.prog 66 #[.int .i64 n] w fun e w' => e = .returned (.bool (powB n)) ∧ w = w' := by
  go_enter Tryz.func66, Tryz.ntmps66
  go_wp2
  go_loop [3] (fun i => ∃ (k : Nat) (p : Int), k ≤ 25 ∧ Hid (p = (2 : Int) ^ k) ∧ 1 ≤ p ∧ p ≤ 33554432 ∧ i = .int .i64 p ∧ Hid (∀ j, j < k → n ≠ (2 : Int) ^ j)) (fun i => (33554432 - intOf i).toNat)
  case atStart => exact ⟨0, 1, by omega, hide rfl, by omega, by omega, rfl, hide fun j hj => by omega⟩
  case round =>
    obtain ⟨k, p, hk, hp, p0, p1, rfl, hno⟩ := hrel
    by_cases hlt : p ≤ 16777216
    · by_cases he : n = p
      · subst he
        have hr := hide (powB_iff.2 ⟨k, by
          rcases Nat.lt_or_ge 24 k with h1 | h1
          · obtain rfl : k = 25 := by omega
            have := hp.out
            omega
          · exact h1, hp.out⟩)
        go_wp2
        go_ret
        exact ⟨ret_bool hr.out.symm, rfl⟩
      · have hbe : (n == p) = false := by simpa using he
        have hk24 : k ≤ 24 := by
          rcases Nat.lt_or_ge 24 k with h1 | h1
          · obtain rfl : k = 25 := by omega
            have := hp.out
            omega
          · exact h1
        go_wp2
        go_round
        case rel =>
          refine ⟨k + 1, p * 2, by omega, hide ?_, by omega, by omega, rfl, hide fun j hj => ?_⟩
          · rw [hp.out, Int.pow_succ]
          · rcases Nat.lt_or_ge j k with h1 | h1
            · exact hno.out j h1
            · obtain rfl : j = k := by omega
              rw [← hp.out]; exact he
        case measure => simp [intOf]; omega
    · have hr : Hid (powB n = false) := by
        show powB n = false
        cases e : powB n with
        | false => rfl
        | true =>
          obtain ⟨j, hj, ej⟩ := powB_iff.1 e
          have := hp.out
          rcases Nat.lt_or_ge j k with h1 | h1
          · exact absurd ej (hno.out j h1)
          · have h2 := (two_pow_b (k := k) (by omega)).2
            omega
      go_wp2
      go_ret
      exact ⟨ret_bool hr.out.symm, rfl⟩
end Go.Proofs.YtlcmcmocjbeocaaGreatDoor
end
