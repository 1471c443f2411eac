/-
  The contracts of the reference's Power and Size. Conditions: those of the types.
-/
import Derived.Test.YtlfifdpklmnmpaaEpow
namespace Go.Proofs.Ytlfifdpklmnmpaa
open Go.RowKit

set_option maxHeartbeats 400000 in
theorem rpower_any (n : Int) (w : World) : Calls Try.prog 36 #[.int .i64 n] w fun e w' => e = .returned (.bool (powB n)) ∧ w = w' := by
  go_enter Try.func36, Try.ntmps36
  go_wp2
  go_loop [3] (fun i => ∃ (k : Nat) (p : Int), k ≤ 25 ∧ Hid (p = (2 : Int) ^ k) ∧ 1 ≤ p ∧ p ≤ 33554432 ∧ i = .int .i64 p ∧ Hid (∀ j, j < k → n ≠ (2 : Int) ^ j)) (fun i => (33554432 - intOf i).toNat)
  case atStart => exact ⟨0, 1, by omega, hide rfl, by omega, by omega, rfl, hide fun j hj => by omega⟩
  case round =>
    obtain ⟨k, p, hk, hp, p0, p1, rfl, hno⟩ := hrel
    by_cases hlt : p ≤ 16777216
    · by_cases he : n = p
      · subst he
        have hr := hide (powB_iff.2 ⟨k, by
          rcases Nat.lt_or_ge 24 k with h1 | h1
          · obtain rfl : k = 25 := by omega
            have := hp.out
            omega
          · exact h1, hp.out⟩)
        go_wp2
        go_ret
        exact ⟨ret_bool hr.out.symm, rfl⟩
      · have hbe : (n == p) = false := by simpa using he
        have hk24 : k ≤ 24 := by
          rcases Nat.lt_or_ge 24 k with h1 | h1
          · obtain rfl : k = 25 := by omega
            have := hp.out
            omega
          · exact h1
        go_wp2
        go_round
        case rel =>
          refine ⟨k + 1, p * 2, by omega, hide ?_, by omega, by omega, rfl, hide fun j hj => ?_⟩
          · rw [hp.out, Int.pow_succ]
          · rcases Nat.lt_or_ge j k with h1 | h1
            · exact hno.out j h1
            · obtain rfl : j = k := by omega
              rw [← hp.out]; exact he
        case measure => simp [intOf]; omega
    · have hr : Hid (powB n = false) := by
        show powB n = false
        cases e : powB n with
        | false => rfl
        | true =>
          obtain ⟨j, hj, ej⟩ := powB_iff.1 e
          have := hp.out
          rcases Nat.lt_or_ge j k with h1 | h1
          · exact absurd ej (hno.out j h1)
          · have h2 := (two_pow_b (k := k) (by omega)).2
            omega
      go_wp2
      go_ret
      exact ⟨ret_bool hr.out.symm, rfl⟩

theorem rsz_any (n : Int) (w : World) : Calls Try.prog 35 #[.int .i64 n] w fun e w' => e = .returned (.bool (szB n)) ∧ w = w' := by
  by_cases h1 : n = 1
  · subst h1
    go_enter Try.func35, Try.ntmps35
    go_wp2
    go_ret
    exact ⟨rfl, rfl⟩
  by_cases h2 : n = 2
  · subst h2
    go_enter Try.func35, Try.ntmps35
    go_wp2
    go_ret
    exact ⟨rfl, rfl⟩
  by_cases h4 : n = 4
  · subst h4
    go_enter Try.func35, Try.ntmps35
    go_wp2
    go_ret
    exact ⟨rfl, rfl⟩
  by_cases h8 : n = 8
  · subst h8
    go_enter Try.func35, Try.ntmps35
    go_wp2
    go_ret
    exact ⟨rfl, rfl⟩
  have e1 : (n == 1) = false := by simpa using h1
  have e2 : (n == 2) = false := by simpa using h2
  have e4 : (n == 4) = false := by simpa using h4
  have e8 : (n == 8) = false := by simpa using h8
  have hr := hide (show decide (n = 16) = szB n by simp [szB, h1, h2, h4, h8])
  clear h1 h2 h4 h8
  go_enter Try.func35, Try.ntmps35
  go_wp2
  go_ret
  exact ⟨ret_bool (by rw [← hr.out]; first | rfl | (by_cases h : n = 16 <;> simp [h])), rfl⟩

end Go.Proofs.Ytlfifdpklmnmpaa
