import Derived.Test.YtlhaendgdeflkaaGreatDoorMGd
import Derived.Test.YtlhaendgdeflkaaGreatDoorMGa
set_option linter.unusedVariables false
set_option linter.unusedSimpArgs false
section
/-
  The reference's checks (chapter 5), the small ones: register, within, Terminator, operands. Conditions: those of the types.
-/
namespace Go.Proofs.YtlhaendgdeflkaaGreatDoor
open Go.RowKit

theorem rreg_any (n : Int) (w : World) : Calls Tryz.prog 103 #[.int .i64 n] w fun e w' => e = .returned (.bool (withB n 8)) ∧ w = w' := by
  by_cases h0 : 0 ≤ n
  · have E := hide (show withB n 8 = decide (n < 8) by simp [withB, h0])
    go_enter Tryz.func103, Tryz.ntmps103
    go_wp2
    go_ret
    exact ⟨ret_bool (by rw [E.out]), rfl⟩
  · have E := hide (show withB n 8 = false by simp [withB, h0])
    go_enter Tryz.func103, Tryz.ntmps103
    go_wp2
    go_ret
    exact ⟨ret_bool E.out.symm, rfl⟩
theorem rwithin_any (k n : Int) (w : World) : Calls Tryz.prog 58 #[.int .i64 k, .int .i64 n] w fun e w' => e = .returned (.bool (withB k n)) ∧ w = w' := by
  by_cases h0 : 0 ≤ k
  · have E := hide (show withB k n = decide (k < n) by simp [withB, h0])
    go_enter Tryz.func58, Tryz.ntmps58
    go_wp2
    go_ret
    exact ⟨ret_bool (by rw [E.out]), rfl⟩
  · have E := hide (show withB k n = false by simp [withB, h0])
    go_enter Tryz.func58, Tryz.ntmps58
    go_wp2
    go_ret
    exact ⟨ret_bool E.out.symm, rfl⟩
theorem rterm_any (n : Int) (w : World) : Calls Tryz.prog 61 #[.int .i64 n] w fun e w' => e = .returned (.bool (termB n)) ∧ w = w' := by
  by_cases h1 : n = 20
  · subst h1
    go_enter Tryz.func61, Tryz.ntmps61
    go_wp2
    go_ret
    exact ⟨rfl, rfl⟩
  · by_cases h2 : n = 23
    · subst h2
      go_enter Tryz.func61, Tryz.ntmps61
      go_wp2
      go_ret
      exact ⟨rfl, rfl⟩
    · have b1 : (n == 20) = false := by rw [beq_eq_false_iff_ne]; exact h1
      have b2 : (n == 23) = false := by rw [beq_eq_false_iff_ne]; exact h2
      have E := hide (show termB n = (n == 24) by unfold termB; rw [b1, b2]; simp)
      clear h1 h2
      go_enter Tryz.func61, Tryz.ntmps61
      go_wp2
      go_ret
      exact ⟨ret_bool (by rw [E.out]), rfl⟩

/-- Whether an operand names what exists, where it names a register, a slot, a function, an argument or a parameter. -/
def okK (N P n1 k n : Int) : Bool := if k = 1 then withB n 8 else if k = 2 then withB n n1 else if k = 3 then withB n N else if k = 4 then withB n 8 else if k = 5 then withB n P else true
def okW (N P n1 o a b c : Int) : Bool := okK N P n1 (shpOf o).1 a && (okK N P n1 (shpOf o).2.1 b && okK N P n1 (shpOf o).2.2.1 c)
theorem shp3 (o : Int) (k1 k2 k3 : Int) (m : Bool) (h : shpOf o = (k1, k2, k3, m)) (N P n1 a b c : Int) : okW N P n1 o a b c = (okK N P n1 k1 a && (okK N P n1 k2 b && okK N P n1 k3 c)) := by unfold okW; rw [h]
theorem okK0 (N P n1 n : Int) : okK N P n1 0 n = true := rfl
theorem okK1 (N P n1 n : Int) : okK N P n1 1 n = withB n 8 := rfl
theorem okK2 (N P n1 n : Int) : okK N P n1 2 n = withB n n1 := rfl
theorem okK3 (N P n1 n : Int) : okK N P n1 3 n = withB n N := rfl
theorem okK4 (N P n1 n : Int) : okK N P n1 4 n = withB n 8 := rfl
theorem okK5 (N P n1 n : Int) : okK N P n1 5 n = withB n P := rfl
theorem okK6 (N P n1 n : Int) : okK N P n1 6 n = true := rfl

theorem shp_0 : shpOf 0 = (1, 0, 0, true) := rfl
theorem shp_1 : shpOf 1 = (1, 1, 0, false) := rfl
theorem shp_2 : shpOf 2 = (1, 1, 1, false) := rfl
theorem shp_3 : shpOf 3 = (1, 1, 1, false) := rfl
theorem shp_4 : shpOf 4 = (1, 1, 1, false) := rfl
theorem shp_5 : shpOf 5 = (1, 1, 1, false) := rfl
theorem shp_6 : shpOf 6 = (1, 1, 1, false) := rfl
theorem shp_7 : shpOf 7 = (1, 1, 1, false) := rfl
theorem shp_8 : shpOf 8 = (1, 1, 1, false) := rfl
theorem shp_9 : shpOf 9 = (1, 1, 1, false) := rfl
theorem shp_10 : shpOf 10 = (1, 1, 1, false) := rfl
theorem shp_11 : shpOf 11 = (1, 1, 1, false) := rfl
theorem shp_12 : shpOf 12 = (1, 1, 0, false) := rfl
theorem shp_13 : shpOf 13 = (1, 0, 0, false) := rfl
theorem shp_14 : shpOf 14 = (1, 0, 0, false) := rfl
theorem shp_15 : shpOf 15 = (1, 2, 0, false) := rfl
theorem shp_16 : shpOf 16 = (2, 1, 0, false) := rfl
theorem shp_17 : shpOf 17 = (2, 2, 0, false) := rfl
theorem shp_18 : shpOf 18 = (4, 1, 0, false) := rfl
theorem shp_19 : shpOf 19 = (1, 5, 0, false) := rfl
theorem shp_20 : shpOf 20 = (6, 0, 0, false) := rfl
theorem shp_21 : shpOf 21 = (1, 6, 0, false) := rfl
theorem shp_22 : shpOf 22 = (3, 0, 0, false) := rfl
theorem shp_23 : shpOf 23 = (0, 0, 0, false) := rfl
theorem shp_24 : shpOf 24 = (0, 0, 0, true) := rfl

set_option maxRecDepth 100000 in
set_option maxHeartbeats 8000000 in
theorem ropds_any (A : Option Addr) (n c : Nat) (P : Int) (A1 : Option Addr) (n1 c1 : Nat) (A2 : Option Addr) (n2 c2 : Nat) (o a b d m : Int) (w : World) (h0 : 0 ≤ o) (h1 : o < 25) :
    Calls Tryz.prog 84 #[gv A n c, fv P A1 n1 c1 A2 n2 c2, iv o a b d m] w (BoolBelow (okW n P n1 o a b d) w) := by
  have hc : o = 0 ∨ o = 1 ∨ o = 2 ∨ o = 3 ∨ o = 4 ∨ o = 5 ∨ o = 6 ∨ o = 7 ∨ o = 8 ∨ o = 9 ∨ o = 10 ∨ o = 11 ∨ o = 12 ∨ o = 13 ∨ o = 14 ∨ o = 15 ∨ o = 16 ∨ o = 17 ∨ o = 18 ∨ o = 19 ∨ o = 20 ∨ o = 21 ∨ o = 22 ∨ o = 23 ∨ o = 24 := by omega
  clear h0 h1
  have hb := hide (below3 w (.cells #[.slice A n c] 29) (.cells #[.int .i64 P, .slice A1 n1 c1, .slice A2 n2 c2] 49) (.cells #[.int .i64 o, .int .i64 a, .int .i64 b, .int .i64 d, .int .u64 m] 44))
  rcases hc with rfl | rfl | rfl | rfl | rfl | rfl | rfl | rfl | rfl | rfl | rfl | rfl | rfl | rfl | rfl | rfl | rfl | rfl | rfl | rfl | rfl | rfl | rfl | rfl | rfl
  · have E := hide (shp3 0 1 0 0 _ shp_0 n P n1 a b d)
    rw [okK1, okK0, okK0] at E
    go_enter Tryz.func84, Tryz.ntmps84
    go_wp2_with (first | (go_at_call 103; refine (rreg_any _ _).mono ?_; rintro e w' ⟨rfl, rfl⟩) | (go_at_call 58; refine (rwithin_any _ _ _).mono ?_; rintro e w' ⟨rfl, rfl⟩))
    all_goals
      go_ret
      exact ⟨ret_bool (by rw [E.out]; simp [*]), hb.out⟩
  · have E := hide (shp3 1 1 1 0 _ shp_1 n P n1 a b d)
    rw [okK1, okK1, okK0] at E
    go_enter Tryz.func84, Tryz.ntmps84
    go_wp2_with (first | (go_at_call 103; refine (rreg_any _ _).mono ?_; rintro e w' ⟨rfl, rfl⟩) | (go_at_call 58; refine (rwithin_any _ _ _).mono ?_; rintro e w' ⟨rfl, rfl⟩))
    all_goals
      go_ret
      exact ⟨ret_bool (by rw [E.out]; simp [*]), hb.out⟩
  · have E := hide (shp3 2 1 1 1 _ shp_2 n P n1 a b d)
    rw [okK1, okK1, okK1] at E
    go_enter Tryz.func84, Tryz.ntmps84
    go_wp2_with (first | (go_at_call 103; refine (rreg_any _ _).mono ?_; rintro e w' ⟨rfl, rfl⟩) | (go_at_call 58; refine (rwithin_any _ _ _).mono ?_; rintro e w' ⟨rfl, rfl⟩))
    all_goals
      go_ret
      exact ⟨ret_bool (by rw [E.out]; simp [*]), hb.out⟩
  · have E := hide (shp3 3 1 1 1 _ shp_3 n P n1 a b d)
    rw [okK1, okK1, okK1] at E
    go_enter Tryz.func84, Tryz.ntmps84
    go_wp2_with (first | (go_at_call 103; refine (rreg_any _ _).mono ?_; rintro e w' ⟨rfl, rfl⟩) | (go_at_call 58; refine (rwithin_any _ _ _).mono ?_; rintro e w' ⟨rfl, rfl⟩))
    all_goals
      go_ret
      exact ⟨ret_bool (by rw [E.out]; simp [*]), hb.out⟩
  · have E := hide (shp3 4 1 1 1 _ shp_4 n P n1 a b d)
    rw [okK1, okK1, okK1] at E
    go_enter Tryz.func84, Tryz.ntmps84
    go_wp2_with (first | (go_at_call 103; refine (rreg_any _ _).mono ?_; rintro e w' ⟨rfl, rfl⟩) | (go_at_call 58; refine (rwithin_any _ _ _).mono ?_; rintro e w' ⟨rfl, rfl⟩))
    all_goals
      go_ret
      exact ⟨ret_bool (by rw [E.out]; simp [*]), hb.out⟩
  · have E := hide (shp3 5 1 1 1 _ shp_5 n P n1 a b d)
    rw [okK1, okK1, okK1] at E
    go_enter Tryz.func84, Tryz.ntmps84
    go_wp2_with (first | (go_at_call 103; refine (rreg_any _ _).mono ?_; rintro e w' ⟨rfl, rfl⟩) | (go_at_call 58; refine (rwithin_any _ _ _).mono ?_; rintro e w' ⟨rfl, rfl⟩))
    all_goals
      go_ret
      exact ⟨ret_bool (by rw [E.out]; simp [*]), hb.out⟩
  · have E := hide (shp3 6 1 1 1 _ shp_6 n P n1 a b d)
    rw [okK1, okK1, okK1] at E
    go_enter Tryz.func84, Tryz.ntmps84
    go_wp2_with (first | (go_at_call 103; refine (rreg_any _ _).mono ?_; rintro e w' ⟨rfl, rfl⟩) | (go_at_call 58; refine (rwithin_any _ _ _).mono ?_; rintro e w' ⟨rfl, rfl⟩))
    all_goals
      go_ret
      exact ⟨ret_bool (by rw [E.out]; simp [*]), hb.out⟩
  · have E := hide (shp3 7 1 1 1 _ shp_7 n P n1 a b d)
    rw [okK1, okK1, okK1] at E
    go_enter Tryz.func84, Tryz.ntmps84
    go_wp2_with (first | (go_at_call 103; refine (rreg_any _ _).mono ?_; rintro e w' ⟨rfl, rfl⟩) | (go_at_call 58; refine (rwithin_any _ _ _).mono ?_; rintro e w' ⟨rfl, rfl⟩))
    all_goals
      go_ret
      exact ⟨ret_bool (by rw [E.out]; simp [*]), hb.out⟩
  · have E := hide (shp3 8 1 1 1 _ shp_8 n P n1 a b d)
    rw [okK1, okK1, okK1] at E
    go_enter Tryz.func84, Tryz.ntmps84
    go_wp2_with (first | (go_at_call 103; refine (rreg_any _ _).mono ?_; rintro e w' ⟨rfl, rfl⟩) | (go_at_call 58; refine (rwithin_any _ _ _).mono ?_; rintro e w' ⟨rfl, rfl⟩))
    all_goals
      go_ret
      exact ⟨ret_bool (by rw [E.out]; simp [*]), hb.out⟩
  · have E := hide (shp3 9 1 1 1 _ shp_9 n P n1 a b d)
    rw [okK1, okK1, okK1] at E
    go_enter Tryz.func84, Tryz.ntmps84
    go_wp2_with (first | (go_at_call 103; refine (rreg_any _ _).mono ?_; rintro e w' ⟨rfl, rfl⟩) | (go_at_call 58; refine (rwithin_any _ _ _).mono ?_; rintro e w' ⟨rfl, rfl⟩))
    all_goals
      go_ret
      exact ⟨ret_bool (by rw [E.out]; simp [*]), hb.out⟩
  · have E := hide (shp3 10 1 1 1 _ shp_10 n P n1 a b d)
    rw [okK1, okK1, okK1] at E
    go_enter Tryz.func84, Tryz.ntmps84
    go_wp2_with (first | (go_at_call 103; refine (rreg_any _ _).mono ?_; rintro e w' ⟨rfl, rfl⟩) | (go_at_call 58; refine (rwithin_any _ _ _).mono ?_; rintro e w' ⟨rfl, rfl⟩))
    all_goals
      go_ret
      exact ⟨ret_bool (by rw [E.out]; simp [*]), hb.out⟩
  · have E := hide (shp3 11 1 1 1 _ shp_11 n P n1 a b d)
    rw [okK1, okK1, okK1] at E
    go_enter Tryz.func84, Tryz.ntmps84
    go_wp2_with (first | (go_at_call 103; refine (rreg_any _ _).mono ?_; rintro e w' ⟨rfl, rfl⟩) | (go_at_call 58; refine (rwithin_any _ _ _).mono ?_; rintro e w' ⟨rfl, rfl⟩))
    all_goals
      go_ret
      exact ⟨ret_bool (by rw [E.out]; simp [*]), hb.out⟩
  · have E := hide (shp3 12 1 1 0 _ shp_12 n P n1 a b d)
    rw [okK1, okK1, okK0] at E
    go_enter Tryz.func84, Tryz.ntmps84
    go_wp2_with (first | (go_at_call 103; refine (rreg_any _ _).mono ?_; rintro e w' ⟨rfl, rfl⟩) | (go_at_call 58; refine (rwithin_any _ _ _).mono ?_; rintro e w' ⟨rfl, rfl⟩))
    all_goals
      go_ret
      exact ⟨ret_bool (by rw [E.out]; simp [*]), hb.out⟩
  · have E := hide (shp3 13 1 0 0 _ shp_13 n P n1 a b d)
    rw [okK1, okK0, okK0] at E
    go_enter Tryz.func84, Tryz.ntmps84
    go_wp2_with (first | (go_at_call 103; refine (rreg_any _ _).mono ?_; rintro e w' ⟨rfl, rfl⟩) | (go_at_call 58; refine (rwithin_any _ _ _).mono ?_; rintro e w' ⟨rfl, rfl⟩))
    all_goals
      go_ret
      exact ⟨ret_bool (by rw [E.out]; simp [*]), hb.out⟩
  · have E := hide (shp3 14 1 0 0 _ shp_14 n P n1 a b d)
    rw [okK1, okK0, okK0] at E
    go_enter Tryz.func84, Tryz.ntmps84
    go_wp2_with (first | (go_at_call 103; refine (rreg_any _ _).mono ?_; rintro e w' ⟨rfl, rfl⟩) | (go_at_call 58; refine (rwithin_any _ _ _).mono ?_; rintro e w' ⟨rfl, rfl⟩))
    all_goals
      go_ret
      exact ⟨ret_bool (by rw [E.out]; simp [*]), hb.out⟩
  · have E := hide (shp3 15 1 2 0 _ shp_15 n P n1 a b d)
    rw [okK1, okK2, okK0] at E
    go_enter Tryz.func84, Tryz.ntmps84
    go_wp2_with (first | (go_at_call 103; refine (rreg_any _ _).mono ?_; rintro e w' ⟨rfl, rfl⟩) | (go_at_call 58; refine (rwithin_any _ _ _).mono ?_; rintro e w' ⟨rfl, rfl⟩))
    all_goals
      go_ret
      exact ⟨ret_bool (by rw [E.out]; simp [*]), hb.out⟩
  · have E := hide (shp3 16 2 1 0 _ shp_16 n P n1 a b d)
    rw [okK2, okK1, okK0] at E
    go_enter Tryz.func84, Tryz.ntmps84
    go_wp2_with (first | (go_at_call 103; refine (rreg_any _ _).mono ?_; rintro e w' ⟨rfl, rfl⟩) | (go_at_call 58; refine (rwithin_any _ _ _).mono ?_; rintro e w' ⟨rfl, rfl⟩))
    all_goals
      go_ret
      exact ⟨ret_bool (by rw [E.out]; simp [*]), hb.out⟩
  · have E := hide (shp3 17 2 2 0 _ shp_17 n P n1 a b d)
    rw [okK2, okK2, okK0] at E
    go_enter Tryz.func84, Tryz.ntmps84
    go_wp2_with (first | (go_at_call 103; refine (rreg_any _ _).mono ?_; rintro e w' ⟨rfl, rfl⟩) | (go_at_call 58; refine (rwithin_any _ _ _).mono ?_; rintro e w' ⟨rfl, rfl⟩))
    all_goals
      go_ret
      exact ⟨ret_bool (by rw [E.out]; simp [*]), hb.out⟩
  · have E := hide (shp3 18 4 1 0 _ shp_18 n P n1 a b d)
    rw [okK4, okK1, okK0] at E
    go_enter Tryz.func84, Tryz.ntmps84
    go_wp2_with (first | (go_at_call 103; refine (rreg_any _ _).mono ?_; rintro e w' ⟨rfl, rfl⟩) | (go_at_call 58; refine (rwithin_any _ _ _).mono ?_; rintro e w' ⟨rfl, rfl⟩))
    all_goals
      go_ret
      exact ⟨ret_bool (by rw [E.out]; simp [*]), hb.out⟩
  · have E := hide (shp3 19 1 5 0 _ shp_19 n P n1 a b d)
    rw [okK1, okK5, okK0] at E
    go_enter Tryz.func84, Tryz.ntmps84
    go_wp2_with (first | (go_at_call 103; refine (rreg_any _ _).mono ?_; rintro e w' ⟨rfl, rfl⟩) | (go_at_call 58; refine (rwithin_any _ _ _).mono ?_; rintro e w' ⟨rfl, rfl⟩))
    all_goals
      go_ret
      exact ⟨ret_bool (by rw [E.out]; simp [*]), hb.out⟩
  · have E := hide (shp3 20 6 0 0 _ shp_20 n P n1 a b d)
    rw [okK6, okK0, okK0] at E
    go_enter Tryz.func84, Tryz.ntmps84
    go_wp2_with (first | (go_at_call 103; refine (rreg_any _ _).mono ?_; rintro e w' ⟨rfl, rfl⟩) | (go_at_call 58; refine (rwithin_any _ _ _).mono ?_; rintro e w' ⟨rfl, rfl⟩))
    all_goals
      go_ret
      exact ⟨ret_bool (by rw [E.out]; simp [*]), hb.out⟩
  · have E := hide (shp3 21 1 6 0 _ shp_21 n P n1 a b d)
    rw [okK1, okK6, okK0] at E
    go_enter Tryz.func84, Tryz.ntmps84
    go_wp2_with (first | (go_at_call 103; refine (rreg_any _ _).mono ?_; rintro e w' ⟨rfl, rfl⟩) | (go_at_call 58; refine (rwithin_any _ _ _).mono ?_; rintro e w' ⟨rfl, rfl⟩))
    all_goals
      go_ret
      exact ⟨ret_bool (by rw [E.out]; simp [*]), hb.out⟩
  · have E := hide (shp3 22 3 0 0 _ shp_22 n P n1 a b d)
    rw [okK3, okK0, okK0] at E
    go_enter Tryz.func84, Tryz.ntmps84
    go_wp2_with (first | (go_at_call 103; refine (rreg_any _ _).mono ?_; rintro e w' ⟨rfl, rfl⟩) | (go_at_call 58; refine (rwithin_any _ _ _).mono ?_; rintro e w' ⟨rfl, rfl⟩))
    all_goals
      go_ret
      exact ⟨ret_bool (by rw [E.out]; simp [*]), hb.out⟩
  · have E := hide (shp3 23 0 0 0 _ shp_23 n P n1 a b d)
    rw [okK0, okK0, okK0] at E
    go_enter Tryz.func84, Tryz.ntmps84
    go_wp2_with (first | (go_at_call 103; refine (rreg_any _ _).mono ?_; rintro e w' ⟨rfl, rfl⟩) | (go_at_call 58; refine (rwithin_any _ _ _).mono ?_; rintro e w' ⟨rfl, rfl⟩))
    all_goals
      go_ret
      exact ⟨ret_bool (by rw [E.out]; simp [*]), hb.out⟩
  · have E := hide (shp3 24 0 0 0 _ shp_24 n P n1 a b d)
    rw [okK0, okK0, okK0] at E
    go_enter Tryz.func84, Tryz.ntmps84
    go_wp2_with (first | (go_at_call 103; refine (rreg_any _ _).mono ?_; rintro e w' ⟨rfl, rfl⟩) | (go_at_call 58; refine (rwithin_any _ _ _).mono ?_; rintro e w' ⟨rfl, rfl⟩))
    all_goals
      go_ret
      exact ⟨ret_bool (by rw [E.out]; simp [*]), hb.out⟩
end Go.Proofs.YtlhaendgdeflkaaGreatDoor
end
