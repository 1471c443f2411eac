/-
  The contracts of Size, Pair and High on both sides. Conditions: those of the types.
-/
import Derived.Test.YtjhlkfckpadooaaVbytem
import Derived.Test.YtjhlkfckpadooaaVleaf
namespace Go.Proofs.Ytjhlkfckpadooaa
open Go.RowKit

set_option maxHeartbeats 400000 in
theorem vsz_1 (w : World) : Calls Try.prog 11 #[.int .i64 1] w fun e w' => e = .returned (.bool true) ∧ w = w' := by
  go_enter Try.func11, Try.ntmps11
  go_wp2
  go_ret
  exact ⟨rfl, rfl⟩
set_option maxHeartbeats 400000 in
theorem vsz_2 (w : World) : Calls Try.prog 11 #[.int .i64 2] w fun e w' => e = .returned (.bool true) ∧ w = w' := by
  go_enter Try.func11, Try.ntmps11
  go_wp2
  go_ret
  exact ⟨rfl, rfl⟩
set_option maxHeartbeats 400000 in
theorem vsz_4 (w : World) : Calls Try.prog 11 #[.int .i64 4] w fun e w' => e = .returned (.bool true) ∧ w = w' := by
  go_enter Try.func11, Try.ntmps11
  go_wp2
  go_ret
  exact ⟨rfl, rfl⟩
set_option maxHeartbeats 400000 in
theorem vsz_8 (w : World) : Calls Try.prog 11 #[.int .i64 8] w fun e w' => e = .returned (.bool true) ∧ w = w' := by
  go_enter Try.func11, Try.ntmps11
  go_wp2
  go_ret
  exact ⟨rfl, rfl⟩
set_option maxHeartbeats 400000 in
theorem vsz_16 (w : World) : Calls Try.prog 11 #[.int .i64 16] w fun e w' => e = .returned (.bool true) ∧ w = w' := by
  go_enter Try.func11, Try.ntmps11
  go_wp2
  go_ret
  exact ⟨rfl, rfl⟩
set_option maxHeartbeats 400000 in
theorem vsz_none (n : Int) (w : World) (h : szB n = false) : Calls Try.prog 11 #[.int .i64 n] w fun e w' => e = .returned (.bool false) ∧ w = w' := by
  have hn := of_decide_eq_false h
  have o1 : (n == 1) = false := by rw [beq_eq_false_iff_ne]; omega
  have o2 : (n == 2) = false := by rw [beq_eq_false_iff_ne]; omega
  have o4 : (n == 4) = false := by rw [beq_eq_false_iff_ne]; omega
  have o8 : (n == 8) = false := by rw [beq_eq_false_iff_ne]; omega
  have o16 : (n == 16) = false := by rw [beq_eq_false_iff_ne]; omega
  clear hn h
  go_enter Try.func11, Try.ntmps11
  go_wp2
  go_ret
  exact ⟨rfl, rfl⟩
theorem vsz_any (n : Int) (w : World) : Calls Try.prog 11 #[.int .i64 n] w fun e w' => e = .returned (.bool (szB n)) ∧ w = w' := by
  by_cases h : szB n = true
  · rw [h]
    have hn := of_decide_eq_true h
    rcases hn with rfl | rfl | rfl | rfl | rfl
    · exact vsz_1 w
    · exact vsz_2 w
    · exact vsz_4 w
    · exact vsz_8 w
    · exact vsz_16 w
  · have h : szB n = false := by simpa using h
    rw [h]
    exact vsz_none n w h

set_option maxHeartbeats 400000 in
theorem rsz_1 (w : World) : Calls Try.prog 12 #[.int .i64 1] w fun e w' => e = .returned (.bool true) ∧ w = w' := by
  go_enter Try.func12, Try.ntmps12
  go_wp2
  go_ret
  exact ⟨rfl, rfl⟩
set_option maxHeartbeats 400000 in
theorem rsz_2 (w : World) : Calls Try.prog 12 #[.int .i64 2] w fun e w' => e = .returned (.bool true) ∧ w = w' := by
  go_enter Try.func12, Try.ntmps12
  go_wp2
  go_ret
  exact ⟨rfl, rfl⟩
set_option maxHeartbeats 400000 in
theorem rsz_4 (w : World) : Calls Try.prog 12 #[.int .i64 4] w fun e w' => e = .returned (.bool true) ∧ w = w' := by
  go_enter Try.func12, Try.ntmps12
  go_wp2
  go_ret
  exact ⟨rfl, rfl⟩
set_option maxHeartbeats 400000 in
theorem rsz_8 (w : World) : Calls Try.prog 12 #[.int .i64 8] w fun e w' => e = .returned (.bool true) ∧ w = w' := by
  go_enter Try.func12, Try.ntmps12
  go_wp2
  go_ret
  exact ⟨rfl, rfl⟩
set_option maxHeartbeats 400000 in
theorem rsz_16 (w : World) : Calls Try.prog 12 #[.int .i64 16] w fun e w' => e = .returned (.bool true) ∧ w = w' := by
  go_enter Try.func12, Try.ntmps12
  go_wp2
  go_ret
  exact ⟨rfl, rfl⟩
set_option maxHeartbeats 400000 in
theorem rsz_none (n : Int) (w : World) (h : szB n = false) : Calls Try.prog 12 #[.int .i64 n] w fun e w' => e = .returned (.bool false) ∧ w = w' := by
  have hn := of_decide_eq_false h
  have o1 : (n == 1) = false := by rw [beq_eq_false_iff_ne]; omega
  have o2 : (n == 2) = false := by rw [beq_eq_false_iff_ne]; omega
  have o4 : (n == 4) = false := by rw [beq_eq_false_iff_ne]; omega
  have o8 : (n == 8) = false := by rw [beq_eq_false_iff_ne]; omega
  have o16 : (n == 16) = false := by rw [beq_eq_false_iff_ne]; omega
  clear hn h
  go_enter Try.func12, Try.ntmps12
  go_wp2
  go_ret
  exact ⟨rfl, rfl⟩
theorem rsz_any (n : Int) (w : World) : Calls Try.prog 12 #[.int .i64 n] w fun e w' => e = .returned (.bool (szB n)) ∧ w = w' := by
  by_cases h : szB n = true
  · rw [h]
    have hn := of_decide_eq_true h
    rcases hn with rfl | rfl | rfl | rfl | rfl
    · exact rsz_1 w
    · exact rsz_2 w
    · exact rsz_4 w
    · exact rsz_8 w
    · exact rsz_16 w
  · have h : szB n = false := by simpa using h
    rw [h]
    exact rsz_none n w h

/-- The low words of two numbers; the high word of a number. -/
def pairV (X Y : Nat) : Nat := X % 18446744073709551616 + 18446744073709551616 * (Y % 18446744073709551616)
def highV (X : Nat) : Nat := X / 18446744073709551616 % 18446744073709551616
theorem pair_lo (X Y : Nat) : lo X = lo (pairV X Y) := by unfold lo pairV; omega
theorem pair_hi (X Y : Nat) : lo Y = hi (pairV X Y) := by unfold lo hi pairV; omega
theorem high_lo (X : Nat) : hi X = lo (highV X) := by unfold lo hi highV; omega
theorem high_hi (X : Nat) : hi (highV X) = 0 := by unfold hi highV; omega
theorem pair_high (X : Nat) (hX : X < two128) : pairV X (highV X) = X := by unfold pairV highV; unfold two128 at hX; omega

theorem pair_any (X Y : Nat) (w : World) : Calls Try.prog 20 #[vv X, vv Y] w fun e w' => e = .returned (vv (pairV X Y)) ∧ Below w.heap.size w w' := by
  have e1 := hide (pair_lo X Y)
  have e2 := hide (pair_hi X Y)
  obtain ⟨V, hV⟩ : ∃ V, V = pairV X Y := ⟨_, rfl⟩
  rw [← hV] at e1 e2 ⊢
  clear hV
  go_enter Try.func20, Try.ntmps20
  go_wp2
  rw [e1.out, e2.out]
  exact bodyPost_ret (v := vv V) (by simp [results, Try.results20, go_sem]) rfl ⟨rfl, below3 _ _ _ _⟩
theorem rpair_any (X Y : Nat) (w : World) : Calls Try.prog 21 #[vv X, vv Y] w fun e w' => e = .returned (vv (pairV X Y)) ∧ Below w.heap.size w w' := by
  have e1 := hide (pair_lo X Y)
  have e2 := hide (pair_hi X Y)
  obtain ⟨V, hV⟩ : ∃ V, V = pairV X Y := ⟨_, rfl⟩
  rw [← hV] at e1 e2 ⊢
  clear hV
  go_enter Try.func21, Try.ntmps21
  go_wp2
  rw [e1.out, e2.out]
  exact bodyPost_ret (v := vv V) (by simp [results, Try.results21, go_sem]) rfl ⟨rfl, below3 _ _ _ _⟩
theorem high_any (X : Nat) (w : World) : Calls Try.prog 22 #[vv X] w fun e w' => e = .returned (vv (highV X)) ∧ Below w.heap.size w w' := by
  have e1 := hide (high_lo X)
  have e2 := hide (high_hi X)
  obtain ⟨V, hV⟩ : ∃ V, V = highV X := ⟨_, rfl⟩
  rw [← hV] at e1 e2 ⊢
  clear hV
  go_enter Try.func22, Try.ntmps22
  go_wp2
  rw [e1.out]
  exact bodyPost_ret (v := vv V) (by simp [results, Try.results22, go_sem, e2.out]) rfl ⟨rfl, below2 _ _ _⟩
theorem rhigh_any (X : Nat) (w : World) : Calls Try.prog 23 #[vv X] w fun e w' => e = .returned (vv (highV X)) ∧ Below w.heap.size w w' := by
  have e1 := hide (high_lo X)
  have e2 := hide (high_hi X)
  obtain ⟨V, hV⟩ : ∃ V, V = highV X := ⟨_, rfl⟩
  rw [← hV] at e1 e2 ⊢
  clear hV
  go_enter Try.func23, Try.ntmps23
  go_wp2
  rw [e1.out]
  exact bodyPost_ret (v := vv V) (by simp [results, Try.results23, go_sem, e2.out]) rfl ⟨rfl, below2 _ _ _⟩
end Go.Proofs.Ytjhlkfckpadooaa
