import Derived.Test.YtipjeihfhnilcaaDoorMEpw
import Derived.Test.YtipjeihfhnilcaaDoorMKit
import Derived.Test.YtipjeihfhnilcaaDoorMVbits
import Derived.Test.YtipjeihfhnilcaaDoorMVleaf
set_option linter.unusedVariables false
set_option linter.unusedSimpArgs false
section
/-
  The contract of value.Size. Conditions: those of the types.
-/
namespace Go.Proofs.YtipjeihfhnilcaaDoor
open Go.RowKit

set_option maxHeartbeats 400000 in
theorem vsz_1 (w : World) : Calls Tryd.prog 63 #[.int .i64 1] w fun e w' => e = .returned (.bool true) ∧ w = w' := by
  go_enter Tryd.func63, Tryd.ntmps63
  go_wp2
  go_ret
  exact ⟨rfl, rfl⟩
set_option maxHeartbeats 400000 in
theorem vsz_2 (w : World) : Calls Tryd.prog 63 #[.int .i64 2] w fun e w' => e = .returned (.bool true) ∧ w = w' := by
  go_enter Tryd.func63, Tryd.ntmps63
  go_wp2
  go_ret
  exact ⟨rfl, rfl⟩
set_option maxHeartbeats 400000 in
theorem vsz_4 (w : World) : Calls Tryd.prog 63 #[.int .i64 4] w fun e w' => e = .returned (.bool true) ∧ w = w' := by
  go_enter Tryd.func63, Tryd.ntmps63
  go_wp2
  go_ret
  exact ⟨rfl, rfl⟩
set_option maxHeartbeats 400000 in
theorem vsz_8 (w : World) : Calls Tryd.prog 63 #[.int .i64 8] w fun e w' => e = .returned (.bool true) ∧ w = w' := by
  go_enter Tryd.func63, Tryd.ntmps63
  go_wp2
  go_ret
  exact ⟨rfl, rfl⟩
set_option maxHeartbeats 400000 in
theorem vsz_16 (w : World) : Calls Tryd.prog 63 #[.int .i64 16] w fun e w' => e = .returned (.bool true) ∧ w = w' := by
  go_enter Tryd.func63, Tryd.ntmps63
  go_wp2
  go_ret
  exact ⟨rfl, rfl⟩
set_option maxHeartbeats 400000 in
theorem vsz_none (n : Int) (w : World) (h : szB n = false) : Calls Tryd.prog 63 #[.int .i64 n] w fun e w' => e = .returned (.bool false) ∧ w = w' := by
  have hn := of_decide_eq_false h
  have o1 : (n == 1) = false := by rw [beq_eq_false_iff_ne]; omega
  have o2 : (n == 2) = false := by rw [beq_eq_false_iff_ne]; omega
  have o4 : (n == 4) = false := by rw [beq_eq_false_iff_ne]; omega
  have o8 : (n == 8) = false := by rw [beq_eq_false_iff_ne]; omega
  have o16 : (n == 16) = false := by rw [beq_eq_false_iff_ne]; omega
  clear hn h
  go_enter Tryd.func63, Tryd.ntmps63
  go_wp2
  go_ret
  exact ⟨rfl, rfl⟩
theorem vsz_any (n : Int) (w : World) : Calls Tryd.prog 63 #[.int .i64 n] w fun e w' => e = .returned (.bool (szB n)) ∧ w = w' := by
  by_cases h : szB n = true
  · rw [h]
    have hn := of_decide_eq_true h
    rcases hn with rfl | rfl | rfl | rfl | rfl
    · exact vsz_1 w
    · exact vsz_2 w
    · exact vsz_4 w
    · exact vsz_8 w
    · exact vsz_16 w
  · have h : szB n = false := by simpa using h
    rw [h]
    exact vsz_none n w h

end Go.Proofs.YtipjeihfhnilcaaDoor
end

section
/-
  The contracts of the program's Pair and High. Conditions: those of the types.
-/
namespace Go.Proofs.YtipjeihfhnilcaaDoor
open Go.RowKit

theorem pair_any (X Y : Nat) (w : World) : Calls Tryd.prog 54 #[vv X, vv Y] w fun e w' => e = .returned (vv (pairV X Y)) ∧ Below w.heap.size w w' := by
  have e1 := hide (pair_lo X Y)
  have e2 := hide (pair_hi X Y)
  obtain ⟨V, hV⟩ : ∃ V, V = pairV X Y := ⟨_, rfl⟩
  rw [← hV] at e1 e2 ⊢
  clear hV
  go_enter Tryd.func54, Tryd.ntmps54
  go_wp2
  rw [e1.out, e2.out]
  exact bodyPost_ret (v := vv V) (by simp [results, Tryd.results54, go_sem]) rfl ⟨rfl, below3 _ _ _ _⟩
theorem high_any (X : Nat) (w : World) : Calls Tryd.prog 55 #[vv X] w fun e w' => e = .returned (vv (highV X)) ∧ Below w.heap.size w w' := by
  have e1 := hide (high_lo X)
  have e2 := hide (high_hi X)
  obtain ⟨V, hV⟩ : ∃ V, V = highV X := ⟨_, rfl⟩
  rw [← hV] at e1 e2 ⊢
  clear hV
  go_enter Tryd.func55, Tryd.ntmps55
  go_wp2
  rw [e1.out]
  exact bodyPost_ret (v := vv V) (by simp [results, Tryd.results55, go_sem, e2.out]) rfl ⟨rfl, below2 _ _ _⟩
end Go.Proofs.YtipjeihfhnilcaaDoor
end
