import Derived.Test.YtjbgepjdohfhkaaMAlsv
set_option linter.unusedVariables false
set_option linter.unusedSimpArgs false
section
/-
  The contract of the law package's awake (chapter 16): it returns true. Conditions: none.
-/
namespace Go.Proofs.Ytjbgepjdohfhkaa
open Go.RowKit

def awC : List Ins := [⟨16, 0, 0, 0, 0⟩, ⟨15, 0, 0, 0, 0⟩, ⟨23, 0, 0, 0, 0⟩]
theorem awC_ok : LvOk awC 1 := by
  refine ⟨⟨by decide, fun k x hx ho => ?_, fun k x hx ho => ?_, fun k x hx ho => ?_⟩, fun k x hx hu => ?_, fun k x hx hu => ?_, by omega⟩
  all_goals
    rcases k with _ | _ | _ | k
    · injection hx with hx; subst hx; first | (exact absurd ho (by decide)) | (exact absurd hu (by decide)) | decide
    · injection hx with hx; subst hx; first | (exact absurd ho (by decide)) | (exact absurd hu (by decide)) | decide
    · injection hx with hx; subst hx; first | (exact absurd ho (by decide)) | (exact absurd hu (by decide)) | decide
    · cases hx
theorem awC_sol : solL awC 1 = [[0], [], []] := by kernel_rfl
set_option maxHeartbeats 1000000 in
theorem awake16_any (w : World) : Calls Try.prog 6 #[] w fun e w' => e = .returned (.bool true) ∧ Below w.heap.size w w' := by
  obtain ⟨W3, hW3⟩ : ∃ W, ((w.alloc (.cells #[.int .i64 8, .int .i64 8] 42)).alloc (.cells #[.int .i64 16, .int .i64 0, .int .i64 0, .int .i64 0, .int .u64 0, .int .i64 15, .int .i64 0, .int .i64 0, .int .i64 0, .int .u64 0, .int .i64 23, .int .i64 0, .int .i64 0, .int .i64 0, .int .u64 0] 45)).alloc (.cells #[.int .i64 0, .slice (some ⟨w.heap.size, 0, none⟩) 1 1, .slice (some ⟨w.heap.size + 1, 0, none⟩) 3 3] 27) = W := ⟨_, rfl⟩
  have HW3 := hide hW3
  have R1 := hide (show Row W3 (w.heap.size + 1) 45 (icells awC) by rw [← hW3]; exact ((Row.new _ _ (icells awC)).at_ (by simp)).alloc _)
  have F3 := hide (show Row W3 (w.heap.size + 1 + 1) 27 [.int .i64 0, .slice (some ⟨w.heap.size, 0, none⟩) 1 1, .slice (some ⟨w.heap.size + 1, 0, none⟩) 3 3] by rw [← hW3]; exact (Row.new _ _ _).at_ (by simp))
  have B1 := hide (show Below w.heap.size w W3 by rw [← hW3]; exact below3 w _ _ _)
  have HC := hide (show CdAt W3 (some ⟨w.heap.size + 1, 0, none⟩) 3 awC from ⟨rfl, by decide, fun k u hu => ⟨w.heap.size + 1, 0, rfl, R1.out.lt, by rw [Nat.zero_add]; exact R1.out.cell hu⟩⟩)
  have cc := lsolve_any (P := 0) (A1 := some ⟨w.heap.size, 0, none⟩) (n1 := 1) (c1 := 1) (c2 := 3) W3 HC (hide awC_ok)
  rw [awC_sol] at cc
  have q0 := F3.out.cell (k := 0) rfl
  have q1 := F3.out.cell (k := 1) rfl
  have q2 := F3.out.cell (k := 2) rfl
  clear hW3
  go_enter Try.func6, Try.ntmps6
  go_upto_region 2 with (fail)
  rw [HW3.out]
  go_wp2_with fail
  refine cc.mono ?_
  rintro e w4 ⟨g, c, vs, sp, rfl, ho, hb4⟩
  obtain ⟨A0, c0, hv0, -, -, -, -⟩ := ho.vat (i := 0) (zs := [0]) rfl
  obtain ⟨W5, hW5⟩ : ∃ W, w4.alloc (.cells #[.slice (some ⟨g, 0, none⟩) 3 c] 30) = W := ⟨_, rfl⟩
  have hb5 : Below w4.heap.size w4 W5 := by rw [← hW5]; exact below1 _ _
  have X5 := hide (show Row W5 w4.heap.size 30 [.slice (some ⟨g, 0, none⟩) 3 c] by rw [← hW5]; exact Row.new w4 _ _)
  have z0 : W5.cell? ⟨g, 0, none⟩ = some (.slice A0 1 c0) := (ho.below hb5).row.cell (by rw [List.getElem?_append_left (List.getElem?_eq_some_iff.1 hv0).1]; exact hv0)
  have B5 := hide (below_call (below_call B1.out hb4) hb5)
  have HW5 := hide hW5
  obtain ⟨X, hX⟩ : ∃ X, w4.heap.size = X := ⟨_, rfl⟩
  rw [hX] at X5
  have HX := hide hX
  clear cc ho hb4 hb5 hW5 hX R1 F3 HC HW3 q0 q1 q2 hv0
  go_upto_region 3 with (fail)
  try rw [HW5.out]
  try rw [HX.out]
  have x0 := X5.out.cell (k := 0) rfl
  go_wp2_with fail
  go_ret
  exact ⟨rfl, B5.out⟩
end Go.Proofs.Ytjbgepjdohfhkaa
end
