import Derived.Test.YtlkcjjalkdlicaaDoorMVszo
set_option linter.unusedVariables false
set_option linter.unusedSimpArgs false
section
/-
  The contract of value.Truncate: the lowest bytes, or 0. Conditions: those of the types.
-/
namespace Go.Proofs.YtlkcjjalkdlicaaDoor
open Go.RowKit

set_option maxRecDepth 100000 in
set_option maxHeartbeats 400000 in
theorem trunc_1 (X : Nat) (w : World) : Calls Tryd.prog 110 #[vv X, .int .i64 1] w fun e w' => e = .returned (vv (X % 2 ^ 8)) ∧ Below w.heap.size w w' := by
  obtain ⟨l0, l1⟩ := lo_b X
  obtain ⟨e1, e2⟩ := mask_lo X 8 (by omega) 255 (by decide)
  have E1 := hide e1
  have E2 := hide e2
  clear e1 e2
  obtain ⟨V, hV⟩ : ∃ V, V = X % 2 ^ 8 := ⟨_, rfl⟩
  rw [← hV] at E1 E2 ⊢
  clear hV
  go_enter Tryd.func110, Tryd.ntmps110
  go_wp2_with fail
  refine (vsz_1 _).mono ?_
  rintro e w' ⟨rfl, rfl⟩
  go_wp2_with fail
  rw [E1.out]
  exact bodyPost_ret (v := vv V) (by simp [results, Tryd.results110, go_sem, E2.out]) rfl ⟨rfl, below2 _ _ _⟩
set_option maxRecDepth 100000 in
set_option maxHeartbeats 400000 in
theorem trunc_2 (X : Nat) (w : World) : Calls Tryd.prog 110 #[vv X, .int .i64 2] w fun e w' => e = .returned (vv (X % 2 ^ 16)) ∧ Below w.heap.size w w' := by
  obtain ⟨l0, l1⟩ := lo_b X
  obtain ⟨e1, e2⟩ := mask_lo X 16 (by omega) 65535 (by decide)
  have E1 := hide e1
  have E2 := hide e2
  clear e1 e2
  obtain ⟨V, hV⟩ : ∃ V, V = X % 2 ^ 16 := ⟨_, rfl⟩
  rw [← hV] at E1 E2 ⊢
  clear hV
  go_enter Tryd.func110, Tryd.ntmps110
  go_wp2_with fail
  refine (vsz_2 _).mono ?_
  rintro e w' ⟨rfl, rfl⟩
  go_wp2_with fail
  rw [E1.out]
  exact bodyPost_ret (v := vv V) (by simp [results, Tryd.results110, go_sem, E2.out]) rfl ⟨rfl, below2 _ _ _⟩
set_option maxRecDepth 100000 in
set_option maxHeartbeats 400000 in
theorem trunc_4 (X : Nat) (w : World) : Calls Tryd.prog 110 #[vv X, .int .i64 4] w fun e w' => e = .returned (vv (X % 2 ^ 32)) ∧ Below w.heap.size w w' := by
  obtain ⟨l0, l1⟩ := lo_b X
  obtain ⟨e1, e2⟩ := mask_lo X 32 (by omega) 4294967295 (by decide)
  have E1 := hide e1
  have E2 := hide e2
  clear e1 e2
  obtain ⟨V, hV⟩ : ∃ V, V = X % 2 ^ 32 := ⟨_, rfl⟩
  rw [← hV] at E1 E2 ⊢
  clear hV
  go_enter Tryd.func110, Tryd.ntmps110
  go_wp2_with fail
  refine (vsz_4 _).mono ?_
  rintro e w' ⟨rfl, rfl⟩
  go_wp2_with fail
  rw [E1.out]
  exact bodyPost_ret (v := vv V) (by simp [results, Tryd.results110, go_sem, E2.out]) rfl ⟨rfl, below2 _ _ _⟩
set_option maxRecDepth 100000 in
set_option maxHeartbeats 400000 in
theorem trunc_8 (X : Nat) (w : World) : Calls Tryd.prog 110 #[vv X, .int .i64 8] w fun e w' => e = .returned (vv (X % 2 ^ 64)) ∧ Below w.heap.size w w' := by
  obtain ⟨l0, l1⟩ := lo_b X
  obtain ⟨e1, e2⟩ := mask_lo X 64 (by omega) (IntKind.u64.wrap (IntKind.u64.wrap 18446744073709551616 - 1)) (by decide)
  have E1 := hide e1
  have E2 := hide e2
  clear e1 e2
  obtain ⟨V, hV⟩ : ∃ V, V = X % 2 ^ 64 := ⟨_, rfl⟩
  rw [← hV] at E1 E2 ⊢
  clear hV
  go_enter Tryd.func110, Tryd.ntmps110
  go_wp2_with fail
  refine (vsz_8 _).mono ?_
  rintro e w' ⟨rfl, rfl⟩
  go_wp2_with fail
  rw [E1.out]
  exact bodyPost_ret (v := vv V) (by simp [results, Tryd.results110, go_sem, E2.out]) rfl ⟨rfl, below2 _ _ _⟩
set_option maxRecDepth 100000 in
set_option maxHeartbeats 400000 in
theorem trunc_16b (X : Nat) (w : World) : Calls Tryd.prog 110 #[vv X, .int .i64 16] w fun e w' => e = .returned (vv X) ∧ Below w.heap.size w w' := by
  go_enter Tryd.func110, Tryd.ntmps110
  go_wp2_with fail
  refine (vsz_16 _).mono ?_
  rintro e w' ⟨rfl, rfl⟩
  go_wp2_with fail
  exact bodyPost_ret (v := vv X) (by simp [results, Tryd.results110, go_sem]) rfl ⟨rfl, below2 _ _ _⟩
set_option maxRecDepth 100000 in
set_option maxHeartbeats 400000 in
theorem trunc_none (X : Nat) (n : Int) (w : World) (h : szB n = false) : Calls Tryd.prog 110 #[vv X, .int .i64 n] w fun e w' => e = .returned (vv 0) ∧ Below w.heap.size w w' := by
  go_enter Tryd.func110, Tryd.ntmps110
  go_wp2_with fail
  refine (vsz_any n _).mono ?_
  rw [h]
  rintro e w' ⟨rfl, rfl⟩
  go_wp2_with fail
  exact bodyPost_ret (v := vv 0) (by simp [results, Tryd.results110, go_sem, vv_zero]) rfl ⟨rfl, below2 _ _ _⟩

theorem trunc_any (X : Nat) (n : Int) (w : World) (hX : X < two128) : Calls Tryd.prog 110 #[vv X, .int .i64 n] w fun e w' => e = .returned (vv (truncV X n)) ∧ Below w.heap.size w w' := by
  by_cases h : szB n = true
  · have hn := of_decide_eq_true h
    rcases hn with rfl | rfl | rfl | rfl | rfl
    · exact trunc_1 X w
    · exact trunc_2 X w
    · exact trunc_4 X w
    · exact trunc_8 X w
    · have e : truncV X 16 = X := trunc_16 X hX
      rw [e]; exact trunc_16b X w
  · have h : szB n = false := by simpa using h
    have e : truncV X n = 0 := by unfold truncV; rw [szN_no h]; simp [Nat.mod_one]
    rw [e]; exact trunc_none X n w h
end Go.Proofs.YtlkcjjalkdlicaaDoor
end
