import Derived.Test.YtipjeihfhnilcaaDoorMVquot
import Derived.Test.YtipjeihfhnilcaaDoorMVbits
import Derived.Outline
set_option linter.unusedVariables false
set_option linter.unusedSimpArgs false
section
/-
  The contract of value.Apply: the result of every operation on any values, and whether there is one. Conditions: those of the types.
-/
namespace Go.Proofs.YtipjeihfhnilcaaDoor
open Go.RowKit

set_option maxRecDepth 100000 in
set_option maxHeartbeats 1000000 in
theorem apply_2 (X Y : Nat) (w : World) (hX : X < two128) (hY : Y < two128) : Calls Tryd.prog 64 #[.int .i64 2, vv X, vv Y] w fun e w' => e = .returned (.tuple #[vv (X + Y), .bool true]) ∧ Below w.heap.size w w' := by
  go_enter Tryd.func64, Tryd.ntmps64
  go_wp2_with fail
  refine (sum_any X Y _ ).mono ?_
  rintro e w1 ⟨rfl, hb1⟩
  have bx := ((Box.new w X).alloc _).alloc _ |>.call hb1
  have by_ := ((Box.new _ Y).at_ (show _ = w.heap.size + 1 by simp)).alloc _ |>.call hb1
  have br := ((Box.new _ 0).at_ (show _ = w.heap.size + 1 + 1 by simp)).call hb1
  have hb := below_call (below3 w _ _ _) hb1
  clear hb1
  obtain ⟨r0, r1, rz0, rz1⟩ := br.facts
  go_wp2_with fail
  clear r0 r1 rz0 rz1
  have bx := bx.far2 (g' := w.heap.size + 1 + 1) (by omega) (.int .u64 (lo ((X + Y)))) (.int .u64 (hi ((X + Y))))
  have by_ := by_.far2 (g' := w.heap.size + 1 + 1) (by omega) (.int .u64 (lo ((X + Y)))) (.int .u64 (hi ((X + Y))))
  have br := br.set_ ((X + Y))
  have hb := below_set (g := w.heap.size + 1 + 1) hb (by omega) (.int .u64 (lo ((X + Y)))) (.int .u64 (hi ((X + Y))))
  obtain ⟨W1, hW1⟩ : ∃ W, W = (w1.setCell ⟨w.heap.size + 1 + 1, 0, none⟩ (.int .u64 (lo ((X + Y))))).setCell ⟨w.heap.size + 1 + 1, 1, none⟩ (.int .u64 (hi ((X + Y)))) := ⟨_, rfl⟩
  rw [← hW1] at bx by_ br hb ⊢
  clear hW1
  obtain ⟨r0, r1, rz0, rz1⟩ := br.facts
  exact bodyPost_ret (v := .tuple #[vv (X + Y), .bool true]) (by simp [results, Tryd.results64, go_sem, r0, r1]) rfl ⟨rfl, hb⟩

set_option maxRecDepth 100000 in
set_option maxHeartbeats 1000000 in
theorem apply_3 (X Y : Nat) (w : World) (hX : X < two128) (hY : Y < two128) : Calls Tryd.prog 64 #[.int .i64 3, vv X, vv Y] w fun e w' => e = .returned (.tuple #[vv (X + two128 - Y), .bool true]) ∧ Below w.heap.size w w' := by
  go_enter Tryd.func64, Tryd.ntmps64
  go_wp2_with fail
  refine (diff_any X Y _ hY).mono ?_
  rintro e w1 ⟨rfl, hb1⟩
  have bx := ((Box.new w X).alloc _).alloc _ |>.call hb1
  have by_ := ((Box.new _ Y).at_ (show _ = w.heap.size + 1 by simp)).alloc _ |>.call hb1
  have br := ((Box.new _ 0).at_ (show _ = w.heap.size + 1 + 1 by simp)).call hb1
  have hb := below_call (below3 w _ _ _) hb1
  clear hb1
  obtain ⟨r0, r1, rz0, rz1⟩ := br.facts
  go_wp2_with fail
  clear r0 r1 rz0 rz1
  have bx := bx.far2 (g' := w.heap.size + 1 + 1) (by omega) (.int .u64 (lo ((X + two128 - Y)))) (.int .u64 (hi ((X + two128 - Y))))
  have by_ := by_.far2 (g' := w.heap.size + 1 + 1) (by omega) (.int .u64 (lo ((X + two128 - Y)))) (.int .u64 (hi ((X + two128 - Y))))
  have br := br.set_ ((X + two128 - Y))
  have hb := below_set (g := w.heap.size + 1 + 1) hb (by omega) (.int .u64 (lo ((X + two128 - Y)))) (.int .u64 (hi ((X + two128 - Y))))
  obtain ⟨W1, hW1⟩ : ∃ W, W = (w1.setCell ⟨w.heap.size + 1 + 1, 0, none⟩ (.int .u64 (lo ((X + two128 - Y))))).setCell ⟨w.heap.size + 1 + 1, 1, none⟩ (.int .u64 (hi ((X + two128 - Y)))) := ⟨_, rfl⟩
  rw [← hW1] at bx by_ br hb ⊢
  clear hW1
  obtain ⟨r0, r1, rz0, rz1⟩ := br.facts
  exact bodyPost_ret (v := .tuple #[vv (X + two128 - Y), .bool true]) (by simp [results, Tryd.results64, go_sem, r0, r1]) rfl ⟨rfl, hb⟩

set_option maxRecDepth 100000 in
set_option maxHeartbeats 1000000 in
theorem apply_4 (X Y : Nat) (w : World) (hX : X < two128) (hY : Y < two128) : Calls Tryd.prog 64 #[.int .i64 4, vv X, vv Y] w fun e w' => e = .returned (.tuple #[vv (X * Y), .bool true]) ∧ Below w.heap.size w w' := by
  go_enter Tryd.func64, Tryd.ntmps64
  go_wp2_with fail
  refine (product_any X Y _ hX hY).mono ?_
  rintro e w1 ⟨rfl, hb1⟩
  have bx := ((Box.new w X).alloc _).alloc _ |>.call hb1
  have by_ := ((Box.new _ Y).at_ (show _ = w.heap.size + 1 by simp)).alloc _ |>.call hb1
  have br := ((Box.new _ 0).at_ (show _ = w.heap.size + 1 + 1 by simp)).call hb1
  have hb := below_call (below3 w _ _ _) hb1
  clear hb1
  obtain ⟨r0, r1, rz0, rz1⟩ := br.facts
  go_wp2_with fail
  clear r0 r1 rz0 rz1
  have bx := bx.far2 (g' := w.heap.size + 1 + 1) (by omega) (.int .u64 (lo ((X * Y)))) (.int .u64 (hi ((X * Y))))
  have by_ := by_.far2 (g' := w.heap.size + 1 + 1) (by omega) (.int .u64 (lo ((X * Y)))) (.int .u64 (hi ((X * Y))))
  have br := br.set_ ((X * Y))
  have hb := below_set (g := w.heap.size + 1 + 1) hb (by omega) (.int .u64 (lo ((X * Y)))) (.int .u64 (hi ((X * Y))))
  obtain ⟨W1, hW1⟩ : ∃ W, W = (w1.setCell ⟨w.heap.size + 1 + 1, 0, none⟩ (.int .u64 (lo ((X * Y))))).setCell ⟨w.heap.size + 1 + 1, 1, none⟩ (.int .u64 (hi ((X * Y)))) := ⟨_, rfl⟩
  rw [← hW1] at bx by_ br hb ⊢
  clear hW1
  obtain ⟨r0, r1, rz0, rz1⟩ := br.facts
  exact bodyPost_ret (v := .tuple #[vv (X * Y), .bool true]) (by simp [results, Tryd.results64, go_sem, r0, r1]) rfl ⟨rfl, hb⟩

set_option maxRecDepth 100000 in
set_option maxHeartbeats 1000000 in
theorem apply_5 (X Y : Nat) (w : World) (hX : X < two128) (hY : Y < two128) (h0 : 0 < Y) : Calls Tryd.prog 64 #[.int .i64 5, vv X, vv Y] w fun e w' => e = .returned (.tuple #[vv (X / Y), .bool true]) ∧ Below w.heap.size w w' := by
  have hz : ∀ w, (binOp .eql 33 (.agg #[.int .u64 (lo Y), .int .u64 (hi Y)]) (.agg #[.int .u64 0, .int .u64 0])).run Tryd.prog w = .ok (.bool false) w := fun w => by rw [run_eq_zero Y w hY, decide_eq_false (show ¬ Y = 0 by omega)]
  go_enter Tryd.func64, Tryd.ntmps64
  go_wp2_with fail
  refine (quotient_any X Y _ hX hY h0).mono ?_
  rintro e w1 ⟨rfl, hb1⟩
  have bx := ((Box.new w X).alloc _).alloc _ |>.call hb1
  have by_ := ((Box.new _ Y).at_ (show _ = w.heap.size + 1 by simp)).alloc _ |>.call hb1
  have br := ((Box.new _ 0).at_ (show _ = w.heap.size + 1 + 1 by simp)).call hb1
  have hb := below_call (below3 w _ _ _) hb1
  clear hb1
  obtain ⟨r0, r1, rz0, rz1⟩ := br.facts
  go_wp2_with fail
  clear r0 r1 rz0 rz1
  have bx := bx.far2 (g' := w.heap.size + 1 + 1) (by omega) (.int .u64 (lo ((X / Y)))) (.int .u64 (hi ((X / Y))))
  have by_ := by_.far2 (g' := w.heap.size + 1 + 1) (by omega) (.int .u64 (lo ((X / Y)))) (.int .u64 (hi ((X / Y))))
  have br := br.set_ ((X / Y))
  have hb := below_set (g := w.heap.size + 1 + 1) hb (by omega) (.int .u64 (lo ((X / Y)))) (.int .u64 (hi ((X / Y))))
  obtain ⟨W1, hW1⟩ : ∃ W, W = (w1.setCell ⟨w.heap.size + 1 + 1, 0, none⟩ (.int .u64 (lo ((X / Y))))).setCell ⟨w.heap.size + 1 + 1, 1, none⟩ (.int .u64 (hi ((X / Y)))) := ⟨_, rfl⟩
  rw [← hW1] at bx by_ br hb ⊢
  clear hW1
  obtain ⟨r0, r1, rz0, rz1⟩ := br.facts
  exact bodyPost_ret (v := .tuple #[vv (X / Y), .bool true]) (by simp [results, Tryd.results64, go_sem, r0, r1]) rfl ⟨rfl, hb⟩

set_option maxRecDepth 100000 in
set_option maxHeartbeats 1000000 in
theorem apply_5z (X Y : Nat) (w : World) (hX : X < two128) (hY : Y < two128) (h0 : Y = 0) : Calls Tryd.prog 64 #[.int .i64 5, vv X, vv Y] w fun e w' => e = .returned (.tuple #[vv 0, .bool false]) ∧ Below w.heap.size w w' := by
  have hz : ∀ w, (binOp .eql 33 (.agg #[.int .u64 (lo Y), .int .u64 (hi Y)]) (.agg #[.int .u64 0, .int .u64 0])).run Tryd.prog w = .ok (.bool true) w := fun w => by rw [run_eq_zero Y w hY, decide_eq_true (show Y = 0 by omega)]
  go_enter Tryd.func64, Tryd.ntmps64
  go_wp2_with fail
  exact bodyPost_ret (v := .tuple #[vv 0, .bool false]) (by simp [results, Tryd.results64, go_sem, vv_zero]) rfl ⟨rfl, below3 _ _ _ _⟩

set_option maxRecDepth 100000 in
set_option maxHeartbeats 1000000 in
theorem apply_6 (X Y : Nat) (w : World) (hX : X < two128) (hY : Y < two128) : Calls Tryd.prog 64 #[.int .i64 6, vv X, vv Y] w fun e w' => e = .returned (.tuple #[vv (X &&& Y), .bool true]) ∧ Below w.heap.size w w' := by
  obtain ⟨l0, l1⟩ := lo_b X
  obtain ⟨h0, h1⟩ := hi_b X
  obtain ⟨m0, m1⟩ := lo_b Y
  obtain ⟨k0, k1⟩ := hi_b Y
  go_enter Tryd.func64, Tryd.ntmps64
  go_wp2_with fail
  rw [and_lo, and_hi]
  exact bodyPost_ret (v := .tuple #[vv (X &&& Y), .bool true]) (by simp [results, Tryd.results64, go_sem]) rfl ⟨rfl, below3 _ _ _ _⟩

set_option maxRecDepth 100000 in
set_option maxHeartbeats 1000000 in
theorem apply_7 (X Y : Nat) (w : World) (hX : X < two128) (hY : Y < two128) : Calls Tryd.prog 64 #[.int .i64 7, vv X, vv Y] w fun e w' => e = .returned (.tuple #[vv (X ||| Y), .bool true]) ∧ Below w.heap.size w w' := by
  obtain ⟨l0, l1⟩ := lo_b X
  obtain ⟨h0, h1⟩ := hi_b X
  obtain ⟨m0, m1⟩ := lo_b Y
  obtain ⟨k0, k1⟩ := hi_b Y
  go_enter Tryd.func64, Tryd.ntmps64
  go_wp2_with fail
  rw [or_lo, or_hi]
  exact bodyPost_ret (v := .tuple #[vv (X ||| Y), .bool true]) (by simp [results, Tryd.results64, go_sem]) rfl ⟨rfl, below3 _ _ _ _⟩

set_option maxRecDepth 100000 in
set_option maxHeartbeats 1000000 in
theorem apply_8 (X Y : Nat) (w : World) (hX : X < two128) (hY : Y < two128) : Calls Tryd.prog 64 #[.int .i64 8, vv X, vv Y] w fun e w' => e = .returned (.tuple #[vv (X ^^^ Y), .bool true]) ∧ Below w.heap.size w w' := by
  obtain ⟨l0, l1⟩ := lo_b X
  obtain ⟨h0, h1⟩ := hi_b X
  obtain ⟨m0, m1⟩ := lo_b Y
  obtain ⟨k0, k1⟩ := hi_b Y
  go_enter Tryd.func64, Tryd.ntmps64
  go_wp2_with fail
  rw [xor_lo, xor_hi]
  exact bodyPost_ret (v := .tuple #[vv (X ^^^ Y), .bool true]) (by simp [results, Tryd.results64, go_sem]) rfl ⟨rfl, below3 _ _ _ _⟩

set_option maxRecDepth 100000 in
set_option maxHeartbeats 1000000 in
theorem apply_9 (X Y : Nat) (w : World) (hX : X < two128) (hY : Y < two128) : Calls Tryd.prog 64 #[.int .i64 9, vv X, vv Y] w fun e w' => e = .returned (.tuple #[vv (bn (decide (X < Y))), .bool true]) ∧ Below w.heap.size w w' := by
  go_enter Tryd.func64, Tryd.ntmps64
  go_wp2_with fail
  refine (less_any X Y _ hX hY).mono ?_
  rintro e w1 ⟨rfl, hb1⟩
  have bx := ((Box.new w X).alloc _).alloc _ |>.call hb1
  have by_ := ((Box.new _ Y).at_ (show _ = w.heap.size + 1 by simp)).alloc _ |>.call hb1
  have br := ((Box.new _ 0).at_ (show _ = w.heap.size + 1 + 1 by simp)).call hb1
  have hb := below_call (below3 w _ _ _) hb1
  clear hb1
  obtain ⟨b, eb⟩ : ∃ b, b = decide (X < Y) := ⟨_, rfl⟩
  rw [← eb]
  have Eb := hide eb
  clear eb
  go_wp2_with fail
  refine (truth_any b _).mono ?_
  rintro e w2 ⟨rfl, hb1⟩
  have bx := bx.call hb1
  have by_ := by_.call hb1
  have br := br.call hb1
  have hb := below_call hb hb1
  clear hb1
  obtain ⟨r0, r1, rz0, rz1⟩ := br.facts
  go_wp2_with fail
  clear r0 r1 rz0 rz1
  have bx := bx.far2 (g' := w.heap.size + 1 + 1) (by omega) (.int .u64 (lo ((bn b)))) (.int .u64 (hi ((bn b))))
  have by_ := by_.far2 (g' := w.heap.size + 1 + 1) (by omega) (.int .u64 (lo ((bn b)))) (.int .u64 (hi ((bn b))))
  have br := br.set_ ((bn b))
  have hb := below_set (g := w.heap.size + 1 + 1) hb (by omega) (.int .u64 (lo ((bn b)))) (.int .u64 (hi ((bn b))))
  obtain ⟨W1, hW1⟩ : ∃ W, W = (w2.setCell ⟨w.heap.size + 1 + 1, 0, none⟩ (.int .u64 (lo ((bn b))))).setCell ⟨w.heap.size + 1 + 1, 1, none⟩ (.int .u64 (hi ((bn b)))) := ⟨_, rfl⟩
  rw [← hW1] at bx by_ br hb ⊢
  clear hW1
  obtain ⟨r0, r1, rz0, rz1⟩ := br.facts
  exact bodyPost_ret (v := .tuple #[vv (bn b), .bool true]) (by simp [results, Tryd.results64, go_sem, r0, r1]) rfl ⟨by rw [← Eb.out], hb⟩

set_option maxRecDepth 100000 in
set_option maxHeartbeats 1000000 in
theorem apply_10 (X Y : Nat) (w : World) (hX : X < two128) (hY : Y < two128) : Calls Tryd.prog 64 #[.int .i64 10, vv X, vv Y] w fun e w' => e = .returned (.tuple #[vv (bn (decide (X = Y))), .bool true]) ∧ Below w.heap.size w w' := by
  have hz := fun w => run_eq_vv X Y w hX hY
  go_enter Tryd.func64, Tryd.ntmps64
  go_wp2_with fail
  clear hz
  obtain ⟨b, eb⟩ : ∃ b, b = decide (X = Y) := ⟨_, rfl⟩
  rw [← eb]
  have Eb := hide eb
  clear eb
  refine (truth_any b _).mono ?_
  rintro e w1 ⟨rfl, hb1⟩
  have bx := ((Box.new w X).alloc _).alloc _ |>.call hb1
  have by_ := ((Box.new _ Y).at_ (show _ = w.heap.size + 1 by simp)).alloc _ |>.call hb1
  have br := ((Box.new _ 0).at_ (show _ = w.heap.size + 1 + 1 by simp)).call hb1
  have hb := below_call (below3 w _ _ _) hb1
  clear hb1
  obtain ⟨r0, r1, rz0, rz1⟩ := br.facts
  go_wp2_with fail
  clear r0 r1 rz0 rz1
  have bx := bx.far2 (g' := w.heap.size + 1 + 1) (by omega) (.int .u64 (lo ((bn b)))) (.int .u64 (hi ((bn b))))
  have by_ := by_.far2 (g' := w.heap.size + 1 + 1) (by omega) (.int .u64 (lo ((bn b)))) (.int .u64 (hi ((bn b))))
  have br := br.set_ ((bn b))
  have hb := below_set (g := w.heap.size + 1 + 1) hb (by omega) (.int .u64 (lo ((bn b)))) (.int .u64 (hi ((bn b))))
  obtain ⟨W1, hW1⟩ : ∃ W, W = (w1.setCell ⟨w.heap.size + 1 + 1, 0, none⟩ (.int .u64 (lo ((bn b))))).setCell ⟨w.heap.size + 1 + 1, 1, none⟩ (.int .u64 (hi ((bn b)))) := ⟨_, rfl⟩
  rw [← hW1] at bx by_ br hb ⊢
  clear hW1
  obtain ⟨r0, r1, rz0, rz1⟩ := br.facts
  exact bodyPost_ret (v := .tuple #[vv (bn b), .bool true]) (by simp [results, Tryd.results64, go_sem, r0, r1]) rfl ⟨by rw [← Eb.out], hb⟩

set_option maxRecDepth 100000 in
set_option maxHeartbeats 1000000 in
theorem apply_none (X Y : Nat) (w : World) (hX : X < two128) (hY : Y < two128) (op : Int) (h2 : ¬ (2 ≤ op ∧ op ≤ 10)) : Calls Tryd.prog 64 #[.int .i64 op, vv X, vv Y] w fun e w' => e = .returned (.tuple #[vv 0, .bool false]) ∧ Below w.heap.size w w' := by
  have o2 : (op == 2) = false := by rw [beq_eq_false_iff_ne]; omega
  have o3 : (op == 3) = false := by rw [beq_eq_false_iff_ne]; omega
  have o4 : (op == 4) = false := by rw [beq_eq_false_iff_ne]; omega
  have o5 : (op == 5) = false := by rw [beq_eq_false_iff_ne]; omega
  have o6 : (op == 6) = false := by rw [beq_eq_false_iff_ne]; omega
  have o7 : (op == 7) = false := by rw [beq_eq_false_iff_ne]; omega
  have o8 : (op == 8) = false := by rw [beq_eq_false_iff_ne]; omega
  have o9 : (op == 9) = false := by rw [beq_eq_false_iff_ne]; omega
  have o10 : (op == 10) = false := by rw [beq_eq_false_iff_ne]; omega
  clear h2
  go_enter Tryd.func64, Tryd.ntmps64
  go_wp2_with fail
  exact bodyPost_ret (v := .tuple #[vv 0, .bool false]) (by simp [results, Tryd.results64, go_sem, vv_zero]) rfl ⟨rfl, below3 _ _ _ _⟩

theorem apply_any (op : Int) (X Y : Nat) (w : World) (hX : X < two128) (hY : Y < two128) : Calls Tryd.prog 64 #[.int .i64 op, vv X, vv Y] w fun e w' => e = .returned (.tuple #[vv (opRes op X Y), .bool (opOk op Y)]) ∧ Below w.heap.size w w' := by
  have key : ∀ (V : Nat) (b : Bool), V % two128 = opRes op X Y % two128 → b = opOk op Y → (Calls Tryd.prog 64 #[.int .i64 op, vv X, vv Y] w fun e w' => e = .returned (.tuple #[vv V, .bool b]) ∧ Below w.heap.size w w') →
      Calls Tryd.prog 64 #[.int .i64 op, vv X, vv Y] w fun e w' => e = .returned (.tuple #[vv (opRes op X Y), .bool (opOk op Y)]) ∧ Below w.heap.size w w' := by
    intro V b hV hb h
    have e : vv V = vv (opRes op X Y) := by unfold vv; rw [(vv_congr hV).1, (vv_congr hV).2]
    rw [e, hb] at h
    exact h
  by_cases o2 : op = 2
  · subst o2; exact key _ _ (by simp [opRes]) (by simp [opOk]) (apply_2 X Y w hX hY)
  by_cases o3 : op = 3
  · subst o3; exact key _ _ (by simp [opRes]) (by simp [opOk]) (apply_3 X Y w hX hY)
  by_cases o4 : op = 4
  · subst o4; exact key _ _ (by simp [opRes]) (by simp [opOk]) (apply_4 X Y w hX hY)
  by_cases o5 : op = 5
  · subst o5
    by_cases h0 : Y = 0
    · subst h0; exact key _ _ (by simp [opRes]) (by simp [opOk]) (apply_5z X 0 w hX hY rfl)
    · exact key _ _ (by simp [opRes]) (by simp [opOk, h0]) (apply_5 X Y w hX hY (by omega))
  by_cases o6 : op = 6
  · subst o6; exact key _ _ (by simp [opRes]) (by simp [opOk]) (apply_6 X Y w hX hY)
  by_cases o7 : op = 7
  · subst o7; exact key _ _ (by simp [opRes]) (by simp [opOk]) (apply_7 X Y w hX hY)
  by_cases o8 : op = 8
  · subst o8; exact key _ _ (by simp [opRes]) (by simp [opOk]) (apply_8 X Y w hX hY)
  by_cases o9 : op = 9
  · subst o9; exact key _ _ (by simp [opRes]) (by simp [opOk]) (apply_9 X Y w hX hY)
  by_cases o10 : op = 10
  · subst o10; exact key _ _ (by simp [opRes]) (by simp [opOk]) (apply_10 X Y w hX hY)
  exact key _ _ (by simp [opRes, o2, o3, o4, o5, o6, o7, o8, o9, o10]) (by unfold opOk; symm; rw [decide_eq_false_iff_not]; omega) (apply_none X Y w hX hY op (by omega))

end Go.Proofs.YtipjeihfhnilcaaDoor
end
