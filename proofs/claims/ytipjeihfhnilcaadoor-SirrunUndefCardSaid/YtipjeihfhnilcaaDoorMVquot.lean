import Derived.Test.YtipjeihfhnilcaaDoorMVleaf
import Derived.Outline
set_option linter.unusedVariables false
set_option linter.unusedSimpArgs false
section
/-
  The contract of value.quotient: the quotient of two values. Conditions: those of the types, and that the divisor is not 0.
-/
namespace Go.Proofs.YtipjeihfhnilcaaDoor
open Go.RowKit

/-- What holds at the head of the loop. -/
def QRel (w0 : World) (gx gy gr gq gt X Y : Nat) (i : Value) (wr : World) : Prop :=
  ∃ k : Nat, k ≤ 128 ∧ i = .int .i64 k ∧ Box wr gx (X * 2 ^ k % two128) ∧ Box wr gy Y ∧ Box wr gr 0 ∧ Box wr gq (X / 2 ^ (128 - k) / Y) ∧ Box wr gt (X / 2 ^ (128 - k) % Y) ∧ Below w0.heap.size w0 wr

set_option maxRecDepth 100000 in
set_option maxHeartbeats 1000000 in
theorem quotient_any (X Y : Nat) (w : World) (hX : X < two128) (hY : Y < two128) (h0 : 0 < Y) :
    Calls Tryd.prog 72 #[vv X, vv Y] w fun e w' => e = .returned (vv (X / Y)) ∧ Below w.heap.size w w' := by
  go_enter Tryd.func72, Tryd.ntmps72
  go_wp2
  go_loopw [9] (fun i wr => QRel w w.heap.size (w.heap.size + 1) (w.heap.size + 1 + 1) (w.heap.size + 1 + 1 + 1) (w.heap.size + 1 + 1 + 1 + 1) X Y i wr) (fun i _ => 128 - (intOf i).toNat)
  case atStart => exact ⟨0, by omega, rfl, ((((Box.new w X).alloc _).alloc _).alloc _).alloc _ |>.same (by rw [Nat.pow_zero, Nat.mul_one, Nat.mod_eq_of_lt hX]), (((Box.new _ Y).alloc _).alloc _).alloc _ |>.at_ (by simp), ((Box.new _ 0).alloc _).alloc _ |>.at_ (by simp), ((Box.new _ 0).alloc _ |>.at_ (by simp)).same (quot_zero X Y hX).1.symm, ((Box.new _ 0) |>.at_ (by simp)).same (quot_zero X Y hX).2.symm, ((below3 w _ _ _).alloc (by simp; omega) _).alloc (by simp; omega) _⟩
  case round =>
    obtain ⟨k, hk, rfl, bx, by_, br, bq, bt, hb⟩ := hrel
    by_cases hlt : k < 128
    · obtain ⟨xk, hxk⟩ : ∃ V, V = X * 2 ^ k % two128 := ⟨_, rfl⟩
      obtain ⟨qk, hqk⟩ : ∃ V, V = X / 2 ^ (128 - k) / Y := ⟨_, rfl⟩
      obtain ⟨rk, hrk⟩ : ∃ V, V = X / 2 ^ (128 - k) % Y := ⟨_, rfl⟩
      rw [← hxk] at bx
      rw [← hqk] at bq
      rw [← hrk] at bt
      have HS := hide (quot_step X Y k hX hlt h0 xk qk rk hxk hqk hrk)
      clear hxk hqk hrk
      obtain ⟨x0, x1, xz0, xz1⟩ := bx.facts
      obtain ⟨t0, t1, tz0, tz1⟩ := bt.facts
      go_wp2_with fail
      refine (double_any rk (hi xk / 9223372036854775808) _ (by have := hi_b xk; omega) (by have := hi_b xk; omega)).mono ?_
      rintro e w1 ⟨rfl, hb1⟩
      clear x0 x1 xz0 xz1 t0 t1 tz0 tz1
      have bx := bx.call hb1
      have by_ := by_.call hb1
      have br := br.call hb1
      have bq := bq.call hb1
      have bt := bt.call hb1
      have hb := below_call hb hb1
      clear hb1
      generalize 2 * rk + (hi xk / 9223372036854775808).toNat = r1 at *
      obtain ⟨x0, x1, xz0, xz1⟩ := bx.facts
      obtain ⟨t0, t1, tz0, tz1⟩ := bt.facts
      go_wp2_with fail
      clear x0 x1 xz0 xz1 t0 t1 tz0 tz1
      have bx := bx.far2 (g' := w.heap.size + 1 + 1 + 1 + 1) (by omega) (.int .u64 (lo (r1))) (.int .u64 (hi (r1)))
      have by_ := by_.far2 (g' := w.heap.size + 1 + 1 + 1 + 1) (by omega) (.int .u64 (lo (r1))) (.int .u64 (hi (r1)))
      have br := br.far2 (g' := w.heap.size + 1 + 1 + 1 + 1) (by omega) (.int .u64 (lo (r1))) (.int .u64 (hi (r1)))
      have bq := bq.far2 (g' := w.heap.size + 1 + 1 + 1 + 1) (by omega) (.int .u64 (lo (r1))) (.int .u64 (hi (r1)))
      have bt := bt.set_ (r1)
      have hb := below_set (g := w.heap.size + 1 + 1 + 1 + 1) hb (by omega) (.int .u64 (lo (r1))) (.int .u64 (hi (r1)))
      obtain ⟨W1, hW1⟩ : ∃ W, W = (w1.setCell ⟨w.heap.size + 1 + 1 + 1 + 1, 0, none⟩ (.int .u64 (lo (r1)))).setCell ⟨w.heap.size + 1 + 1 + 1 + 1, 1, none⟩ (.int .u64 (hi (r1))) := ⟨_, rfl⟩
      rw [← hW1] at bx by_ br bq bt hb ⊢
      clear hW1
      obtain ⟨x0, x1, xz0, xz1⟩ := bx.facts
      refine (double_zero xk _).mono ?_
      rintro e w2 ⟨rfl, hb1⟩
      clear x0 x1 xz0 xz1
      have bx := bx.call hb1
      have by_ := by_.call hb1
      have br := br.call hb1
      have bq := bq.call hb1
      have bt := bt.call hb1
      have hb := below_call hb hb1
      clear hb1
      obtain ⟨x0, x1, xz0, xz1⟩ := bx.facts
      obtain ⟨y0, y1, yz0, yz1⟩ := by_.facts
      obtain ⟨t0, t1, tz0, tz1⟩ := bt.facts
      go_wp2_with fail
      clear x0 x1 xz0 xz1 y0 y1 yz0 yz1 t0 t1 tz0 tz1
      have bx := bx.set_ (2 * xk)
      have by_ := by_.far2 (g' := w.heap.size) (by omega) (.int .u64 (lo (2 * xk))) (.int .u64 (hi (2 * xk)))
      have br := br.far2 (g' := w.heap.size) (by omega) (.int .u64 (lo (2 * xk))) (.int .u64 (hi (2 * xk)))
      have bq := bq.far2 (g' := w.heap.size) (by omega) (.int .u64 (lo (2 * xk))) (.int .u64 (hi (2 * xk)))
      have bt := bt.far2 (g' := w.heap.size) (by omega) (.int .u64 (lo (2 * xk))) (.int .u64 (hi (2 * xk)))
      have hb := below_set (g := w.heap.size) hb (by omega) (.int .u64 (lo (2 * xk))) (.int .u64 (hi (2 * xk)))
      obtain ⟨W2, hW2⟩ : ∃ W, W = (w2.setCell ⟨w.heap.size, 0, none⟩ (.int .u64 (lo (2 * xk)))).setCell ⟨w.heap.size, 1, none⟩ (.int .u64 (hi (2 * xk))) := ⟨_, rfl⟩
      rw [← hW2] at bx by_ br bq bt hb ⊢
      clear hW2
      by_cases hless : r1 < Y
      · refine (less_yes r1 Y _ HS.out.2.1 hY hless).mono ?_
        rintro e w3 ⟨rfl, hb1⟩
        have bx := bx.call hb1
        have by_ := by_.call hb1
        have br := br.call hb1
        have bq := bq.call hb1
        have bt := bt.call hb1
        have hb := below_call hb hb1
        clear hb1
        obtain ⟨q0, q1, qz0, qz1⟩ := bq.facts
        go_wp2_with fail
        refine (double_zero qk _).mono ?_
        rintro e w4 ⟨rfl, hb1⟩
        clear q0 q1 qz0 qz1
        have bx := bx.call hb1
        have by_ := by_.call hb1
        have br := br.call hb1
        have bq := bq.call hb1
        have bt := bt.call hb1
        have hb := below_call hb hb1
        clear hb1
        obtain ⟨q0, q1, qz0, qz1⟩ := bq.facts
        go_wp2_with fail
        clear q0 q1 qz0 qz1
        have bx := bx.far2 (g' := w.heap.size + 1 + 1 + 1) (by omega) (.int .u64 (lo (2 * qk))) (.int .u64 (hi (2 * qk)))
        have by_ := by_.far2 (g' := w.heap.size + 1 + 1 + 1) (by omega) (.int .u64 (lo (2 * qk))) (.int .u64 (hi (2 * qk)))
        have br := br.far2 (g' := w.heap.size + 1 + 1 + 1) (by omega) (.int .u64 (lo (2 * qk))) (.int .u64 (hi (2 * qk)))
        have bq := bq.set_ (2 * qk)
        have bt := bt.far2 (g' := w.heap.size + 1 + 1 + 1) (by omega) (.int .u64 (lo (2 * qk))) (.int .u64 (hi (2 * qk)))
        have hb := below_set (g := w.heap.size + 1 + 1 + 1) hb (by omega) (.int .u64 (lo (2 * qk))) (.int .u64 (hi (2 * qk)))
        refine ⟨⟨k + 1, by omega, by go_num, bx.congr (by rw [HS.out.1, Nat.mod_mod]), by_, br, bq.same (HS.out.2.2.1 hless).1, bt.same (HS.out.2.2.1 hless).2, hb⟩, by simp [intOf]; omega⟩
      · refine (less_no r1 Y _ HS.out.2.1 hY (by omega)).mono ?_
        rintro e w3 ⟨rfl, hb1⟩
        have bx := bx.call hb1
        have by_ := by_.call hb1
        have br := br.call hb1
        have bq := bq.call hb1
        have bt := bt.call hb1
        have hb := below_call hb hb1
        clear hb1
        obtain ⟨t0, t1, tz0, tz1⟩ := bt.facts
        obtain ⟨y0, y1, yz0, yz1⟩ := by_.facts
        go_wp2_with fail
        refine (diff_any r1 Y _ hY).mono ?_
        rintro e w4 ⟨rfl, hb1⟩
        clear t0 t1 tz0 tz1 y0 y1 yz0 yz1
        have bx := bx.call hb1
        have by_ := by_.call hb1
        have br := br.call hb1
        have bq := bq.call hb1
        have bt := bt.call hb1
        have hb := below_call hb hb1
        clear hb1
        obtain ⟨t0, t1, tz0, tz1⟩ := bt.facts
        obtain ⟨q0, q1, qz0, qz1⟩ := bq.facts
        go_wp2_with fail
        clear t0 t1 tz0 tz1 q0 q1 qz0 qz1
        have bx := bx.far2 (g' := w.heap.size + 1 + 1 + 1 + 1) (by omega) (.int .u64 (lo (r1 + two128 - Y))) (.int .u64 (hi (r1 + two128 - Y)))
        have by_ := by_.far2 (g' := w.heap.size + 1 + 1 + 1 + 1) (by omega) (.int .u64 (lo (r1 + two128 - Y))) (.int .u64 (hi (r1 + two128 - Y)))
        have br := br.far2 (g' := w.heap.size + 1 + 1 + 1 + 1) (by omega) (.int .u64 (lo (r1 + two128 - Y))) (.int .u64 (hi (r1 + two128 - Y)))
        have bq := bq.far2 (g' := w.heap.size + 1 + 1 + 1 + 1) (by omega) (.int .u64 (lo (r1 + two128 - Y))) (.int .u64 (hi (r1 + two128 - Y)))
        have bt := bt.set_ (r1 + two128 - Y)
        have hb := below_set (g := w.heap.size + 1 + 1 + 1 + 1) hb (by omega) (.int .u64 (lo (r1 + two128 - Y))) (.int .u64 (hi (r1 + two128 - Y)))
        obtain ⟨W4, hW4⟩ : ∃ W, W = (w4.setCell ⟨w.heap.size + 1 + 1 + 1 + 1, 0, none⟩ (.int .u64 (lo (r1 + two128 - Y)))).setCell ⟨w.heap.size + 1 + 1 + 1 + 1, 1, none⟩ (.int .u64 (hi (r1 + two128 - Y))) := ⟨_, rfl⟩
        rw [← hW4] at bx by_ br bq bt hb ⊢
        clear hW4
        refine (double_one qk _).mono ?_
        rintro e w5 ⟨rfl, hb1⟩
        have bx := bx.call hb1
        have by_ := by_.call hb1
        have br := br.call hb1
        have bq := bq.call hb1
        have bt := bt.call hb1
        have hb := below_call hb hb1
        clear hb1
        obtain ⟨q0, q1, qz0, qz1⟩ := bq.facts
        go_wp2_with fail
        clear q0 q1 qz0 qz1
        have bx := bx.far2 (g' := w.heap.size + 1 + 1 + 1) (by omega) (.int .u64 (lo (2 * qk + 1))) (.int .u64 (hi (2 * qk + 1)))
        have by_ := by_.far2 (g' := w.heap.size + 1 + 1 + 1) (by omega) (.int .u64 (lo (2 * qk + 1))) (.int .u64 (hi (2 * qk + 1)))
        have br := br.far2 (g' := w.heap.size + 1 + 1 + 1) (by omega) (.int .u64 (lo (2 * qk + 1))) (.int .u64 (hi (2 * qk + 1)))
        have bq := bq.set_ (2 * qk + 1)
        have bt := bt.far2 (g' := w.heap.size + 1 + 1 + 1) (by omega) (.int .u64 (lo (2 * qk + 1))) (.int .u64 (hi (2 * qk + 1)))
        have hb := below_set (g := w.heap.size + 1 + 1 + 1) hb (by omega) (.int .u64 (lo (2 * qk + 1))) (.int .u64 (hi (2 * qk + 1)))
        go_roundw
        case rel => exact ⟨k + 1, by omega, by go_num, bx.congr (by rw [HS.out.1, Nat.mod_mod]), by_, br, bq.same (HS.out.2.2.2 (by omega)).1, bt.congr (by rw [← (HS.out.2.2.2 (by omega)).2, sub_mod128 r1 Y (by omega)]), hb⟩
        case measure => simp [intOf]; omega
    · obtain rfl : k = 128 := by omega
      have bq := bq.same (show X / 2 ^ (128 - 128) / Y = X / Y by simp)
      obtain ⟨q0, q1, qz0, qz1⟩ := bq.facts
      obtain ⟨r0, r1, rz0, rz1⟩ := br.facts
      go_wp2_with fail
      clear q0 q1 qz0 qz1 r0 r1 rz0 rz1
      have bx := bx.far2 (g' := w.heap.size + 1 + 1) (by omega) (.int .u64 (lo (X / Y))) (.int .u64 (hi (X / Y)))
      have by_ := by_.far2 (g' := w.heap.size + 1 + 1) (by omega) (.int .u64 (lo (X / Y))) (.int .u64 (hi (X / Y)))
      have br := br.set_ (X / Y)
      have bq := bq.far2 (g' := w.heap.size + 1 + 1) (by omega) (.int .u64 (lo (X / Y))) (.int .u64 (hi (X / Y)))
      have bt := bt.far2 (g' := w.heap.size + 1 + 1) (by omega) (.int .u64 (lo (X / Y))) (.int .u64 (hi (X / Y)))
      have hb := below_set (g := w.heap.size + 1 + 1) hb (by omega) (.int .u64 (lo (X / Y))) (.int .u64 (hi (X / Y)))
      obtain ⟨W9, hW9⟩ : ∃ W, W = (wr.setCell ⟨w.heap.size + 1 + 1, 0, none⟩ (.int .u64 (lo (X / Y)))).setCell ⟨w.heap.size + 1 + 1, 1, none⟩ (.int .u64 (hi (X / Y))) := ⟨_, rfl⟩
      rw [← hW9] at bx by_ br bq bt hb ⊢
      clear hW9
      obtain ⟨r0, r1, rz0, rz1⟩ := br.facts
      exact bodyPost_ret (v := vv (X / Y)) (by simp [results, Tryd.results72, go_sem, r0, r1]) rfl ⟨rfl, hb⟩
end Go.Proofs.YtipjeihfhnilcaaDoor
end
