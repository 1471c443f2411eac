import Derived.Test.YtafegghdhdgioabGreatMKit
import Derived.Test.YtafegghdhdgioabGreatMEmath
import Derived.Laws.Externs
import Derived.Shelf.Spec.BitsCarry
import Derived.Shelf.Bits.Mul64
import Derived.Outline
import Derived.Laws.StructEq
import Derived.WalkKit
set_option linter.unusedVariables false
set_option linter.unusedSimpArgs false
section
/-
  The contracts of the small functions of package value: double, less, truth, sum, difference, product. Conditions: those of the types.
-/
namespace Go.Proofs.YtafegghdhdgioabGreat
open Go.RowKit


set_option maxHeartbeats 400000 in
theorem double_any (X : Nat) (b : Int) (w : World) (b0 : 0 ≤ b) (b1 : b ≤ 1) :
    Calls Tryz.prog 153 #[vv X, .int .u64 b] w fun e w' => e = .returned (vv (2 * X + b.toNat)) ∧ Below w.heap.size w w' := by
  obtain ⟨l0, l1⟩ := lo_b X
  obtain ⟨h0, h1⟩ := hi_b X
  go_enter Tryz.func153, Tryz.ntmps153
  go_wp2
  rw [double_lo X b b0 b1, double_hi X b b0 b1]
  exact bodyPost_ret (v := vv (2 * X + b.toNat)) (by simp [results, Tryz.results153, go_sem]) rfl ⟨rfl, below2 _ _ _⟩

theorem double_zero (X : Nat) (w : World) : Calls Tryz.prog 153 #[vv X, .int .u64 0] w fun e w' => e = .returned (vv (2 * X)) ∧ Below w.heap.size w w' := double_any X 0 w (by omega) (by omega)
theorem double_one (X : Nat) (w : World) : Calls Tryz.prog 153 #[vv X, .int .u64 1] w fun e w' => e = .returned (vv (2 * X + 1)) ∧ Below w.heap.size w w' := double_any X 1 w (by omega) (by omega)

set_option maxHeartbeats 400000 in
theorem less_any (X Y : Nat) (w : World) (hX : X < two128) (hY : Y < two128) :
    Calls Tryz.prog 147 #[vv X, vv Y] w fun e w' => e = .returned (.bool (decide (X < Y))) ∧ Below w.heap.size w w' := by
  obtain ⟨l0, l1⟩ := lo_b X
  obtain ⟨h0, h1⟩ := hi_b X
  obtain ⟨m0, m1⟩ := lo_b Y
  obtain ⟨k0, k1⟩ := hi_b Y
  have hl := hide (lt_words hX hY)
  go_enter Tryz.func147, Tryz.ntmps147
  go_wp2
  · have hne : hi X ≠ hi Y := by simpa using ‹(hi X != hi Y) = true›
    go_ret
    exact ⟨ret_bool (decide_eq_decide.2 (by rw [hl.out]; omega)), below2 _ _ _⟩
  · have he : hi X = hi Y := by simpa using ‹(hi X != hi Y) = false›
    go_ret
    exact ⟨ret_bool (decide_eq_decide.2 (by rw [hl.out]; omega)), below2 _ _ _⟩

theorem less_yes (X Y : Nat) (w : World) (hX : X < two128) (hY : Y < two128) (h : X < Y) : Calls Tryz.prog 147 #[vv X, vv Y] w fun e w' => e = .returned (.bool true) ∧ Below w.heap.size w w' :=
  (less_any X Y w hX hY).mono fun _ _ hh => by rw [decide_eq_true h] at hh; exact hh
theorem less_no (X Y : Nat) (w : World) (hX : X < two128) (hY : Y < two128) (h : Y ≤ X) : Calls Tryz.prog 147 #[vv X, vv Y] w fun e w' => e = .returned (.bool false) ∧ Below w.heap.size w w' :=
  (less_any X Y w hX hY).mono fun _ _ hh => by rw [decide_eq_false (by omega)] at hh; exact hh

theorem vv_one : vv 1 = .agg #[.int .u64 1, .int .u64 0] := rfl
theorem vv_zero : vv 0 = .agg #[.int .u64 0, .int .u64 0] := rfl
set_option maxHeartbeats 400000 in
theorem truth_any (b : Bool) (w : World) :
    Calls Tryz.prog 146 #[.bool b] w fun e w' => e = .returned (vv (bn b)) ∧ Below w.heap.size w w' := by
  cases b
  · go_enter Tryz.func146, Tryz.ntmps146
    go_wp2
    exact bodyPost_ret (v := vv 0) (by simp [results, Tryz.results146, go_sem, vv_zero]) rfl ⟨rfl, (Below.refl _ _).alloc (Nat.le_refl _) _⟩
  · go_enter Tryz.func146, Tryz.ntmps146
    go_wp2
    exact bodyPost_ret (v := vv 1) (by simp [results, Tryz.results146, go_sem, vv_one]) rfl ⟨rfl, (Below.refl _ _).alloc (Nat.le_refl _) _⟩

theorem add64_run (x y c : Int) (w : World) (hx : 0 ≤ x) (hy : 0 ≤ y) (hc0 : 0 ≤ c) (hc : c ≤ 1) :
    (callFunc 150 #[.int .u64 x, .int .u64 y, .int .u64 c]).run Tryz.prog w =
      .ok (.value (.tuple #[.int .u64 ((x + y + c) % 18446744073709551616), .int .u64 ((x + y + c) / 18446744073709551616)])) w := by
  rw [run_callFunc_extern Tryz.func150 (by kernel_rfl) (by kernel_rfl) (by kernel_rfl) (e := add64Entry) (by kernel_rfl), run_add64 x y c hx hy hc0 hc]
  rfl
theorem sub64_run (x y c : Int) (w : World) (hx : 0 ≤ x) (hy : 0 ≤ y) (hy1 : y ≤ 18446744073709551615) (hc0 : 0 ≤ c) (hc : c ≤ 1) :
    (callFunc 151 #[.int .u64 x, .int .u64 y, .int .u64 c]).run Tryz.prog w =
      .ok (.value (.tuple #[.int .u64 ((x - y - c) % 18446744073709551616), .int .u64 (brw x y c)])) w := by
  obtain ⟨x, rfl⟩ := Int.eq_ofNat_of_zero_le hx
  obtain ⟨y, rfl⟩ := Int.eq_ofNat_of_zero_le hy
  obtain ⟨c, rfl⟩ := Int.eq_ofNat_of_zero_le hc0
  rw [run_callFunc_extern Tryz.func151 (by kernel_rfl) (by kernel_rfl) (by kernel_rfl) (e := sub64Entry) (by kernel_rfl), run_sub64 x y c (by omega)]
  have e1 : (((x + 18446744073709551616 - y - c) % 18446744073709551616 : Nat) : Int) = ((x : Int) - y - c) % 18446744073709551616 := by omega
  have e2 : (((if x < y + c then 1 else 0 : Nat)) : Int) = brw x y c := by unfold brw; split <;> split <;> omega
  rw [e1, e2]
  rfl

set_option maxHeartbeats 400000 in
theorem sum_any (X Y : Nat) (w : World) :
    Calls Tryz.prog 142 #[vv X, vv Y] w fun e w' => e = .returned (vv (X + Y)) ∧ Below w.heap.size w w' := by
  obtain ⟨l0, l1⟩ := lo_b X
  obtain ⟨h0, h1⟩ := hi_b X
  obtain ⟨m0, m1⟩ := lo_b Y
  obtain ⟨k0, k1⟩ := hi_b Y
  go_enter Tryz.func142, Tryz.ntmps142
  go_wp2_with (simp (disch := omega) only [add64_run])
  rw [sum_lo, sum_hi]
  exact bodyPost_ret (v := vv (X + Y)) (by simp [results, Tryz.results142, go_sem]) rfl ⟨rfl, below3 _ _ _ _⟩

set_option maxHeartbeats 400000 in
theorem diff_any (X Y : Nat) (w : World) (hY : Y < two128) :
    Calls Tryz.prog 143 #[vv X, vv Y] w fun e w' => e = .returned (vv (X + two128 - Y)) ∧ Below w.heap.size w w' := by
  obtain ⟨l0, l1⟩ := lo_b X
  obtain ⟨h0, h1⟩ := hi_b X
  obtain ⟨m0, m1⟩ := lo_b Y
  obtain ⟨k0, k1⟩ := hi_b Y
  obtain ⟨b0, b1⟩ := brw_b (lo X) (lo Y) 0
  go_enter Tryz.func143, Tryz.ntmps143
  go_wp2_with (simp (disch := omega) only [sub64_run])
  rw [diff_lo X Y hY, diff_hi X Y hY]
  exact bodyPost_ret (v := vv (X + two128 - Y)) (by simp [results, Tryz.results143, go_sem]) rfl ⟨rfl, below3 _ _ _ _⟩

/-- The numbers of this translation for those of the library's contract of Mul64. -/
def mulRen : Go.Shelf.Ren := ⟨fun _ => 152, fun t => if t = 53 then 36 else 187, fun g => g⟩
set_option maxRecDepth 100000 in
theorem mulLaid : Go.Proofs.Lays.n264 Tryz.prog mulRen := by
  refine { mixed := ?_, f264 := ?_, t46 := ?_, a46 := ?_, z46 := ?_, v46 := ?_, t53 := ?_, a53 := ?_, z53 := ?_, v53 := ?_ }
  · kernel_rfl
  · kernel_rfl
  · kernel_rfl
  · exact fun w => by kernel_rfl
  · exact fun w => by kernel_rfl
  · exact fun w => by kernel_rfl
  · kernel_rfl
  · exact fun w => by kernel_rfl
  · exact fun w => by kernel_rfl
  · exact fun w => by kernel_rfl
theorem mul64_nat (x y : Nat) (hx : x < 18446744073709551616) (hy : y < 18446744073709551616) (w : World) :
    Calls Tryz.prog 152 #[.int .u64 x, .int .u64 y] w fun e w' => e = .returned (.tuple #[.int .u64 ((x * y / 18446744073709551616 : Nat) : Int), .int .u64 ((x * y % 18446744073709551616 : Nat) : Int)]) ∧ w = w' :=
  (Any.bits_Mul64 (ρ := mulRen) mulLaid x y hx hy w).mono fun _ _ ⟨he, hw⟩ => ⟨he, hw.symm⟩

theorem mul64_any (x y : Int) (x0 : 0 ≤ x) (x1 : x ≤ 18446744073709551615) (y0 : 0 ≤ y) (y1 : y ≤ 18446744073709551615) (w : World) :
    Calls Tryz.prog 152 #[.int .u64 x, .int .u64 y] w fun e w' => e = .returned (.tuple #[.int .u64 (x * y / 18446744073709551616), .int .u64 (x * y % 18446744073709551616)]) ∧ w = w' := by
  have h := mul64_nat x.toNat y.toNat (by omega) (by omega) w
  rwa [Int.natCast_ediv, Int.natCast_emod, Int.natCast_mul, Int.toNat_of_nonneg x0, Int.toNat_of_nonneg y0] at h

set_option maxHeartbeats 1000000 in
theorem product_any (X Y : Nat) (w : World) (hX : X < two128) (hY : Y < two128) :
    Calls Tryz.prog 144 #[vv X, vv Y] w fun e w' => e = .returned (vv (X * Y)) ∧ Below w.heap.size w w' := by
  obtain ⟨l0, l1⟩ := lo_b X
  obtain ⟨h0, h1⟩ := hi_b X
  obtain ⟨m0, m1⟩ := lo_b Y
  obtain ⟨k0, k1⟩ := hi_b Y
  go_enter Tryz.func144, Tryz.ntmps144
  go_wp2_with fail
  refine (mul64_any (lo X) (lo Y) (by omega) (by omega) (by omega) (by omega) _).mono ?_
  rintro e w' ⟨rfl, rfl⟩
  go_wp2
  rw [prod_lo, prod_hi X Y hX hY]
  exact bodyPost_ret (v := vv (X * Y)) (by simp [results, Tryz.results144, go_sem]) rfl ⟨rfl, below3 _ _ _ _⟩
end Go.Proofs.YtafegghdhdgioabGreat
end

section
/-
  The contract of value.quotient: the quotient of two values. Conditions: those of the types, and that the divisor is not 0.
-/
namespace Go.Proofs.YtafegghdhdgioabGreat
open Go.RowKit

/-- What holds at the head of the loop. -/
def QRel (w0 : World) (gx gy gr gq gt X Y : Nat) (i : Value) (wr : World) : Prop :=
  ∃ k : Nat, k ≤ 128 ∧ i = .int .i64 k ∧ Box wr gx (X * 2 ^ k % two128) ∧ Box wr gy Y ∧ Box wr gr 0 ∧ Box wr gq (X / 2 ^ (128 - k) / Y) ∧ Box wr gt (X / 2 ^ (128 - k) % Y) ∧ Below w0.heap.size w0 wr

set_option maxRecDepth 100000 in
set_option maxHeartbeats 1000000 in
theorem quotient_any (X Y : Nat) (w : World) (hX : X < two128) (hY : Y < two128) (h0 : 0 < Y) :
    Calls Tryz.prog 145 #[vv X, vv Y] w fun e w' => e = .returned (vv (X / Y)) ∧ Below w.heap.size w w' := by
  go_enter Tryz.func145, Tryz.ntmps145
  go_wp2
  go_loopw [9] (fun i wr => QRel w w.heap.size (w.heap.size + 1) (w.heap.size + 1 + 1) (w.heap.size + 1 + 1 + 1) (w.heap.size + 1 + 1 + 1 + 1) X Y i wr) (fun i _ => 128 - (intOf i).toNat)
  case atStart => exact ⟨0, by omega, rfl, ((((Box.new w X).alloc _).alloc _).alloc _).alloc _ |>.same (by rw [Nat.pow_zero, Nat.mul_one, Nat.mod_eq_of_lt hX]), (((Box.new _ Y).alloc _).alloc _).alloc _ |>.at_ (by simp), ((Box.new _ 0).alloc _).alloc _ |>.at_ (by simp), ((Box.new _ 0).alloc _ |>.at_ (by simp)).same (quot_zero X Y hX).1.symm, ((Box.new _ 0) |>.at_ (by simp)).same (quot_zero X Y hX).2.symm, ((below3 w _ _ _).alloc (by simp; omega) _).alloc (by simp; omega) _⟩
  case round =>
    obtain ⟨k, hk, rfl, bx, by_, br, bq, bt, hb⟩ := hrel
    by_cases hlt : k < 128
    · obtain ⟨xk, hxk⟩ : ∃ V, V = X * 2 ^ k % two128 := ⟨_, rfl⟩
      obtain ⟨qk, hqk⟩ : ∃ V, V = X / 2 ^ (128 - k) / Y := ⟨_, rfl⟩
      obtain ⟨rk, hrk⟩ : ∃ V, V = X / 2 ^ (128 - k) % Y := ⟨_, rfl⟩
      rw [← hxk] at bx
      rw [← hqk] at bq
      rw [← hrk] at bt
      have HS := hide (quot_step X Y k hX hlt h0 xk qk rk hxk hqk hrk)
      clear hxk hqk hrk
      obtain ⟨x0, x1, xz0, xz1⟩ := bx.facts
      obtain ⟨t0, t1, tz0, tz1⟩ := bt.facts
      go_wp2_with fail
      refine (double_any rk (hi xk / 9223372036854775808) _ (by have := hi_b xk; omega) (by have := hi_b xk; omega)).mono ?_
      rintro e w1 ⟨rfl, hb1⟩
      clear x0 x1 xz0 xz1 t0 t1 tz0 tz1
      have bx := bx.call hb1
      have by_ := by_.call hb1
      have br := br.call hb1
      have bq := bq.call hb1
      have bt := bt.call hb1
      have hb := below_call hb hb1
      clear hb1
      generalize 2 * rk + (hi xk / 9223372036854775808).toNat = r1 at *
      obtain ⟨x0, x1, xz0, xz1⟩ := bx.facts
      obtain ⟨t0, t1, tz0, tz1⟩ := bt.facts
      go_wp2_with fail
      clear x0 x1 xz0 xz1 t0 t1 tz0 tz1
      have bx := bx.far2 (g' := w.heap.size + 1 + 1 + 1 + 1) (by omega) (.int .u64 (lo (r1))) (.int .u64 (hi (r1)))
      have by_ := by_.far2 (g' := w.heap.size + 1 + 1 + 1 + 1) (by omega) (.int .u64 (lo (r1))) (.int .u64 (hi (r1)))
      have br := br.far2 (g' := w.heap.size + 1 + 1 + 1 + 1) (by omega) (.int .u64 (lo (r1))) (.int .u64 (hi (r1)))
      have bq := bq.far2 (g' := w.heap.size + 1 + 1 + 1 + 1) (by omega) (.int .u64 (lo (r1))) (.int .u64 (hi (r1)))
      have bt := bt.set_ (r1)
      have hb := below_set (g := w.heap.size + 1 + 1 + 1 + 1) hb (by omega) (.int .u64 (lo (r1))) (.int .u64 (hi (r1)))
      obtain ⟨W1, hW1⟩ : ∃ W, W = (w1.setCell ⟨w.heap.size + 1 + 1 + 1 + 1, 0, none⟩ (.int .u64 (lo (r1)))).setCell ⟨w.heap.size + 1 + 1 + 1 + 1, 1, none⟩ (.int .u64 (hi (r1))) := ⟨_, rfl⟩
      rw [← hW1] at bx by_ br bq bt hb ⊢
      clear hW1
      obtain ⟨x0, x1, xz0, xz1⟩ := bx.facts
      refine (double_zero xk _).mono ?_
      rintro e w2 ⟨rfl, hb1⟩
      clear x0 x1 xz0 xz1
      have bx := bx.call hb1
      have by_ := by_.call hb1
      have br := br.call hb1
      have bq := bq.call hb1
      have bt := bt.call hb1
      have hb := below_call hb hb1
      clear hb1
      obtain ⟨x0, x1, xz0, xz1⟩ := bx.facts
      obtain ⟨y0, y1, yz0, yz1⟩ := by_.facts
      obtain ⟨t0, t1, tz0, tz1⟩ := bt.facts
      go_wp2_with fail
      clear x0 x1 xz0 xz1 y0 y1 yz0 yz1 t0 t1 tz0 tz1
      have bx := bx.set_ (2 * xk)
      have by_ := by_.far2 (g' := w.heap.size) (by omega) (.int .u64 (lo (2 * xk))) (.int .u64 (hi (2 * xk)))
      have br := br.far2 (g' := w.heap.size) (by omega) (.int .u64 (lo (2 * xk))) (.int .u64 (hi (2 * xk)))
      have bq := bq.far2 (g' := w.heap.size) (by omega) (.int .u64 (lo (2 * xk))) (.int .u64 (hi (2 * xk)))
      have bt := bt.far2 (g' := w.heap.size) (by omega) (.int .u64 (lo (2 * xk))) (.int .u64 (hi (2 * xk)))
      have hb := below_set (g := w.heap.size) hb (by omega) (.int .u64 (lo (2 * xk))) (.int .u64 (hi (2 * xk)))
      obtain ⟨W2, hW2⟩ : ∃ W, W = (w2.setCell ⟨w.heap.size, 0, none⟩ (.int .u64 (lo (2 * xk)))).setCell ⟨w.heap.size, 1, none⟩ (.int .u64 (hi (2 * xk))) := ⟨_, rfl⟩
      rw [← hW2] at bx by_ br bq bt hb ⊢
      clear hW2
      by_cases hless : r1 < Y
      · refine (less_yes r1 Y _ HS.out.2.1 hY hless).mono ?_
        rintro e w3 ⟨rfl, hb1⟩
        have bx := bx.call hb1
        have by_ := by_.call hb1
        have br := br.call hb1
        have bq := bq.call hb1
        have bt := bt.call hb1
        have hb := below_call hb hb1
        clear hb1
        obtain ⟨q0, q1, qz0, qz1⟩ := bq.facts
        go_wp2_with fail
        refine (double_zero qk _).mono ?_
        rintro e w4 ⟨rfl, hb1⟩
        clear q0 q1 qz0 qz1
        have bx := bx.call hb1
        have by_ := by_.call hb1
        have br := br.call hb1
        have bq := bq.call hb1
        have bt := bt.call hb1
        have hb := below_call hb hb1
        clear hb1
        obtain ⟨q0, q1, qz0, qz1⟩ := bq.facts
        go_wp2_with fail
        clear q0 q1 qz0 qz1
        have bx := bx.far2 (g' := w.heap.size + 1 + 1 + 1) (by omega) (.int .u64 (lo (2 * qk))) (.int .u64 (hi (2 * qk)))
        have by_ := by_.far2 (g' := w.heap.size + 1 + 1 + 1) (by omega) (.int .u64 (lo (2 * qk))) (.int .u64 (hi (2 * qk)))
        have br := br.far2 (g' := w.heap.size + 1 + 1 + 1) (by omega) (.int .u64 (lo (2 * qk))) (.int .u64 (hi (2 * qk)))
        have bq := bq.set_ (2 * qk)
        have bt := bt.far2 (g' := w.heap.size + 1 + 1 + 1) (by omega) (.int .u64 (lo (2 * qk))) (.int .u64 (hi (2 * qk)))
        have hb := below_set (g := w.heap.size + 1 + 1 + 1) hb (by omega) (.int .u64 (lo (2 * qk))) (.int .u64 (hi (2 * qk)))
        refine ⟨⟨k + 1, by omega, by go_num, bx.congr (by rw [HS.out.1, Nat.mod_mod]), by_, br, bq.same (HS.out.2.2.1 hless).1, bt.same (HS.out.2.2.1 hless).2, hb⟩, by simp [intOf]; omega⟩
      · refine (less_no r1 Y _ HS.out.2.1 hY (by omega)).mono ?_
        rintro e w3 ⟨rfl, hb1⟩
        have bx := bx.call hb1
        have by_ := by_.call hb1
        have br := br.call hb1
        have bq := bq.call hb1
        have bt := bt.call hb1
        have hb := below_call hb hb1
        clear hb1
        obtain ⟨t0, t1, tz0, tz1⟩ := bt.facts
        obtain ⟨y0, y1, yz0, yz1⟩ := by_.facts
        go_wp2_with fail
        refine (diff_any r1 Y _ hY).mono ?_
        rintro e w4 ⟨rfl, hb1⟩
        clear t0 t1 tz0 tz1 y0 y1 yz0 yz1
        have bx := bx.call hb1
        have by_ := by_.call hb1
        have br := br.call hb1
        have bq := bq.call hb1
        have bt := bt.call hb1
        have hb := below_call hb hb1
        clear hb1
        obtain ⟨t0, t1, tz0, tz1⟩ := bt.facts
        obtain ⟨q0, q1, qz0, qz1⟩ := bq.facts
        go_wp2_with fail
        clear t0 t1 tz0 tz1 q0 q1 qz0 qz1
        have bx := bx.far2 (g' := w.heap.size + 1 + 1 + 1 + 1) (by omega) (.int .u64 (lo (r1 + two128 - Y))) (.int .u64 (hi (r1 + two128 - Y)))
        have by_ := by_.far2 (g' := w.heap.size + 1 + 1 + 1 + 1) (by omega) (.int .u64 (lo (r1 + two128 - Y))) (.int .u64 (hi (r1 + two128 - Y)))
        have br := br.far2 (g' := w.heap.size + 1 + 1 + 1 + 1) (by omega) (.int .u64 (lo (r1 + two128 - Y))) (.int .u64 (hi (r1 + two128 - Y)))
        have bq := bq.far2 (g' := w.heap.size + 1 + 1 + 1 + 1) (by omega) (.int .u64 (lo (r1 + two128 - Y))) (.int .u64 (hi (r1 + two128 - Y)))
        have bt := bt.set_ (r1 + two128 - Y)
        have hb := below_set (g := w.heap.size + 1 + 1 + 1 + 1) hb (by omega) (.int .u64 (lo (r1 + two128 - Y))) (.int .u64 (hi (r1 + two128 - Y)))
        obtain ⟨W4, hW4⟩ : ∃ W, W = (w4.setCell ⟨w.heap.size + 1 + 1 + 1 + 1, 0, none⟩ (.int .u64 (lo (r1 + two128 - Y)))).setCell ⟨w.heap.size + 1 + 1 + 1 + 1, 1, none⟩ (.int .u64 (hi (r1 + two128 - Y))) := ⟨_, rfl⟩
        rw [← hW4] at bx by_ br bq bt hb ⊢
        clear hW4
        refine (double_one qk _).mono ?_
        rintro e w5 ⟨rfl, hb1⟩
        have bx := bx.call hb1
        have by_ := by_.call hb1
        have br := br.call hb1
        have bq := bq.call hb1
        have bt := bt.call hb1
        have hb := below_call hb hb1
        clear hb1
        obtain ⟨q0, q1, qz0, qz1⟩ := bq.facts
        go_wp2_with fail
        clear q0 q1 qz0 qz1
        have bx := bx.far2 (g' := w.heap.size + 1 + 1 + 1) (by omega) (.int .u64 (lo (2 * qk + 1))) (.int .u64 (hi (2 * qk + 1)))
        have by_ := by_.far2 (g' := w.heap.size + 1 + 1 + 1) (by omega) (.int .u64 (lo (2 * qk + 1))) (.int .u64 (hi (2 * qk + 1)))
        have br := br.far2 (g' := w.heap.size + 1 + 1 + 1) (by omega) (.int .u64 (lo (2 * qk + 1))) (.int .u64 (hi (2 * qk + 1)))
        have bq := bq.set_ (2 * qk + 1)
        have bt := bt.far2 (g' := w.heap.size + 1 + 1 + 1) (by omega) (.int .u64 (lo (2 * qk + 1))) (.int .u64 (hi (2 * qk + 1)))
        have hb := below_set (g := w.heap.size + 1 + 1 + 1) hb (by omega) (.int .u64 (lo (2 * qk + 1))) (.int .u64 (hi (2 * qk + 1)))
        go_roundw
        case rel => exact ⟨k + 1, by omega, by go_num, bx.congr (by rw [HS.out.1, Nat.mod_mod]), by_, br, bq.same (HS.out.2.2.2 (by omega)).1, bt.congr (by rw [← (HS.out.2.2.2 (by omega)).2, sub_mod128 r1 Y (by omega)]), hb⟩
        case measure => simp [intOf]; omega
    · obtain rfl : k = 128 := by omega
      have bq := bq.same (show X / 2 ^ (128 - 128) / Y = X / Y by simp)
      obtain ⟨q0, q1, qz0, qz1⟩ := bq.facts
      obtain ⟨r0, r1, rz0, rz1⟩ := br.facts
      go_wp2_with fail
      clear q0 q1 qz0 qz1 r0 r1 rz0 rz1
      have bx := bx.far2 (g' := w.heap.size + 1 + 1) (by omega) (.int .u64 (lo (X / Y))) (.int .u64 (hi (X / Y)))
      have by_ := by_.far2 (g' := w.heap.size + 1 + 1) (by omega) (.int .u64 (lo (X / Y))) (.int .u64 (hi (X / Y)))
      have br := br.set_ (X / Y)
      have bq := bq.far2 (g' := w.heap.size + 1 + 1) (by omega) (.int .u64 (lo (X / Y))) (.int .u64 (hi (X / Y)))
      have bt := bt.far2 (g' := w.heap.size + 1 + 1) (by omega) (.int .u64 (lo (X / Y))) (.int .u64 (hi (X / Y)))
      have hb := below_set (g := w.heap.size + 1 + 1) hb (by omega) (.int .u64 (lo (X / Y))) (.int .u64 (hi (X / Y)))
      obtain ⟨W9, hW9⟩ : ∃ W, W = (wr.setCell ⟨w.heap.size + 1 + 1, 0, none⟩ (.int .u64 (lo (X / Y)))).setCell ⟨w.heap.size + 1 + 1, 1, none⟩ (.int .u64 (hi (X / Y))) := ⟨_, rfl⟩
      rw [← hW9] at bx by_ br bq bt hb ⊢
      clear hW9
      obtain ⟨r0, r1, rz0, rz1⟩ := br.facts
      exact bodyPost_ret (v := vv (X / Y)) (by simp [results, Tryz.results145, go_sem, r0, r1]) rfl ⟨rfl, hb⟩
end Go.Proofs.YtafegghdhdgioabGreat
end

section
/-
  Equality of two values as the program asks it ('==', '!='): the run of the operation. No function of the program is named here.
-/
namespace Go.Proofs.YtafegghdhdgioabGreat
open Go.RowKit

theorem vv_fields : Tryz.prog.underlying 38 = some (.struct (Tryz.prog.fieldsOf 38)) := by kernel_rfl
theorem vv_held : Tryz.prog.stoodInHeld 38 = false := by kernel_rfl
theorem equalIn_val (l h m k : Int) (w : World) : (Op.equalIn 10000 38 (.agg #[.int .u64 l, .int .u64 h]) (.agg #[.int .u64 m, .int .u64 k])).run Tryz.prog w = .ok (decide (l = m) && decide (h = k)) w := by
  rw [show (10000 : Nat) = 9999 + 1 from rfl, run_equalIn_agg w 9999 38 _ _ vv_fields vv_held]
  have u := Tryz.underlying36
  have a := Tryz.isAgg36
  have z := Tryz.sizeOf36
  simp only [Program.fieldsOf, Tryz.underlying38]
  go_simp
  by_cases h1 : l = m <;> by_cases h2 : h = k <;> simp [h1, h2]

theorem run_eq_vv (X Y : Nat) (w : World) (hX : X < two128) (hY : Y < two128) : (binOp .eql 38 (.agg #[.int .u64 (lo X), .int .u64 (hi X)]) (.agg #[.int .u64 (lo Y), .int .u64 (hi Y)])).run Tryz.prog w = .ok (.bool (decide (X = Y))) w := by
  rw [run_eql_struct, equalIn_val, Result.andThen_ok, ← Bool.decide_and, decide_eq_decide.2 (eq_words hX hY)]
theorem run_ne_vv (X Y : Nat) (w : World) (hX : X < two128) (hY : Y < two128) : (binOp .neq 38 (.agg #[.int .u64 (lo X), .int .u64 (hi X)]) (.agg #[.int .u64 (lo Y), .int .u64 (hi Y)])).run Tryz.prog w = .ok (.bool (!decide (X = Y))) w := by
  rw [run_neq_struct, equalIn_val, Result.andThen_ok, ← Bool.decide_and, decide_eq_decide.2 (eq_words hX hY)]
theorem run_eq_zero (X : Nat) (w : World) (hX : X < two128) : (binOp .eql 38 (.agg #[.int .u64 (lo X), .int .u64 (hi X)]) (.agg #[.int .u64 0, .int .u64 0])).run Tryz.prog w = .ok (.bool (decide (X = 0))) w := run_eq_vv X 0 w hX two128_pos
/-- Two values whose words agree. -/
theorem run_ne_same (X Y : Nat) (w : World) (h : X % two128 = Y % two128) : (binOp .neq 38 (.agg #[.int .u64 (lo X), .int .u64 (hi X)]) (.agg #[.int .u64 (lo Y), .int .u64 (hi Y)])).run Tryz.prog w = .ok (.bool false) w := by
  rw [run_neq_struct, equalIn_val, (vv_congr h).1, (vv_congr h).2]; simp [Result.andThen]
theorem run_eq_same (X Y : Nat) (w : World) (h : X % two128 = Y % two128) : (binOp .eql 38 (.agg #[.int .u64 (lo X), .int .u64 (hi X)]) (.agg #[.int .u64 (lo Y), .int .u64 (hi Y)])).run Tryz.prog w = .ok (.bool true) w := by
  rw [run_eql_struct, equalIn_val, (vv_congr h).1, (vv_congr h).2]; simp [Result.andThen]
end Go.Proofs.YtafegghdhdgioabGreat
end
