import Derived.Test.YtipjeihfhnilcaaDoorMVbox
import Derived.Test.YtipjeihfhnilcaaDoorMKit
import Derived.Laws.Externs
import Derived.Shelf.Spec.BitsCarry
import Derived.Shelf.Bits.Mul64
set_option linter.unusedVariables false
set_option linter.unusedSimpArgs false
section
/-
  The contracts of the small functions of package value: double, less, truth, sum, difference, product. Conditions: those of the types.
-/
namespace Go.Proofs.YtipjeihfhnilcaaDoor
open Go.RowKit


set_option maxHeartbeats 400000 in
theorem double_any (X : Nat) (b : Int) (w : World) (b0 : 0 ≤ b) (b1 : b ≤ 1) :
    Calls Tryd.prog 79 #[vv X, .int .u64 b] w fun e w' => e = .returned (vv (2 * X + b.toNat)) ∧ Below w.heap.size w w' := by
  obtain ⟨l0, l1⟩ := lo_b X
  obtain ⟨h0, h1⟩ := hi_b X
  go_enter Tryd.func79, Tryd.ntmps79
  go_wp2
  rw [double_lo X b b0 b1, double_hi X b b0 b1]
  exact bodyPost_ret (v := vv (2 * X + b.toNat)) (by simp [results, Tryd.results79, go_sem]) rfl ⟨rfl, below2 _ _ _⟩

theorem double_zero (X : Nat) (w : World) : Calls Tryd.prog 79 #[vv X, .int .u64 0] w fun e w' => e = .returned (vv (2 * X)) ∧ Below w.heap.size w w' := double_any X 0 w (by omega) (by omega)
theorem double_one (X : Nat) (w : World) : Calls Tryd.prog 79 #[vv X, .int .u64 1] w fun e w' => e = .returned (vv (2 * X + 1)) ∧ Below w.heap.size w w' := double_any X 1 w (by omega) (by omega)

set_option maxHeartbeats 400000 in
theorem less_any (X Y : Nat) (w : World) (hX : X < two128) (hY : Y < two128) :
    Calls Tryd.prog 74 #[vv X, vv Y] w fun e w' => e = .returned (.bool (decide (X < Y))) ∧ Below w.heap.size w w' := by
  obtain ⟨l0, l1⟩ := lo_b X
  obtain ⟨h0, h1⟩ := hi_b X
  obtain ⟨m0, m1⟩ := lo_b Y
  obtain ⟨k0, k1⟩ := hi_b Y
  have hl := hide (lt_words hX hY)
  go_enter Tryd.func74, Tryd.ntmps74
  go_wp2
  · have hne : hi X ≠ hi Y := by simpa using ‹(hi X != hi Y) = true›
    go_ret
    exact ⟨ret_bool (decide_eq_decide.2 (by rw [hl.out]; omega)), below2 _ _ _⟩
  · have he : hi X = hi Y := by simpa using ‹(hi X != hi Y) = false›
    go_ret
    exact ⟨ret_bool (decide_eq_decide.2 (by rw [hl.out]; omega)), below2 _ _ _⟩

theorem less_yes (X Y : Nat) (w : World) (hX : X < two128) (hY : Y < two128) (h : X < Y) : Calls Tryd.prog 74 #[vv X, vv Y] w fun e w' => e = .returned (.bool true) ∧ Below w.heap.size w w' :=
  (less_any X Y w hX hY).mono fun _ _ hh => by rw [decide_eq_true h] at hh; exact hh
theorem less_no (X Y : Nat) (w : World) (hX : X < two128) (hY : Y < two128) (h : Y ≤ X) : Calls Tryd.prog 74 #[vv X, vv Y] w fun e w' => e = .returned (.bool false) ∧ Below w.heap.size w w' :=
  (less_any X Y w hX hY).mono fun _ _ hh => by rw [decide_eq_false (by omega)] at hh; exact hh

theorem vv_one : vv 1 = .agg #[.int .u64 1, .int .u64 0] := rfl
theorem vv_zero : vv 0 = .agg #[.int .u64 0, .int .u64 0] := rfl
set_option maxHeartbeats 400000 in
theorem truth_any (b : Bool) (w : World) :
    Calls Tryd.prog 73 #[.bool b] w fun e w' => e = .returned (vv (bn b)) ∧ Below w.heap.size w w' := by
  cases b
  · go_enter Tryd.func73, Tryd.ntmps73
    go_wp2
    exact bodyPost_ret (v := vv 0) (by simp [results, Tryd.results73, go_sem, vv_zero]) rfl ⟨rfl, (Below.refl _ _).alloc (Nat.le_refl _) _⟩
  · go_enter Tryd.func73, Tryd.ntmps73
    go_wp2
    exact bodyPost_ret (v := vv 1) (by simp [results, Tryd.results73, go_sem, vv_one]) rfl ⟨rfl, (Below.refl _ _).alloc (Nat.le_refl _) _⟩

theorem add64_run (x y c : Int) (w : World) (hx : 0 ≤ x) (hy : 0 ≤ y) (hc0 : 0 ≤ c) (hc : c ≤ 1) :
    (callFunc 76 #[.int .u64 x, .int .u64 y, .int .u64 c]).run Tryd.prog w =
      .ok (.value (.tuple #[.int .u64 ((x + y + c) % 18446744073709551616), .int .u64 ((x + y + c) / 18446744073709551616)])) w := by
  rw [run_callFunc_extern Tryd.func76 (by kernel_rfl) (by kernel_rfl) (by kernel_rfl) (e := add64Entry) (by kernel_rfl), run_add64 x y c hx hy hc0 hc]
  rfl
theorem sub64_run (x y c : Int) (w : World) (hx : 0 ≤ x) (hy : 0 ≤ y) (hy1 : y ≤ 18446744073709551615) (hc0 : 0 ≤ c) (hc : c ≤ 1) :
    (callFunc 77 #[.int .u64 x, .int .u64 y, .int .u64 c]).run Tryd.prog w =
      .ok (.value (.tuple #[.int .u64 ((x - y - c) % 18446744073709551616), .int .u64 (brw x y c)])) w := by
  obtain ⟨x, rfl⟩ := Int.eq_ofNat_of_zero_le hx
  obtain ⟨y, rfl⟩ := Int.eq_ofNat_of_zero_le hy
  obtain ⟨c, rfl⟩ := Int.eq_ofNat_of_zero_le hc0
  rw [run_callFunc_extern Tryd.func77 (by kernel_rfl) (by kernel_rfl) (by kernel_rfl) (e := sub64Entry) (by kernel_rfl), run_sub64 x y c (by omega)]
  have e1 : (((x + 18446744073709551616 - y - c) % 18446744073709551616 : Nat) : Int) = ((x : Int) - y - c) % 18446744073709551616 := by omega
  have e2 : (((if x < y + c then 1 else 0 : Nat)) : Int) = brw x y c := by unfold brw; split <;> split <;> omega
  rw [e1, e2]
  rfl

set_option maxHeartbeats 400000 in
theorem sum_any (X Y : Nat) (w : World) :
    Calls Tryd.prog 69 #[vv X, vv Y] w fun e w' => e = .returned (vv (X + Y)) ∧ Below w.heap.size w w' := by
  obtain ⟨l0, l1⟩ := lo_b X
  obtain ⟨h0, h1⟩ := hi_b X
  obtain ⟨m0, m1⟩ := lo_b Y
  obtain ⟨k0, k1⟩ := hi_b Y
  go_enter Tryd.func69, Tryd.ntmps69
  go_wp2_with (simp (disch := omega) only [add64_run])
  rw [sum_lo, sum_hi]
  exact bodyPost_ret (v := vv (X + Y)) (by simp [results, Tryd.results69, go_sem]) rfl ⟨rfl, below3 _ _ _ _⟩

set_option maxHeartbeats 400000 in
theorem diff_any (X Y : Nat) (w : World) (hY : Y < two128) :
    Calls Tryd.prog 70 #[vv X, vv Y] w fun e w' => e = .returned (vv (X + two128 - Y)) ∧ Below w.heap.size w w' := by
  obtain ⟨l0, l1⟩ := lo_b X
  obtain ⟨h0, h1⟩ := hi_b X
  obtain ⟨m0, m1⟩ := lo_b Y
  obtain ⟨k0, k1⟩ := hi_b Y
  obtain ⟨b0, b1⟩ := brw_b (lo X) (lo Y) 0
  go_enter Tryd.func70, Tryd.ntmps70
  go_wp2_with (simp (disch := omega) only [sub64_run])
  rw [diff_lo X Y hY, diff_hi X Y hY]
  exact bodyPost_ret (v := vv (X + two128 - Y)) (by simp [results, Tryd.results70, go_sem]) rfl ⟨rfl, below3 _ _ _ _⟩

/-- The numbers of this translation for those of the library's contract of Mul64. -/
def mulRen : Go.Shelf.Ren := ⟨fun _ => 78, fun t => if t = 53 then 31 else 128, fun g => g⟩
set_option maxRecDepth 100000 in
theorem mulLaid : Go.Proofs.Lays.n264 Tryd.prog mulRen := by
  refine { mixed := ?_, f264 := ?_, t46 := ?_, a46 := ?_, z46 := ?_, v46 := ?_, t53 := ?_, a53 := ?_, z53 := ?_, v53 := ?_ }
  · kernel_rfl
  · kernel_rfl
  · kernel_rfl
  · exact fun w => by kernel_rfl
  · exact fun w => by kernel_rfl
  · exact fun w => by kernel_rfl
  · kernel_rfl
  · exact fun w => by kernel_rfl
  · exact fun w => by kernel_rfl
  · exact fun w => by kernel_rfl
theorem mul64_nat (x y : Nat) (hx : x < 18446744073709551616) (hy : y < 18446744073709551616) (w : World) :
    Calls Tryd.prog 78 #[.int .u64 x, .int .u64 y] w fun e w' => e = .returned (.tuple #[.int .u64 ((x * y / 18446744073709551616 : Nat) : Int), .int .u64 ((x * y % 18446744073709551616 : Nat) : Int)]) ∧ w = w' :=
  (Any.bits_Mul64 (ρ := mulRen) mulLaid x y hx hy w).mono fun _ _ ⟨he, hw⟩ => ⟨he, hw.symm⟩

theorem mul64_any (x y : Int) (x0 : 0 ≤ x) (x1 : x ≤ 18446744073709551615) (y0 : 0 ≤ y) (y1 : y ≤ 18446744073709551615) (w : World) :
    Calls Tryd.prog 78 #[.int .u64 x, .int .u64 y] w fun e w' => e = .returned (.tuple #[.int .u64 (x * y / 18446744073709551616), .int .u64 (x * y % 18446744073709551616)]) ∧ w = w' := by
  have h := mul64_nat x.toNat y.toNat (by omega) (by omega) w
  rwa [Int.natCast_ediv, Int.natCast_emod, Int.natCast_mul, Int.toNat_of_nonneg x0, Int.toNat_of_nonneg y0] at h

set_option maxHeartbeats 1000000 in
theorem product_any (X Y : Nat) (w : World) (hX : X < two128) (hY : Y < two128) :
    Calls Tryd.prog 71 #[vv X, vv Y] w fun e w' => e = .returned (vv (X * Y)) ∧ Below w.heap.size w w' := by
  obtain ⟨l0, l1⟩ := lo_b X
  obtain ⟨h0, h1⟩ := hi_b X
  obtain ⟨m0, m1⟩ := lo_b Y
  obtain ⟨k0, k1⟩ := hi_b Y
  go_enter Tryd.func71, Tryd.ntmps71
  go_wp2_with fail
  refine (mul64_any (lo X) (lo Y) (by omega) (by omega) (by omega) (by omega) _).mono ?_
  rintro e w' ⟨rfl, rfl⟩
  go_wp2
  rw [prod_lo, prod_hi X Y hX hY]
  exact bodyPost_ret (v := vv (X * Y)) (by simp [results, Tryd.results71, go_sem]) rfl ⟨rfl, below3 _ _ _ _⟩
end Go.Proofs.YtipjeihfhnilcaaDoor
end
