import Derived.Test.YtipjeihfhnilcaaMOwn
set_option linter.unusedVariables false
set_option linter.unusedSimpArgs false
section
/-
  What an operation on two values must give, as numbers; equality of two values as Go asks it. No function of the program is named here.
-/
namespace Go.Proofs.Ytipjeihfhnilcaa
open Go.RowKit

/-- The result of an operation, and whether there is one. -/
def opRes (op : Int) (X Y : Nat) : Nat :=
  if op = 2 then (X + Y) % two128 else if op = 3 then (X + two128 - Y) % two128 else if op = 4 then X * Y % two128 else if op = 5 then X / Y else
  if op = 6 then X &&& Y else if op = 7 then X ||| Y else if op = 8 then X ^^^ Y else if op = 9 then bn (decide (X < Y)) else if op = 10 then bn (decide (X = Y)) else 0
def opOk (op : Int) (Y : Nat) : Bool := decide (2 ≤ op ∧ op ≤ 10 ∧ ¬ (op = 5 ∧ Y = 0))

theorem opRes_lt (op : Int) (X Y : Nat) (hX : X < two128) (hY : Y < two128) : opRes op X Y < two128 := by
  have h2 : (1 : Nat) < two128 := by decide
  have hb : ∀ b, bn b < two128 := fun b => by unfold bn; split <;> omega
  have hx := hX
  have hy := hY
  rw [two128_eq] at hx hy
  unfold opRes
  repeat' split
  all_goals first
    | exact Nat.mod_lt _ two128_pos
    | exact Nat.lt_of_le_of_lt (Nat.div_le_self _ _) hX
    | exact hb _
    | exact two128_pos
    | (rw [two128_eq]; exact Nat.and_lt_two_pow _ hy)
    | (rw [two128_eq]; exact Nat.or_lt_two_pow hx hy)
    | (rw [two128_eq]; exact Nat.xor_lt_two_pow hx hy)

theorem and_lo (X Y : Nat) : bits .and .u64 (lo X) (lo Y) = lo (X &&& Y) := by
  unfold lo
  rw [u64_and_nat _ _ (by omega) (by omega), show (18446744073709551616 : Nat) = 2 ^ 64 by decide, Nat.and_mod_two_pow]
theorem or_lo (X Y : Nat) : bits .or .u64 (lo X) (lo Y) = lo (X ||| Y) := by
  unfold lo
  rw [u64_or_nat _ _ (by omega) (by omega), show (18446744073709551616 : Nat) = 2 ^ 64 by decide, Nat.or_mod_two_pow]
theorem xor_lo (X Y : Nat) : bits .xor .u64 (lo X) (lo Y) = lo (X ^^^ Y) := by
  unfold lo
  rw [u64_xor_nat _ _ (by omega) (by omega), show (18446744073709551616 : Nat) = 2 ^ 64 by decide, Nat.xor_mod_two_pow]
theorem hi_lo (X : Nat) : hi X = lo (X >>> 64) := by
  unfold hi lo; rw [Nat.shiftRight_eq_div_pow]
theorem and_hi (X Y : Nat) : bits .and .u64 (hi X) (hi Y) = hi (X &&& Y) := by
  rw [hi_lo, hi_lo, hi_lo, and_lo, Nat.shiftRight_and_distrib]
theorem or_hi (X Y : Nat) : bits .or .u64 (hi X) (hi Y) = hi (X ||| Y) := by
  rw [hi_lo, hi_lo, hi_lo, or_lo, Nat.shiftRight_or_distrib]
theorem xor_hi (X Y : Nat) : bits .xor .u64 (hi X) (hi Y) = hi (X ^^^ Y) := by
  rw [hi_lo, hi_lo, hi_lo, xor_lo, Nat.shiftRight_xor_distrib]
end Go.Proofs.Ytipjeihfhnilcaa
end
