import Derived.Test.YtlkikjgapingjaaDoorMVbytem
set_option linter.unusedVariables false
set_option linter.unusedSimpArgs false
section
/-
  Plain mathematics of truncation, pairs and high words. No function of the program is named here.
-/
namespace Go.Proofs.YtlkikjgapingjaaDoor
open Go.RowKit

/-- The low words of two numbers; the high word of a number. -/
def pairV (X Y : Nat) : Nat := X % 18446744073709551616 + 18446744073709551616 * (Y % 18446744073709551616)
def highV (X : Nat) : Nat := X / 18446744073709551616 % 18446744073709551616
theorem pair_lo (X Y : Nat) : lo X = lo (pairV X Y) := by unfold lo pairV; omega
theorem pair_hi (X Y : Nat) : lo Y = hi (pairV X Y) := by unfold lo hi pairV; omega
theorem high_lo (X : Nat) : hi X = lo (highV X) := by unfold lo hi highV; omega
theorem high_hi (X : Nat) : hi (highV X) = 0 := by unfold hi highV; omega
theorem pair_high (X : Nat) (hX : X < two128) : pairV X (highV X) = X := by unfold pairV highV; unfold two128 at hX; omega

/-- The lowest bytes of a number. -/
def truncV (X : Nat) (n : Int) : Nat := X % 2 ^ (8 * szN n)
theorem truncV_lt (X : Nat) (n : Int) : truncV X n < two128 := trunc_lt X _ (szN_le n)
end Go.Proofs.YtlkikjgapingjaaDoor
end
