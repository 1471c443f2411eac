import Derived.Test.YtjgoldlebmfiiaaMKb
set_option linter.unusedVariables false
set_option linter.unusedSimpArgs false
section
/-
  Which operands the operations use, by their shapes. No function of the program is named here.
-/
namespace Go.Proofs.Ytjgoldlebmfiiaa
open Go.RowKit

/-- Which operands an operation uses. -/
def useA (op : Int) : Bool := !decide ((shpOf op).1 = 0)
def useB (op : Int) : Bool := !decide ((shpOf op).2.1 = 0)
def useC (op : Int) : Bool := !decide ((shpOf op).2.2.1 = 0)
def useI (op : Int) : Bool := (shpOf op).2.2.2

theorem shapes_of {z : Int} (h0 : 0 ≤ z) (h1 : z < 25) : (useA z = true ∧ useB z = true ∧ useC z = true ∧ useI z = false) ∨ (useA z = true ∧ useB z = true ∧ useC z = false ∧ useI z = false) ∨ (useA z = true ∧ useB z = false ∧ useC z = false ∧ useI z = false) ∨ (useA z = true ∧ useB z = false ∧ useC z = false ∧ useI z = true) ∨ (useA z = false ∧ useB z = false ∧ useC z = false ∧ useI z = true) ∨ (useA z = false ∧ useB z = false ∧ useC z = false ∧ useI z = false) := by
  have e : ∀ k : Fin 25, (useA (k.val : Int) = true ∧ useB (k.val : Int) = true ∧ useC (k.val : Int) = true ∧ useI (k.val : Int) = false) ∨ (useA (k.val : Int) = true ∧ useB (k.val : Int) = true ∧ useC (k.val : Int) = false ∧ useI (k.val : Int) = false) ∨ (useA (k.val : Int) = true ∧ useB (k.val : Int) = false ∧ useC (k.val : Int) = false ∧ useI (k.val : Int) = false) ∨ (useA (k.val : Int) = true ∧ useB (k.val : Int) = false ∧ useC (k.val : Int) = false ∧ useI (k.val : Int) = true) ∨ (useA (k.val : Int) = false ∧ useB (k.val : Int) = false ∧ useC (k.val : Int) = false ∧ useI (k.val : Int) = true) ∨ (useA (k.val : Int) = false ∧ useB (k.val : Int) = false ∧ useC (k.val : Int) = false ∧ useI (k.val : Int) = false) := by decide
  have := e ⟨z.toNat, by omega⟩
  simp only at this
  rwa [Int.toNat_of_nonneg h0] at this
end Go.Proofs.Ytjgoldlebmfiiaa
end
