import Derived.Test.YtipjeihfhnilcaaMLaw
import Derived.Test.YtipjeihfhnilcaaMOwn
import Derived.Lib.SmallJoins
set_option linter.unusedVariables false
set_option linter.unusedSimpArgs false
section
/-
  What a value of 128 bits that came in gives: a number below 2^128. No function of the program is named here.
-/
namespace Go.Proofs.Ytipjeihfhnilcaa
open Go.Joins Go.ChangeShapes Go.WideShapes Go.ChangeAt Go.RowKit Go.Deep

section
variable {H : Type} {enc : TypeId × Value → H}
set_option maxRecDepth 100000 in
theorem vv_one_cell (f0 f1 : Field) (hs : Try.prog.underlying 39 = some (.struct #[f0, f1])) (h0 : f0.type = 37) (h1 : f1.type = 37) (hone : oneCellFields Try.prog #[f0, f1] = true)
    {W : World} {base b0 : Nat} {r : Reach} {v : Value} {d : DataW H} {p : List MemPlace} {spare : Nat → Bool} {held : Bool}
    (hval : Value.okWide Try.prog W r b0 39 v) (h : DataW.Trod enc Try.prog W base spare held 39 v d p) : ∃ V : Nat, v = vv V ∧ V < two128 := by
  obtain ⟨v0, v1, y0, y1, n, rfl, _, _, t0, t1⟩ := Go.Joins.open_agg2 hs hone (by kernel_rfl) hval h
  rw [h0] at t0
  rw [h1] at t1
  obtain ⟨a, e0, _, wa⟩ := DataW.trod_int Try.underlying37 t0
  obtain ⟨b, e1, _, wb⟩ := DataW.trod_int Try.underlying37 t1
  simp only [List.cons.injEq, and_true] at e0 e1
  subst e0 e1
  have ba := bounds_u64 wa
  have bb := bounds_u64 wb
  exact ⟨num a b, by unfold vv; rw [lo_num ba.1 ba.2 bb.1 bb.2, hi_num ba.1 ba.2 bb.1 bb.2], num_lt ba.2 bb.2⟩
set_option maxRecDepth 100000 in
theorem open_vv {W : World} {base b0 : Nat} {r : Reach} {v : Value} {d : DataW H} {p : List MemPlace} {spare : Nat → Bool} {held : Bool}
    (hval : Value.okWide Try.prog W r b0 39 v) (h : DataW.Trod enc Try.prog W base spare held 39 v d p) : ∃ V : Nat, v = vv V ∧ V < two128 :=
  vv_one_cell _ _ Try.underlying39 rfl rfl (by kernel_rfl) hval h
end
end Go.Proofs.Ytipjeihfhnilcaa
end
