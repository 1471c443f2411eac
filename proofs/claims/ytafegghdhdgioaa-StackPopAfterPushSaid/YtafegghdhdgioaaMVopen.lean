import Derived.Test.YtafegghdhdgioaaMLaw
import Derived.Test.YtafegghdhdgioaaMWords
import Derived.Lib.SmallJoins
set_option linter.unusedVariables false
set_option linter.unusedSimpArgs false
section
/-
  What a value of 128 bits that came in gives: a number below 2^128. No function of the program is named here.
-/
namespace Go.Proofs.Ytafegghdhdgioaa
open Go.Joins Go.ChangeShapes Go.WideShapes Go.ChangeAt Go.RowKit Go.Deep

section
variable {H : Type} {enc : TypeId × Value → H}
theorem vv_one_cell (f0 f1 : Field) (hs : Try.prog.underlying 42 = some (.struct #[f0, f1])) (h0 : f0.type = 40) (h1 : f1.type = 40) (hone : oneCellFields Try.prog #[f0, f1] = true)
    {W : World} {base b0 : Nat} {r : Reach} {v : Value} {d : DataW H} {p : List MemPlace} {spare : Nat → Bool} {held : Bool}
    (hval : Value.okWide Try.prog W r b0 42 v) (h : DataW.Trod enc Try.prog W base spare held 42 v d p) : ∃ V : Nat, v = vv V ∧ V < two128 := by
  obtain ⟨v0, v1, y0, y1, n, rfl, _, _, t0, t1⟩ := Go.Joins.open_agg2 hs hone (by kernel_rfl) hval h
  rw [h0] at t0
  rw [h1] at t1
  obtain ⟨a, e0, _, wa⟩ := DataW.trod_int Try.underlying40 t0
  obtain ⟨b, e1, _, wb⟩ := DataW.trod_int Try.underlying40 t1
  simp only [List.cons.injEq, and_true] at e0 e1
  subst e0 e1
  have ba := bounds_u64 wa
  have bb := bounds_u64 wb
  exact ⟨num a b, by unfold vv; rw [lo_num ba.1 ba.2 bb.1 bb.2, hi_num ba.1 ba.2 bb.1 bb.2], num_lt ba.2 bb.2⟩
theorem open_vv {W : World} {base b0 : Nat} {r : Reach} {v : Value} {d : DataW H} {p : List MemPlace} {spare : Nat → Bool} {held : Bool}
    (hval : Value.okWide Try.prog W r b0 42 v) (h : DataW.Trod enc Try.prog W base spare held 42 v d p) : ∃ V : Nat, v = vv V ∧ V < two128 :=
  vv_one_cell _ _ Try.underlying42 rfl rfl (by kernel_rfl) hval h
end
end Go.Proofs.Ytafegghdhdgioaa
end
