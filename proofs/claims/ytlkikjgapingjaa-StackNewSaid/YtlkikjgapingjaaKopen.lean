/-
  What a stack that came in gives: two slices of some length and a number. No function of the program is named here.
-/
import Derived.Test.YtlkikjgapingjaaLaw
import Derived.Test.YtlkikjgapingjaaKmem
import Derived.Lib.SmallJoins
import Derived.Deep.Slices
namespace Go.Proofs.Ytlkikjgapingjaa
open Go.Joins Go.ChangeShapes Go.WideShapes Go.ChangeAt Go.RowKit Go.Deep

section
variable {H : Type} {enc : TypeId × Value → H}
theorem slice_len {W : World} {base : Nat} {spare : Nat → Bool} {held : Bool} {t e : TypeId} {fuel : Nat} {v : Value} {x : DataW H × List MemPlace} (ht : Try.prog.underlying t = some (.slice e)) (h : DataW.trod enc Try.prog W base spare held fuel t [v] = some x) : ∃ A n c, v = .slice A n c ∧ n ≤ 9223372036854775807 := by
  rcases open_slice ht h with ⟨hcs, _⟩ | ⟨a, len, cap, m, n, D, Pl, hcs, _, hlc, hm, _⟩
  · simp only [List.cons.injEq, and_true] at hcs
    exact ⟨none, 0, 0, hcs, by omega⟩
  · simp only [List.cons.injEq, and_true] at hcs
    exact ⟨some a, len, cap, hcs, by unfold maxLen at hm; omega⟩
theorem stk_one_cell (f0 f1 f2 : Field) (hs : Try.prog.underlying 25 = some (.struct #[f0, f1, f2])) (h0 : f0.type = 22) (h1 : f1.type = 23) (h2 : f2.type = 3) (hone : oneCellFields Try.prog #[f0, f1, f2] = true)
    {W : World} {base b0 : Nat} {r : Reach} {v : Value} {d : DataW H} {p : List MemPlace} {spare : Nat → Bool} {held : Bool}
    (hval : Value.okWide Try.prog W r b0 25 v) (h : DataW.Trod enc Try.prog W base spare held 25 v d p) : ∃ (A1 : Option Addr) (n1 c1 : Nat) (A2 : Option Addr) (n2 c2 : Nat) (q : Int), v = kv A1 n1 c1 A2 n2 c2 q ∧ n1 ≤ 9223372036854775807 ∧ n2 ≤ 9223372036854775807 := by
  obtain ⟨v0, v1, v2, y0, y1, y2, n, rfl, _, _, t0, t1, t2⟩ := Go.Joins.open_agg3 hs hone (by kernel_rfl) hval h
  rw [h0] at t0
  rw [h1] at t1
  rw [h2] at t2
  obtain ⟨A1, n1, c1, rfl, l1⟩ := slice_len Try.underlying22 t0
  obtain ⟨A2, n2, c2, rfl, l2⟩ := slice_len Try.underlying23 t1
  obtain ⟨q, e2, _, _⟩ := DataW.trod_int Try.underlying3 t2
  simp only [List.cons.injEq, and_true] at e2
  subst e2
  exact ⟨A1, n1, c1, A2, n2, c2, q, rfl, l1, l2⟩
theorem open_stk {W : World} {base b0 : Nat} {r : Reach} {v : Value} {d : DataW H} {p : List MemPlace} {spare : Nat → Bool} {held : Bool}
    (hval : Value.okWide Try.prog W r b0 25 v) (h : DataW.Trod enc Try.prog W base spare held 25 v d p) : ∃ (A1 : Option Addr) (n1 c1 : Nat) (A2 : Option Addr) (n2 c2 : Nat) (q : Int), v = kv A1 n1 c1 A2 n2 c2 q ∧ n1 ≤ 9223372036854775807 ∧ n2 ≤ 9223372036854775807 :=
  stk_one_cell _ _ _ Try.underlying25 rfl rfl rfl (by kernel_rfl) hval h
end
end Go.Proofs.Ytlkikjgapingjaa
