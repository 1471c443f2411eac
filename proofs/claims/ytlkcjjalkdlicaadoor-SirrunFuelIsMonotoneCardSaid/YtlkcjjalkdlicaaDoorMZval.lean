import Derived.Test.YtlkcjjalkdlicaaDoorMZvld
set_option linter.unusedVariables false
set_option linter.unusedSimpArgs false
section
/-
  Every value of a run's trace, and its result, are numbers of 128 bits. No function of the program is named here.
-/
namespace Go.Proofs.YtlkcjjalkdlicaaDoor
open Go.RowKit

/-- The output and the result are numbers of 128 bits. -/
structure Vals (s : Mch) : Prop where
  t : ∀ v ∈ s.trace, v < two128
  r : s.res < two128
theorem Vals.of {s t : Mch} (h : Vals s) (h1 : t.trace = s.trace) (h2 : t.res = s.res) : Vals t := ⟨by rw [h1]; exact h.t, by rw [h2]; exact h.r⟩
theorem read_res (s : Mch) (o : Option Nat) : (s.read o).trace = s.trace ∧ (s.read o).res = s.res := by unfold Mch.read; split <;> exact ⟨rfl, rfl⟩
theorem step_vals {F : Pg} {s : Mch} (h : Vld F s) (hv : Vals s) : Vals (s.stepM F) := by
  have hreg : ∀ i, s.fetched.reg i < two128 := fun i => h.reg i
  have hf : Vals s.fetched := hv.of rfl rfl
  unfold Mch.stepM Mch.exec
  generalize s.next F = x
  generalize s.fetched = u at hreg hf
  split
  · unfold Mch.accessM
    split
    · obtain ⟨r1, r2⟩ := read_res u (u.top.sl x.b)
      exact hf.of r1 r2
    · split
      · exact hf.of rfl rfl
      · split
        · obtain ⟨r1, r2⟩ := read_res u (u.top.sl x.b)
          exact hf.of r1 r2
        · split
          · exact hf.of rfl rfl
          · obtain ⟨r1, r2⟩ := read_res u (u.caller.ar x.b)
            exact hf.of r1 r2
  · split
    · unfold Mch.transferM
      split
      · exact hf.of rfl rfl
      · split
        · split
          · exact hf.of rfl rfl
          · exact hf.of rfl rfl
        · split
          · exact hf.of rfl rfl
          · split
            · unfold Mch.leave
              dsimp only
              split
              · exact ⟨hf.t, hreg 0⟩
              · exact hf.of rfl rfl
            · exact hf.of rfl rfl
    · unfold Mch.computeM
      split
      · exact hf.of rfl rfl
      · split
        · exact hf.of rfl rfl
        · split
          · exact hf.of rfl rfl
          · split
            · exact hf.of rfl rfl
            · split
              · exact hf.of rfl rfl
              · split
                · refine ⟨fun v hm => ?_, hf.r⟩
                  rcases List.mem_append.1 (show v ∈ u.trace ++ [u.reg x.a] from hm) with hm | hm
                  · exact hf.t v hm
                  · rw [List.mem_singleton.1 hm]; exact hreg _
                · unfold Mch.applyM
                  split
                  · exact hf.of rfl rfl
                  · exact hf.of rfl rfl
theorem iter_vals {F : Pg} (hF : pgE F = 0) (him : ImmF F) : ∀ (k : Nat) (s : Mch), (s.ended = true ∨ Vld F s) → Vals s → Vals (iterM F k s)
  | 0, _, _, hv => hv
  | k + 1, s, h, hv => by
    rw [iterM]
    by_cases he : s.ended = true
    · rw [if_pos he]; exact hv
    · rw [if_neg he]
      rcases h with h | h
      · exact absurd h he
      · exact iter_vals hF him k _ (vld_step hF him h) (step_vals h hv)
theorem run_vals {F : Pg} (hF : pgE F = 0) (him : ImmF F) {inp : List Nat} (hi : ∀ v ∈ inp, v < 18446744073709551616) (n : Nat) : Vals (runM F inp n) := by
  have h := iter_vals hF him n (startM inp) (.inr (vld_start hF hi)) ⟨(fun v hm => by cases hm), show (0 : Nat) < two128 by decide⟩
  unfold runM
  refine h.of (fuelled_same _).2 ?_
  unfold Mch.fuelled
  split <;> rfl
end Go.Proofs.YtlkcjjalkdlicaaDoor
end
