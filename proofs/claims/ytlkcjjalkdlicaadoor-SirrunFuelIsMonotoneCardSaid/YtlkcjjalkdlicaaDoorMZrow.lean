import Derived.Test.YtlkcjjalkdlicaaDoorMRct
import Derived.Test.YtlkcjjalkdlicaaDoorMZstp
import Derived.Laws.Tables
import Derived.Laws.Cells
set_option linter.unusedVariables false
set_option linter.unusedSimpArgs false
section
/-
  A struct of many cells, loaded and stored whole (chapter 8's machine). No function of the program is named here.
-/
namespace Go.Proofs.YtlkcjjalkdlicaaDoor
open Go.RowKit

section
variable {w : World}
theorem agg_machine : (isAgg 79).run Tryd.prog w = .ok true w := by kernel_rfl
theorem size_machine : (sizeOf 79).run Tryd.prog w = .ok 27 w := by kernel_rfl
theorem agg_outcome : (isAgg 36).run Tryd.prog w = .ok true w := by kernel_rfl
theorem size_outcome : (sizeOf 36).run Tryd.prog w = .ok 6 w := by kernel_rfl
end
theorem mcells_one (s : Mch) (vi vt vf vs : Value) (h1 : vi.oneCell' = true) (h2 : vt.oneCell' = true) (h3 : vf.oneCell' = true) (h4 : vs.oneCell' = true) : ∀ v ∈ mcells s vi vt vf vs, v.oneCell' = true := by
  intro v hv
  unfold mcells at hv
  rcases List.mem_append.1 hv with hv | hv
  · exact vcells_oneCell _ v hv
  · simp only [mrest, List.mem_cons, List.not_mem_nil, or_false] at hv
    rcases hv with rfl | rfl | rfl | rfl | rfl | rfl | rfl | rfl | rfl | rfl | rfl <;> first | rfl | assumption
theorem mcells_len {s : Mch} {vi vt vf vs : Value} (h : s.regs.length = 8) : (mcells s vi vt vf vs).length = 27 := by unfold mcells; rw [List.length_append, vcells_len, h]; rfl
end Go.Proofs.YtlkcjjalkdlicaaDoor
end
