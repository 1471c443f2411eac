import Derived.Test.YtjbgepjdohfhkaaMPmath
import Derived.Test.YtjbgepjdohfhkaaMPmem
set_option linter.unusedVariables false
set_option linter.unusedSimpArgs false
section
/-
  A right function's code: no jump leaves it, control does not run over its end. No function of the program is named here.
-/
namespace Go.Proofs.Ytjbgepjdohfhkaa
open Go.RowKit

theorem flow_ok {N : Nat} {f : Fn} (h : fnE N f = 0) : FlowOk f.code := by
  obtain ⟨h1, -, -, h4, h5⟩ := fnE_zero.1 h
  refine ⟨h1, fun k x hx ho => ?_, fun k x hx ho => ?_, fun k x hx ht => not_last h5 hx ht⟩
  · have h2 := opndE_zero.1 (insE_zero.1 (h4 x (List.mem_of_getElem? hx))).2.1
    rw [ho] at h2
    have h3 := withB_true.1 h2
    rw [show (shpOf 20).1 = 6 from rfl, show cntV N f 6 = (f.code.length : Int) from rfl] at h3
    exact h3
  · have h2 := opndE_zero.1 (insE_zero.1 (h4 x (List.mem_of_getElem? hx))).2.2.1
    rw [ho] at h2
    have h3 := withB_true.1 h2
    rw [show (shpOf 21).2.1 = 6 from rfl, show cntV N f 6 = (f.code.length : Int) from rfl] at h3
    exact h3
theorem flow_one {N : Nat} {f : Fn} (h : fnE N f = 0) : 1 ≤ f.code.length := closed_some (fnE_zero.1 h).2.2.2.2
theorem pg_fn {F : Pg} {k : Nat} {f : Fn} (h : pgE F = 0) (hk : F[k]? = some f) : fnE F.length f = 0 := (pgE_zero.1 h).2.2 f (List.mem_of_getElem? hk)
end Go.Proofs.Ytjbgepjdohfhkaa
end
