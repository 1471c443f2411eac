import Derived.Test.YtebebodkgffkaaaDoorMBsat
import Derived.Test.YtebebodkgffkaaaDoorMLaw
import Derived.ProofKit
import Derived.LaidMore
import Derived.OpenShut
import Derived.Stop.Joined
import Derived.Lib.SmallJoins
set_option linter.unusedVariables false
set_option linter.unusedSimpArgs false
section
/-
  What a slice of bytes that came in gives. No function of the program is named here.
-/
namespace Go.Proofs.YtebebodkgffkaaaDoor
open Go.ChangeShapes Go.WideShapes Go.ChangeAt Go.RowKit Go.Joins

/-- What a slice of bytes that came in gives. -/
theorem open_bs {H : Type} {enc : TypeId × Value → H} {P : Program} {W : World} {base : Nat} {t e : TypeId} {v : Value} {d : DataW H} {p : List MemPlace} (ht : P.underlying t = some (.slice e)) (he : P.underlying e = some (.int .u8)) (hc : P.cellsOf e = 1)
    (hval : Value.okWide P W .any base t v) (h : DataW.Trod enc P W 0 (fun _ => true) true t v d p) :
    ∃ (A : Option Addr) (n c : Nat) (zs : List Int), v = .slice A n c ∧ BsAt W W.heap.size A n c zs := by
  obtain ⟨A, n, c, zs, rfl, hA, hn, hm, hs, hz, hnc⟩ := open_u8s ht he hc hval h
  refine ⟨A, n, c, zs, rfl, hn, hnc, hA, ?_, hz, hs⟩
  obtain ⟨fuel, hf⟩ := h
  rcases open_ints ht he hc hf with ⟨hcs, hx⟩ | ⟨a, len', cap', zs', hcs, _, hlc, hm', _⟩
  · simp [Value.cells] at hcs
    omega
  · simp [Value.cells] at hcs
    obtain ⟨rfl, rfl, rfl⟩ := hcs
    unfold maxLen at hm'
    exact hm'
theorem cells_u8 : Tryd.prog.cellsOf 5 = 1 := by kernel_rfl
end Go.Proofs.YtebebodkgffkaaaDoor
end
