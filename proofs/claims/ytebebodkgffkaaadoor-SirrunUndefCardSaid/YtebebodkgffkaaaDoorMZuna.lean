import Derived.Test.YtebebodkgffkaaaDoorMZunl
set_option linter.unusedVariables false
set_option linter.unusedSimpArgs false
section
/-
  The law on values that were not written: both of its cases. Conditions: those of the types; the table of shapes lies as it is laid.
-/
namespace Go.Proofs.YtebebodkgffkaaaDoor
open Go.RowKit

theorem udlaw_any (v : Int) (ag : Bool) (w : World) (h0 : 0 ≤ v) (h1 : v ≤ 18446744073709551615) (hSh : Hid (Shapes w)) :
    Calls Tryd.prog 7 #[.int .u64 v, .bool ag] w fun e w' => e = .returned (.bool true) ∧ Below w.heap.size w w' := by
  cases ag
  · exact udlaw_no v w h0 h1 hSh
  · exact udlaw_yes v w h0 h1 hSh
end Go.Proofs.YtebebodkgffkaaaDoor
end
