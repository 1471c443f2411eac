/-
  Small words for the ends of walks. No function of the program is named here.
-/
import Derived.Test.YtjgoldlebmfiiaaKit
namespace Go.Proofs.Ytjgoldlebmfiiaa
open Go.RowKit

theorem ret_bool {a b : Bool} (h : a = b) : Ending.returned (.bool a) = .returned (.bool b) := by rw [h]
end Go.Proofs.Ytjgoldlebmfiiaa
