/-
  Strings put together: what the walks of the texts use. No function of the program is named here.
-/
import Derived.Test.YtpkdeblbobfjbaaDoorLeaf
import Derived.Lib.ItoaWalk
import Derived.Laws.IdiomStrings
namespace Go.Proofs.YtpkdeblbobfjbaaDoor
open Go.RowKit

theorem ret_str {l m : List UInt8} (h : l = m) : Ending.returned (.string ⟨l.toArray⟩) = .returned (.string ⟨m.toArray⟩) := by rw [h]
/-- Two strings behind each other. -/
theorem cat_eq (l m : List UInt8) : ((⟨l.toArray⟩ : ByteArray) ++ ⟨m.toArray⟩) = ⟨(l ++ m).toArray⟩ := by
  apply ByteArray.ext; simp
end Go.Proofs.YtpkdeblbobfjbaaDoor
