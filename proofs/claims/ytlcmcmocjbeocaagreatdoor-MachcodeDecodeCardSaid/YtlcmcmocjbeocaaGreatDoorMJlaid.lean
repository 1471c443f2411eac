import Derived.Test.YtlcmcmocjbeocaaGreatDoorMRct
import Derived.Test.YtlcmcmocjbeocaaGreatDoorMJdlw
import Derived.Test.YtlcmcmocjbeocaaGreatDoorMPmem
import Derived.ProofKit
import Derived.LaidMore
import Derived.OpenShut
import Derived.Stop.Joined
import Derived.MakeChecks
import Derived.LaidHandle
import Derived.Lib.LaidTab
import Derived.Stop.LaidErr
import Derived.Lib.SmallJoins
set_option linter.unusedVariables false
set_option linter.unusedSimpArgs false
section
/-
  What the rows' listed table gives the walks: it lies in its variable as its initialiser lays it; a world in which it does; what a slice of ints that came in gives.
-/
namespace Go.Proofs.YtlcmcmocjbeocaaGreatDoor
open Go.ChangeShapes Go.WideShapes Go.ChangeAt Go.RowKit

theorem laid_out : laidOutB Tryz.prog = true := by kernel_rfl
theorem own_knob : ownKnob Tryz.prog.godebug = none := by kernel_rfl
theorem gTab : Tryz.prog.globalNamed "math/bits.deBruijn64tab" = some 1 := by kernel_rfl
theorem tTab : (Tryz.prog.globals[1]?).map (·.type) = some 213 := by kernel_rfl
theorem cells_u8 : Tryz.prog.cellsOf 5 = 1 := by kernel_rfl
theorem cells_tab : Tryz.prog.cellsOf 213 = 64 := by kernel_rfl
/-- What every row of this seat lists. -/
abbrev laidOne : List (String × DataW Unit) := [("math/bits.deBruijn32tab", Rows.laid_math_bits_deBruijn32tab), ("math/bits.deBruijn64tab", Rows.laid_math_bits_deBruijn64tab)]
theorem laid_tab : (Rows.laid_math_bits_deBruijn64tab : DataW Unit) = Lib.tabData .u8 (Lib.deBruijn64tab.map Int.ofNat) := rfl
theorem tab_of_laid {W : World} (h : laidMetH Tryz.prog laidOne W) : Tab W := by
  rw [MakeChecks.laidMetH_plain _ _ _ (by kernel_rfl)] at h
  unfold laidOne at h
  have h := laidMet.tail h
  rw [laid_tab] at h
  have hT := Lib.tabIs_of_head gTab tTab Tryz.underlying213 Tryz.underlying5 cells_u8 cells_tab h
  intro j hj
  have := hT.cell gTab j (by rw [List.length_map]; exact hj)
  rw [this, List.getD_eq_getElem?_getD, List.getElem?_map, List.getElem?_eq_getElem hj, List.getD_eq_getElem?_getD, List.getElem?_eq_getElem hj]
  rfl
/-- The door's own heap meets the condition. -/
theorem door_met (os : Os) (args : Array Value) : laidMetH Tryz.prog laidOne ((World.doorLaid Tryz.prog 400 os).forCall (fun _ _ => 0) ⟨#[], args, []⟩).memory :=
  laidMetH_of_parts3 (fuel := 8) (laidMet_of_run' 8 (by kernel_rfl) (by kernel_rfl)) (by kernel_rfl) (by kernel_rfl)
end Go.Proofs.YtlcmcmocjbeocaaGreatDoor
end

section
/-
  What a slice of bytes that came in gives. No function of the program is named here.
-/
namespace Go.Proofs.YtlcmcmocjbeocaaGreatDoor
open Go.ChangeShapes Go.WideShapes Go.ChangeAt Go.RowKit Go.Joins

/-- What a slice of bytes that came in gives. -/
theorem open_bs {H : Type} {enc : TypeId × Value → H} {P : Program} {W : World} {base : Nat} {t e : TypeId} {v : Value} {d : DataW H} {p : List MemPlace} (ht : P.underlying t = some (.slice e)) (he : P.underlying e = some (.int .u8)) (hc : P.cellsOf e = 1)
    (hval : Value.okWide P W .any base t v) (h : DataW.Trod enc P W 0 (fun _ => true) true t v d p) :
    ∃ (A : Option Addr) (n c : Nat) (zs : List Int), v = .slice A n c ∧ BsAt W W.heap.size A n c zs := by
  obtain ⟨A, n, c, zs, rfl, hA, hn, hm, hs, hz, hnc⟩ := open_u8s ht he hc hval h
  refine ⟨A, n, c, zs, rfl, hn, hnc, hA, ?_, hz, hs⟩
  obtain ⟨fuel, hf⟩ := h
  rcases open_ints ht he hc hf with ⟨hcs, hx⟩ | ⟨a, len', cap', zs', hcs, _, hlc, hm', _⟩
  · simp [Value.cells] at hcs
    omega
  · simp [Value.cells] at hcs
    obtain ⟨rfl, rfl, rfl⟩ := hcs
    unfold maxLen at hm'
    exact hm'
end Go.Proofs.YtlcmcmocjbeocaaGreatDoor
end
