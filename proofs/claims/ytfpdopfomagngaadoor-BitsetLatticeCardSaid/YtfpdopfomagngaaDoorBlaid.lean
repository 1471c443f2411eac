/-
  What the rows' listed table gives the walks: it lies in its variable as its initialiser lays it; a world in which it does; what a slice of ints that came in gives.
-/
import Derived.Test.YtfpdopfomagngaaDoorBlaws
import Derived.Test.YtfpdopfomagngaaDoorLaw
import Derived.ProofKit
import Derived.LaidMore
import Derived.OpenShut
import Derived.Stop.Joined
import Derived.MakeChecks
import Derived.LaidHandle
import Derived.Lib.LaidTab
namespace Go.Proofs.YtfpdopfomagngaaDoor
open Go.ChangeShapes Go.WideShapes Go.ChangeAt Go.RowKit

theorem laid_out : laidOutB Tryd.prog = true := by kernel_rfl
theorem own_knob : ownKnob Tryd.prog.godebug = none := by kernel_rfl
theorem gTab : Tryd.prog.globalNamed "math/bits.deBruijn64tab" = some 0 := by kernel_rfl
theorem tTab : (Tryd.prog.globals[0]?).map (·.type) = some 55 := by kernel_rfl
theorem cells_u8 : Tryd.prog.cellsOf 5 = 1 := by kernel_rfl
theorem cells_i64 : Tryd.prog.cellsOf 3 = 1 := by kernel_rfl
theorem cells_tab : Tryd.prog.cellsOf 55 = 64 := by kernel_rfl
/-- What every row of this seat lists. -/
abbrev laidOne : List (String × DataW Unit) := [("math/bits.deBruijn64tab", Rows.laid_math_bits_deBruijn64tab)]
theorem laid_tab : (Rows.laid_math_bits_deBruijn64tab : DataW Unit) = Lib.tabData .u8 (Lib.deBruijn64tab.map Int.ofNat) := rfl
theorem tab_of_laid {W : World} (h : laidMetH Tryd.prog laidOne W) : Tab W := by
  rw [MakeChecks.laidMetH_plain _ _ _ (by kernel_rfl)] at h
  unfold laidOne at h
  rw [laid_tab] at h
  have hT := Lib.tabIs_of_head gTab tTab Tryd.underlying55 Tryd.underlying5 cells_u8 cells_tab h
  intro j hj
  have := hT.cell gTab j (by rw [List.length_map]; exact hj)
  rw [this, List.getD_eq_getElem?_getD, List.getElem?_map, List.getElem?_eq_getElem hj, List.getD_eq_getElem?_getD, List.getElem?_eq_getElem hj]
  rfl
/-- The door's own heap meets the condition. -/
theorem door_met (os : Os) (args : Array Value) : laidMetH Tryd.prog laidOne ((World.doorLaid Tryd.prog 400 os).forCall (fun _ _ => 0) ⟨#[], args, []⟩).memory :=
  laidMetH_of_parts3 (fuel := 8) (laidMet_of_run' 8 (by kernel_rfl) (by kernel_rfl)) (by kernel_rfl) (by kernel_rfl)

/-- What a slice of ints that came in gives. -/
theorem open_i64s {H : Type} {enc : TypeId × Value → H} {P : Program} {W : World} {base : Nat} {t e : TypeId} {v : Value} {d : DataW H} {p : List MemPlace} (ht : P.underlying t = some (.slice e)) (he : P.underlying e = some (.int .i64)) (hc : P.cellsOf e = 1)
    (hval : Value.okWide P W .any base t v) (h : DataW.Trod enc P W 0 (fun _ => true) true t v d p) :
    ∃ (A : Option Addr) (n c : Nat) (zs : List Int), v = .slice A n c ∧ Lst W A n zs := by
  obtain ⟨a1, len, cap, rfl⟩ := okWide_slice ht hval
  obtain ⟨fuel, hf⟩ := h
  rcases open_ints ht he hc hf with ⟨hcs, hx⟩ | ⟨a, len', cap', zs, hcs, _, hlc, hm, hz, hx, hcell, hwz⟩
  · simp [Value.cells] at hcs
    obtain ⟨rfl, rfl, rfl⟩ := hcs
    exact ⟨none, 0, 0, [], rfl, ⟨rfl, by omega, Sees.nil_ _ _ _, fun z h => by cases h⟩⟩
  · simp [Value.cells] at hcs
    obtain ⟨rfl, rfl, rfl⟩ := hcs
    simp only [if_true] at hz
    have hlen : (zs.take len).length = len := by simp; omega
    refine ⟨some a, len, cap, zs.take len, rfl, ⟨hlen, by unfold maxLen at hm; omega, ?_, fun z hz' => ?_⟩⟩
    · intro k u hu
      have hk : k < len := by
        rcases Nat.lt_or_ge k len with h1 | h1
        · exact h1
        · rw [List.getElem?_eq_none (by rw [cellsI_length]; omega)] at hu; simp at hu
      rw [get_i64 (by omega)] at hu
      have hu' : u = .int .i64 (zs.getD k 0) := by
        injection hu with hu
        rw [← hu]
        have : k < zs.length := by omega
        simp [List.getD_eq_getElem?_getD, this]
      subst hu'
      obtain ⟨ab, ao, spot⟩ := a
      have h0 := hcell 0 (by omega)
      have hspot : spot = none := by simpa [Addr.add] using World.cell?_spot h0
      subst hspot
      have hck := hcell k (by omega)
      rw [WideShapes.add_plain] at hck
      exact ⟨ab, ao, rfl, World.block_lt_of_cell? _ _ hck, hck⟩
    · have := bounds_i64 (hwz z (List.mem_of_mem_take hz'))
      exact ⟨by omega, by omega⟩
end Go.Proofs.YtfpdopfomagngaaDoor
