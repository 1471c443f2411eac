import Derived.Test.YtgcjckbndkddmaaDoorMGt
import Derived.Test.YtgcjckbndkddmaaDoorMGo
import Derived.Test.YtgcjckbndkddmaaDoorMGu
import Derived.Stop.LaidErr
set_option linter.unusedVariables false
set_option linter.unusedSimpArgs false
section
/-
  What the rows' three listed tables give the walks: they lie in their variables as their initialisers lay them; a world in which they do; what a slice of bytes that came in gives.
-/
namespace Go.Proofs.YtgcjckbndkddmaaDoor
open Go.ChangeShapes Go.WideShapes Go.ChangeAt Go.RowKit Go.Joins

theorem gTz : Tryd.prog.globalNamed "math/bits.deBruijn64tab" = some 1 := by kernel_rfl
theorem tTz : (Tryd.prog.globals[1]?).map (·.type) = some 118 := by kernel_rfl
theorem cells_tz : Tryd.prog.cellsOf 118 = 64 := by kernel_rfl
/-- What every row of this seat lists. -/
abbrev laid3 : List (String × DataW Unit) := [("math/bits.deBruijn32tab", Rows.laid_math_bits_deBruijn32tab), ("math/bits.deBruijn64tab", Rows.laid_math_bits_deBruijn64tab), ("spillframe/sir.shapes", Rows.laid_spillframe_sir_shapes)]
theorem laid_tz : (Rows.laid_math_bits_deBruijn64tab : DataW Unit) = Lib.tabData .u8 (Lib.deBruijn64tab.map Int.ofNat) := rfl
theorem tab_of_laid3 {W : World} (h : laidMetH Tryd.prog laid3 W) : Tab W := by
  rw [MakeChecks.laidMetH_plain _ _ _ (by kernel_rfl)] at h
  unfold laid3 at h
  have h2 := laidMet.tail h
  rw [laid_tz] at h2
  have hT := Lib.tabIs_of_head gTz tTz Tryd.underlying118 Tryd.underlying5 cells_u8 cells_tz h2
  intro j hj
  have := hT.cell gTz j (by rw [List.length_map]; exact hj)
  rw [this, List.getD_eq_getElem?_getD, List.getElem?_map, List.getElem?_eq_getElem hj, List.getD_eq_getElem?_getD, List.getElem?_eq_getElem hj]
  rfl
theorem shapes_of_laid3 {W : World} (h : laidMetH Tryd.prog laid3 W) : Shapes W := by
  rw [MakeChecks.laidMetH_plain _ _ _ (by kernel_rfl)] at h
  unfold laid3 at h
  have h2 := laidMet.tail (laidMet.tail h)
  rw [laid_tab] at h2
  obtain ⟨ps, ⟨g', t', cs, fuel, p, q, hg', ht', hvar, hd, _, _⟩, _⟩ := h2
  obtain rfl := Option.some.inj (gTab.symm.trans hg')
  obtain rfl := Option.some.inj (tTab.symm.trans ht')
  have hc := cells_of_shapes Tryd.underlying127 Tryd.underlying126 (by kernel_rfl) rfl rfl rfl rfl (by kernel_rfl) (by kernel_rfl) (by kernel_rfl) (by kernel_rfl) Tryd.underlying124 Tryd.underlying124 Tryd.underlying124 Tryd.underlying4 (by kernel_rfl) hd
  intro j u hj
  have := World.var?_cell gTab hvar j
  rw [this, ← Array.getElem?_toList, hc]
  exact hj
/-- The door's own heap meets the condition. -/
theorem door_met3 (os : Os) (args : Array Value) : laidMetH Tryd.prog laid3 ((World.doorLaid Tryd.prog 400 os).forCall (fun _ _ => 0) ⟨#[], args, []⟩).memory :=
  laidMetH_of_parts3 (fuel := 8) (laidMet_of_run' 8 (by kernel_rfl) (by kernel_rfl)) (by kernel_rfl) (by kernel_rfl)
theorem bounds_u8' {n : Int} (h : (Lit.int .u8 n).wf = true) : 0 ≤ n ∧ n ≤ 255 := by
  simp [Lit.wf, IntKind.min, IntKind.max, IntKind.signed, IntKind.bits] at h
  omega

/-- What a slice of bytes that came in gives. -/
theorem open_bs {H : Type} {enc : TypeId × Value → H} {P : Program} {W : World} {base : Nat} {t e : TypeId} {v : Value} {d : DataW H} {p : List MemPlace} (ht : P.underlying t = some (.slice e)) (he : P.underlying e = some (.int .u8)) (hc : P.cellsOf e = 1)
    (hval : Value.okWide P W .any base t v) (h : DataW.Trod enc P W 0 (fun _ => true) true t v d p) :
    ∃ (A : Option Addr) (n c : Nat) (zs : List Int), v = .slice A n c ∧ BsAt W W.heap.size A n c zs := by
  obtain ⟨A, n, c, zs, rfl, hA, hn, hm, hs, hz, hnc⟩ := open_u8s ht he hc hval h
  refine ⟨A, n, c, zs, rfl, hn, hnc, hA, ?_, hz, hs⟩
  obtain ⟨fuel, hf⟩ := h
  rcases open_ints ht he hc hf with ⟨hcs, hx⟩ | ⟨a, len', cap', zs', hcs, _, hlc, hm', _⟩
  · simp [Value.cells] at hcs
    omega
  · simp [Value.cells] at hcs
    obtain ⟨rfl, rfl, rfl⟩ := hcs
    unfold maxLen at hm'
    exact hm'
end Go.Proofs.YtgcjckbndkddmaaDoor
end
