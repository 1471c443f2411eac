import Derived.Test.YthaabgiefpfeaaaMPmem
import Derived.Test.YthaabgiefpfeaaaMLaw
set_option linter.unusedVariables false
set_option linter.unusedSimpArgs false
section
/-
  What a slice of ints that came in gives. No function of the program is named here.
-/
namespace Go.Proofs.Ythaabgiefpfeaaa
open Go.ChangeShapes Go.WideShapes Go.ChangeAt Go.RowKit

theorem cells_i64 : Try.prog.cellsOf 3 = 1 := by kernel_rfl
/-- What a slice of ints that came in gives. -/
theorem open_i64s {H : Type} {enc : TypeId × Value → H} {P : Program} {W : World} {base : Nat} {t e : TypeId} {v : Value} {d : DataW H} {p : List MemPlace} (ht : P.underlying t = some (.slice e)) (he : P.underlying e = some (.int .i64)) (hc : P.cellsOf e = 1)
    (hval : Value.okWide P W .any base t v) (h : DataW.Trod enc P W 0 (fun _ => true) true t v d p) :
    ∃ (A : Option Addr) (n c : Nat) (zs : List Int), v = .slice A n c ∧ Lst W A n zs := by
  obtain ⟨a1, len, cap, rfl⟩ := okWide_slice ht hval
  obtain ⟨fuel, hf⟩ := h
  rcases open_ints ht he hc hf with ⟨hcs, hx⟩ | ⟨a, len', cap', zs, hcs, _, hlc, hm, hz, hx, hcell, hwz⟩
  · simp [Value.cells] at hcs
    obtain ⟨rfl, rfl, rfl⟩ := hcs
    exact ⟨none, 0, 0, [], rfl, ⟨rfl, by omega, Sees.nil_ _ _ _, fun z h => by cases h⟩⟩
  · simp [Value.cells] at hcs
    obtain ⟨rfl, rfl, rfl⟩ := hcs
    simp only [if_true] at hz
    have hlen : (zs.take len).length = len := by simp; omega
    refine ⟨some a, len, cap, zs.take len, rfl, ⟨hlen, by unfold maxLen at hm; omega, ?_, fun z hz' => ?_⟩⟩
    · intro k u hu
      have hk : k < len := by
        rcases Nat.lt_or_ge k len with h1 | h1
        · exact h1
        · rw [List.getElem?_eq_none (by rw [cellsI_length]; omega)] at hu; simp at hu
      rw [get_i64 (by omega)] at hu
      have hu' : u = .int .i64 (zs.getD k 0) := by
        injection hu with hu
        rw [← hu]
        have : k < zs.length := by omega
        simp [List.getD_eq_getElem?_getD, this]
      subst hu'
      obtain ⟨ab, ao, spot⟩ := a
      have h0 := hcell 0 (by omega)
      have hspot : spot = none := by simpa [Addr.add] using World.cell?_spot h0
      subst hspot
      have hck := hcell k (by omega)
      rw [WideShapes.add_plain] at hck
      exact ⟨ab, ao, rfl, World.block_lt_of_cell? _ _ hck, hck⟩
    · have := bounds_i64 (hwz z (List.mem_of_mem_take hz'))
      exact ⟨by omega, by omega⟩
end Go.Proofs.Ythaabgiefpfeaaa
end
