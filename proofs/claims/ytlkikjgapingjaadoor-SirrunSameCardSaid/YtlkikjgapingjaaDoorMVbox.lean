import Derived.Test.YtlkikjgapingjaaDoorMGa
import Derived.Test.YtlkikjgapingjaaDoorMVmath
import Derived.Laws.Rows
set_option linter.unusedVariables false
set_option linter.unusedSimpArgs false
section
/-
  Words for the block that holds one value of 128 bits: 'Box w g V': block g holds just the two words of V. No function of the program is named here.
-/
namespace Go.Proofs.YtlkikjgapingjaaDoor
open Go.RowKit

/-- A value of 128 bits as Go has it. -/
abbrev vv (V : Nat) : Value := .agg #[.int .u64 (lo V), .int .u64 (hi V)]

/-- Block g is just the two words of V, not frozen. -/
def Box (w : World) (g V : Nat) : Prop := w.heap[g]? = some (.cells #[.int .u64 (lo V), .int .u64 (hi V)] 33 (0, 0))

section
variable {w w' : World} {g V : Nat}
theorem Box.lt (h : Box w g V) : g < w.heap.size := by
  rcases Nat.lt_or_ge g w.heap.size with hlt | hge
  · exact hlt
  · unfold Box at h; rw [Array.getElem?_eq_none hge] at h; cases h
theorem Box.c0 (h : Box w g V) : w.cell? ⟨g, 0, none⟩ = some (.int .u64 (lo V)) := cell_of_row w g 0 _ _ (0, 0) h
theorem Box.c1 (h : Box w g V) : w.cell? ⟨g, 1, none⟩ = some (.int .u64 (hi V)) := cell_of_row w g 1 _ _ (0, 0) h
theorem Box.z (h : Box w g V) (i : Nat) : w.frozen? ⟨g, i, none⟩ = false := by
  unfold Box at h
  simp [World.frozen?, h]
theorem Box.facts (h : Box w g V) : w.cell? ⟨g, 0, none⟩ = some (.int .u64 (lo V)) ∧ w.cell? ⟨g, 1, none⟩ = some (.int .u64 (hi V)) ∧ w.frozen? ⟨g, 0, none⟩ = false ∧ w.frozen? ⟨g, 1, none⟩ = false :=
  ⟨h.c0, h.c1, h.z 0, h.z 1⟩
theorem Box.new (w : World) (V : Nat) : Box (w.alloc (.cells #[.int .u64 (lo V), .int .u64 (hi V)] 33)) w.heap.size V := heap_alloc_new w _
theorem Box.drew (h : Box w g V) : Box w.drew g V := h
theorem Box.drewN (h : Box w g V) (n : Nat) : Box (w.drewN n) g V := h
theorem Box.alloc (h : Box w g V) (o : Obj) : Box (w.alloc o) g V := (Below.heap_alloc w o g h.lt).trans h
theorem Box.far (h : Box w g V) {p : Addr} (hp : g ≠ p.block) (u : Value) : Box (w.setCell p u) g V := (Below.heap_setCell w p u g hp).trans h
theorem Box.below {B : Nat} (h : Box w g V) (hb : Below B w w') (hg : g < B) : Box w' g V := (hb.block g hg).trans h
theorem Box.call (h : Box w g V) (hb : Below w.heap.size w w') : Box w' g V := h.below hb h.lt
theorem Box.set_ (h : Box w g V) (V' : Nat) : Box ((w.setCell ⟨g, 0, none⟩ (.int .u64 (lo V'))).setCell ⟨g, 1, none⟩ (.int .u64 (hi V'))) g V' := by
  unfold Box at h ⊢
  simp [World.setCell, Array.getElem?_modify, h]
theorem Box.set0 (h : Box w g V) (V' : Nat) (e : hi V = hi V') : Box (w.setCell ⟨g, 0, none⟩ (.int .u64 (lo V'))) g V' := by
  unfold Box at h ⊢
  simp [World.setCell, Array.getElem?_modify, h, e]
theorem Box.far2 (h : Box w g V) {g' : Nat} (hp : g ≠ g') (u u' : Value) : Box ((w.setCell ⟨g', 0, none⟩ u).setCell ⟨g', 1, none⟩ u') g V := (h.far (p := ⟨g', 0, none⟩) hp u).far (p := ⟨g', 1, none⟩) hp u'
theorem Box.at_ {g' : Nat} (h : Box w g V) (e : g = g') : Box w g' V := e ▸ h
theorem Box.congr {V' : Nat} (h : Box w g V) (e : V % two128 = V' % two128) : Box w g V' := by
  unfold Box at h ⊢
  rw [← (vv_congr e).1, ← (vv_congr e).2]; exact h
theorem Box.same {V' : Nat} (h : Box w g V) (e : V = V') : Box w g V' := e ▸ h
end

/-- After a store of a value at block g: what lies below B is as it was, if g is not. -/
theorem below_set {B g : Nat} {w w' : World} (h : Below B w w') (hg : B ≤ g) (u u' : Value) : Below B w ((w'.setCell ⟨g, 0, none⟩ u).setCell ⟨g, 1, none⟩ u') :=
  (h.setCell (p := ⟨g, 0, none⟩) hg u).setCell (p := ⟨g, 1, none⟩) hg u'
/-- A contract's world at a great enough block number. -/
theorem size_set (w : World) (p : Addr) (u : Value) : (w.setCell p u).heap.size = w.heap.size := by simp [World.setCell]
end Go.Proofs.YtlkikjgapingjaaDoor
end
