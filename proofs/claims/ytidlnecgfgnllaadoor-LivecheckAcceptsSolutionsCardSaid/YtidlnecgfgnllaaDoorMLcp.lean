import Derived.Test.YtidlnecgfgnllaaDoorMLcs
import Derived.Test.YtidlnecgfgnllaaDoorMFrows
import Derived.Test.YtidlnecgfgnllaaDoorMFbg
set_option linter.unusedVariables false
set_option linter.unusedSimpArgs false
section
/-
  A copy of an annotation in a new row, in whose sets something is changed. No function of the program is named here.
-/
namespace Go.Proofs.YtidlnecgfgnllaaDoor
open Go.RowKit

/-- The copy: block X is its box, block G its row. -/
structure CpI (w : World) (X G n c : Nat) (vs sp : List Value) (zss : List (List Int)) (wr : World) : Prop where
  x : Row wr X 25 [.slice (some ⟨G, 0, none⟩) n c]
  o : Anr wr w.heap.size G vs sp zss
  b : Below w.heap.size w wr
section
variable {w wr w2 : World} {X G n c : Nat} {vs sp : List Value} {zss : List (List Int)}
theorem CpI.call (h : CpI w X G n c vs sp zss wr) (hb : Below wr.heap.size wr w2) : CpI w X G n c vs sp zss w2 := ⟨h.x.call hb, h.o.below hb, below_call h.b hb⟩
theorem CpI.put (h : CpI w X G n c vs sp zss wr) {j c' : Nat} {A : Option Addr} {zs : List Int} (hj : j < zss.length) (hl : Lst wr A zs.length zs) (hn : A = none → c' = 0) (ha : Awy A zs G) :
    CpI w X G n c (vs.set j (.slice A zs.length c')) sp (zss.set j zs) (wr.setCell ⟨G, j, none⟩ (.slice A zs.length c')) :=
  ⟨h.x.far (p := ⟨G, j, none⟩) (h.x.ne_ h.o.row (by decide)) _, h.o.put hj hl hn ha, h.b.setCell (p := ⟨G, j, none⟩) h.o.gb _⟩
theorem CpI.ann (h : CpI w X G n c vs sp zss wr) (hn : zss.length = n) (hm : n ≤ 1048576) : Ann wr (some ⟨G, 0, none⟩) n zss := h.o.ann hn hm
/-- What can be read of an annotation: its row as values. -/
theorem Ann.open_ {A : Option Addr} (h : Ann w A n zss) : ∃ us : List Value, us.length = n ∧ Hid (Sees w w.heap.size A us) ∧ Hid (∀ u ∈ us, u.oneCell' = true) ∧ Hid (∀ (i : Nat) (v : Value) (zs : List Int), us[i]? = some v → zss[i]? = some zs → ∃ (A' : Option Addr) (c' : Nat), v = .slice A' zs.length c' ∧ Lst w A' zs.length zs ∧ (A' = none → c' = 0)) := by
  obtain ⟨hlz, hle, us, hsee, hul, hlst⟩ := h
  refine ⟨us, hul, hide hsee, hide fun u hu => ?_, hide hlst⟩
  obtain ⟨i, hi⟩ := List.mem_iff_getElem?.1 hu
  obtain ⟨A', c', e, -, -⟩ := hlst i u _ hi (List.getElem?_eq_getElem (by rw [hlz, ← hul]; exact (List.getElem?_eq_some_iff.1 hi).1))
  rw [e]
  rfl
end
end Go.Proofs.YtidlnecgfgnllaaDoor
end
