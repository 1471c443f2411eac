import Derived.Test.YtlcmcmocjbeocaaMFsm
import Derived.Test.YtlcmcmocjbeocaaMBmath
import Derived.Test.YtlcmcmocjbeocaaMPown
import Derived.Laws.MakeOwn
import Derived.Maps.AppendAt
import Derived.ChangeAlike
set_option linter.unusedVariables false
set_option linter.unusedSimpArgs false
section
/-
  Rows of bools of a call's own: bools as cells, what a function that hands them back leaves. No function of the program is named here.
-/
namespace Go.Proofs.Ytlcmcmocjbeocaa
open Go.RowKit

theorem fmade {P : Program} {t e : TypeId} {i : TypeInfo} {z : Value} {L : List Value} (ht : P.underlying t = some (.slice e)) (hi : P.info? e = some i) (hz : i.zero = some z) (hs : i.size = 1) (hb : i.bytes ≤ 64) (hc : z.cells = #[z])
    (n : Nat) (hm : n ≤ 1048576) (hL : List.replicate n z = L) (W : World) :
    (Instr.makeSlice t (.int .i64 (n : Int)) (.int .i64 (n : Int))).run P W = .ok (.slice (some ⟨W.heap.size, 0, none⟩) n n) (W.alloc (.cells L.toArray e)) := by
  have hbn : i.bytes * n ≤ 64 * 1048576 := Nat.mul_le_mul hb hm
  have h := run_make W t e i _ ht hi hz .i64 .i64 (n : Int) (n : Int) (by omega) (by omega) (by rw [← Int.natCast_mul]; omega) (by omega)
  rw [h, show ((n : Int)).toNat = n by omega, hs, Nat.mul_one, hc, madeCells_list z n, hL]
/-- Bools as cells. -/
def bcells (l : List Bool) : List Value := l.map Value.bool
theorem bcells_at {l : List Bool} {k : Nat} {b : Bool} (h : l[k]? = some b) : (bcells l)[k]? = some (.bool b) := by simp [bcells, h]
theorem bcells_set (l : List Bool) (k : Nat) (b : Bool) : (bcells l).set k (.bool b) = bcells (l.set k b) := by simp [bcells, List.map_set]
theorem bcells_rep (n : Nat) (b : Bool) : bcells (List.replicate n b) = List.replicate n (.bool b) := by simp [bcells]
/-- What a function that hands back bools leaves. -/
def BoolsPost (R : List Bool) (w : World) (e : Ending) (w' : World) : Prop :=
  ∃ G, e = .returned (.slice (some ⟨G, 0, none⟩) R.length R.length) ∧ Row w' G 4 (bcells R) ∧ w.heap.size ≤ G ∧ Below w.heap.size w w'
theorem infoB : (Try.prog.info? 4).map (fun i => (i.zero, i.size, i.bytes)) = some (some (.bool false), 1, 1) := by kernel_rfl

theorem fbt_ne : 4 ≠ 3 := by decide
/-- A row of another type, over an append. -/
theorem Row.append {wr w2 : World} {base G t n : Nat} {v : Value} {xs cs : List Value} {o : Obj} (h : Row wr G t cs) (ho : wr.ownsRow base 3 1 v n xs) (ht : t ≠ 3) (hg : (wr.alloc o).grownBy w2 v.ownBlock) : Row w2 G t cs :=
  (h.alloc o).grown hg fun e => by
    rcases fown_apart ho h ht with h1 | h1
    · rw [h1] at e; cases e
    · exact h1 e.symm
theorem IntRel.far {w wr : World} {l : List Int} {v u : Value} {G t k : Nat} {cs : List Value} (h : IntRel w l v wr) (hr : Row wr G t cs) (ht : t ≠ 3) (hG : w.heap.size ≤ G) : IntRel w l v (wr.setCell ⟨G, k, none⟩ u) :=
  ⟨h.1.kept (fgrown_set wr G k u) (fown_apart h.1 hr ht), h.2.setCell (p := ⟨G, k, none⟩) hG _⟩
/-- The reached ones, in a row of the call's own. -/
def RchPost (l : List Ins) (n : Nat) (w : World) (e : Ending) (w' : World) : Prop := ∃ R, IsRch (suc l) n R ∧ BoolsPost R w e w'
end Go.Proofs.Ytlcmcmocjbeocaa
end
