import Derived.Test.YtlkikjgapingjaaDoorMZmath
import Derived.Test.YtlkikjgapingjaaDoorMGd
import Derived.Test.YtlkikjgapingjaaDoorMGa
import Derived.Maps.Own
import Derived.Maps.Views
set_option linter.unusedVariables false
set_option linter.unusedSimpArgs false
section
/-
  A machine of the source language in memory (chapter 8): its block, its stack, its maps; what each store makes of it. No function of the program is named here.
-/
namespace Go.Proofs.YtlkikjgapingjaaDoor
open Go.RowKit
open Go.ChangeMaps Go.MapKept
open Go.WideElems (Fit)
open Go.Maps (Keyed)

/-! ### Maps of values -/
/-- How a value of 128 bits reads. -/
def valR (v : Value) : Option (DataW Unit × List MemPlace) := match v with
  | .agg cs => match cs.toList with
    | [.int .u64 a, .int .u64 b] => some (.agg [.lit (.int .u64 a), .lit (.int .u64 b)], [])
    | _ => none
  | _ => none
def valD (V : Nat) : DataW Unit := .agg [.lit (.int .u64 (lo V)), .lit (.int .u64 (hi V))]
theorem valR_vv (V : Nat) : valR (vv V) = some (valD V, []) := rfl
theorem valR_inv {v : Value} {V : Nat} {ps : List MemPlace} (h : valR v = some (valD V, ps)) : v = vv V := by
  unfold valR at h
  split at h
  · rename_i cs
    split at h
    · rename_i a b hcs
      injection h with h
      injection h with h1 h2
      unfold valD at h1
      injection h1 with h1
      injection h1 with h3 h4
      injection h4 with h4 h5
      injection h3 with h3
      injection h4 with h4
      injection h3 with h6 h7
      injection h4 with h8 h9
      subst h7 h9
      have : cs = #[.int .u64 (lo V), .int .u64 (hi V)] := by
        apply Array.toList_inj.1
        exact hcs
      rw [this]
    · cases h
  · cases h
theorem Tryd.keyed_int : Keyed Tryd.prog 3 := Go.Maps.int_keyed Tryd.underlying3
/-- Block b is a map that holds just what m says, of at most K entries. -/
def CellsAt (w : World) (b K : Nat) (m : Cl) : Prop :=
  ∃ D : DataW Unit, w.ownsMap Tryd.prog 3 valR b K D ∧ ∀ (i : Int) (zd : DataW Unit), D.atKey (.int .i64 i) zd = match m i with | none => zd | some V => valD V
section
variable {w w' : World} {b K : Nat} {m : Cl}
theorem CellsAt.lt (h : CellsAt w b K m) : b < w.heap.size := by obtain ⟨D, h1, _⟩ := h; exact h1.lt
theorem CellsAt.mono (h : CellsAt w b K m) {K' : Nat} (hK : K ≤ K') : CellsAt w b K' m := by obtain ⟨D, h1, h2⟩ := h; exact ⟨D, h1.mono hK, h2⟩
theorem CellsAt.kept {row : Option Nat} (h : CellsAt w b K m) (hg : w.grownBy w' row) (hne : some b ≠ row) : CellsAt w' b K m := by obtain ⟨D, h1, h2⟩ := h; exact ⟨D, h1.kept hg hne, h2⟩
theorem CellsAt.below {B : Nat} (h : CellsAt w b K m) (hb : Below B w w') (hB : b < B) : CellsAt w' b K m := by
  obtain ⟨D, ⟨es, clock, h1, h3⟩, h2⟩ := h
  exact ⟨D, ⟨es, clock, (hb.block b hB).trans h1, h3⟩, h2⟩
theorem CellsAt.drewN (h : CellsAt w b K m) (n : Nat) : CellsAt (w.drewN n) b K m := h
theorem CellsAt.setCell (h : CellsAt w b K m) (p : Addr) (hp : b ≠ p.block) (u : Value) : CellsAt (w.setCell p u) b K m := by
  obtain ⟨D, ⟨es, clock, h1, h3⟩, h2⟩ := h
  exact ⟨D, ⟨es, clock, (Below.heap_setCell w p u b hp).trans h1, h3⟩, h2⟩
theorem CellsAt.new (w : World) : CellsAt (w.alloc (.map #[] 0)) w.heap.size 0 noC :=
  ⟨_, World.ownsMap_made w Tryd.prog 3 valR, fun _ _ => rfl⟩
/-- A map is no row. -/
theorem CellsAt.not_row (h : CellsAt w b K m) {g : Nat} {cs : Array Value} {t : TypeId} {fr : Nat × Nat} (hg : w.heap[g]? = some (.cells cs t fr)) : b ≠ g := by
  obtain ⟨D, ⟨es, clock, h1, _⟩, _⟩ := h
  rintro rfl
  rw [h1] at hg
  cases hg
theorem key_int {i : Int} (hi : -9223372036854775808 ≤ i ∧ i ≤ 9223372036854775807) : keyOf Tryd.prog 3 (.int .i64 i) = some (.int .i64 i) := by
  have hw : (Lit.int .i64 i).wf = true := by
    show (decide (IntKind.i64.min ≤ i) && decide (i ≤ IntKind.i64.max)) = true
    rw [decide_eq_true (show IntKind.i64.min ≤ i from hi.1), decide_eq_true (show i ≤ IntKind.i64.max from hi.2)]
    rfl
  simp [keyOf, mapKey, Tryd.underlying3, hw]
theorem zeroV (w : World) : (zeroValue 33).run Tryd.prog w = .ok (vv 0) w := by kernel_rfl
/-- 'v, ok := m[i]'. -/
theorem CellsAt.look (h : CellsAt w b K m) (i : Int) (hi : -9223372036854775808 ≤ i ∧ i ≤ 9223372036854775807) :
    (Instr.lookup 79 (.map (some b)) (.int .i64 i) true).run Tryd.prog w = .ok (.tuple #[vv ((m i).getD 0), .bool (m i).isSome]) w := by
  obtain ⟨D, ⟨es, clock, hb, F, _, rfl⟩, h2⟩ := h
  have hkey := key_int hi
  have hat := h2 i
  rcases Maps.fit_look true Tryd.keyed_int Tryd.underlying79 (zeroV w) hb F hkey with ⟨hrun, _, h3⟩ | ⟨e0, y, _, _, hrun, hRv, h3, _⟩
  · cases hm : m i with
    | none => exact hrun
    | some V =>
      rw [hm] at hat
      have e1 := (h3 .nil).symm.trans (hat .nil)
      unfold valD at e1
      cases e1
  · cases hm : m i with
    | none =>
      rw [hm] at hat
      have e1 := (h3 .nil).symm.trans (hat .nil)
      have e2 := (h3 (.agg [])).symm.trans (hat (.agg []))
      rw [e1] at e2
      cases e2
    | some V =>
      rw [hm] at hat
      have e1 := (h3 .nil).symm.trans (hat .nil)
      obtain ⟨y1, y2⟩ := y
      dsimp only at e1
      subst e1
      rw [hrun, valR_inv hRv]
      rfl
/-- 'm[i] = v'. -/
theorem CellsAt.store (h : CellsAt w b K m) (i : Int) (hi : -9223372036854775808 ≤ i ∧ i ≤ 9223372036854775807) (V : Nat) (hK : K < maxLen) :
    ∃ w', (Instr.mapUpdate 79 (.map (some b)) (.int .i64 i) (vv V)).run Tryd.prog w = .ok () w' ∧ CellsAt w' b (K + 1) (updC m i V) ∧ w.grownBy w' (some b) := by
  obtain ⟨D, h1, h2⟩ := h
  have hkey := key_int hi
  have hM : Go.Maps.IsMap D := by rcases h1 with ⟨es, clock, _, _, _, e⟩; exact ⟨_, e⟩
  obtain ⟨w', hrun, ho, hg⟩ := h1.update Tryd.keyed_int Tryd.underlying79 hK hkey (valR_vv V)
  refine ⟨w', hrun, ⟨_, ho, fun j zd => ?_⟩, hg⟩
  unfold updC
  by_cases hj : j = i
  · subst hj
    rw [if_pos rfl, Go.Maps.atKey_put_same hM (show WideAt.IsKeyLit (.int .i64 j) from trivial)]
  · rw [if_neg hj, Go.Maps.atKey_put_other (fun e => hj (by injection e))]
    exact h2 j zd
end
end Go.Proofs.YtlkikjgapingjaaDoor
end
