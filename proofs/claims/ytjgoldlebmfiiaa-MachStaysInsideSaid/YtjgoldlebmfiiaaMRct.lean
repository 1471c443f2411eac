import Derived.Test.YtjgoldlebmfiiaaMKa
import Derived.Laws.Tables
import Derived.Laws.Cells
set_option linter.unusedVariables false
set_option linter.unusedSimpArgs false
section
/-
  Structs loaded and stored whole; a function whose first result lies in a cell, and whose second is a slot: what it returns. No function of the program is named here.
-/
namespace Go.Proofs.Ytjgoldlebmfiiaa
open Go.RowKit

section
variable {w : World} {g t T : Nat} {cs vs : List Value}
theorem set_row_row (h : Row w g t cs) : Row (w.setRow g vs.toArray) g t vs := setRow_heap w g _ _ t _ h
theorem set_row_grown (w : World) (g : Nat) (c : Array Value) : w.grownBy (w.setRow g c) (some g) := ⟨rfl, rfl, rfl, by simp [World.setRow], fun i _ hi => by
  have : g ≠ i := fun e => hi (by rw [e])
  simp [World.setRow, Array.getElem?_modify, this]⟩
theorem load_run {n o : Nat} (ha : (isAgg T).run Try.prog w = .ok true w) (hs : (sizeOf T).run Try.prog w = .ok n w) (hl : cs.length = n) (hc : ∀ j v, cs[j]? = some v → w.cell? ⟨g, o + j, none⟩ = some v) : (Instr.loadAt T (.pointer (some ⟨g, o, none⟩))).run Try.prog w = .ok (.agg cs.toArray) w := by
  subst hl
  have hq := run_loadCells_list (P := Try.prog) w ⟨g, o, none⟩ cs (fun j v hj => by
    rw [show (⟨g, o, none⟩ : Addr).add j = ⟨g, o + j, none⟩ by unfold Addr.add; split <;> simp_all]
    exact hc j v hj)
  simp only [Instr.loadAt, Instr.sureAddr, loadVar, Sem.run_bind, Sem.run_pure, Result.andThen, ha, hs, hq, if_true]
theorem load_row {n : Nat} (ha : (isAgg T).run Try.prog w = .ok true w) (hs : (sizeOf T).run Try.prog w = .ok n w) (hl : cs.length = n) (h : Row w g t cs) : (Instr.loadAt T (.pointer (some ⟨g, 0, none⟩))).run Try.prog w = .ok (.agg cs.toArray) w :=
  load_run ha hs hl (fun j v hj => by rw [Nat.zero_add]; exact h.cell hj)
theorem store_row {n : Nat} (hs : (sizeOf T).run Try.prog w = .ok n w) (hl : vs.length = n) (hl2 : cs.length = n) (h1 : ∀ v ∈ vs, v.oneCell' = true) (h : Row w g t cs) : (Instr.storeAt T (.pointer (some ⟨g, 0, none⟩)) (.agg vs.toArray)).run Try.prog w = .ok () (w.setRow g vs.toArray) := by
  subst hl
  have hq := run_storeCells_from (P := Try.prog) g t vs 0 cs.toArray w h (by simp [hl2]) h1
  simp only [List.take_zero, List.nil_append] at hq
  simp only [Instr.storeAt, Instr.sureAddr, storeVar, Sem.run_bind, Sem.run_pure, Result.andThen, hs]
  simp [Value.cells, hq]
end
theorem wpList_load_whole {P : Program} {w : World} {ops : Array Oper} {rest : List Oper} {o : Oper} {a : Act} {Q : Exit → Act → World → Prop} (t : TypeId) (x : Operand) (hop : o.op = .load t x) (hg : o.guard = none) (c : Array Value) (p : Value) (hp : a.eval x = p)
    (hrun : (Instr.loadAt t p).run P w = .ok (.agg c) w) (hK : wpList P ops Q rest (a.put o.dst (.agg c)) w) : wpList P ops Q (o :: rest) a w := by
  refine wpList_plain hg fun K' hK' => ?_
  unfold Oper.wp
  simp only [hop, hp, execOp, Sem.run_bind, hrun, Result.andThen, Sem.run_pure]
  exact hK' _ _ hK
theorem wpList_store_whole {P : Program} {w w' : World} {ops : Array Oper} {rest : List Oper} {o : Oper} {a : Act} {Q : Exit → Act → World → Prop} (t : TypeId) (x y : Operand) (hop : o.op = .store t x y) (hg : o.guard = none) (p v : Value) (hp : a.eval x = p) (hv : a.eval y = v)
    (hrun : (Instr.storeAt t p v).run P w = .ok () w') (hK : wpList P ops Q rest (a.put o.dst undef) w') : wpList P ops Q (o :: rest) a w := by
  refine wpList_plain hg fun K' hK' => ?_
  unfold Oper.wp
  simp only [hop, hp, hv, execOp, Sem.run_bind, hrun, Result.andThen, Sem.run_pure]
  exact hK' _ _ hK
theorem results_cell_tmp {fn : Func} {t u : Tmp} {T : TypeId} (h : fn.results = #[.cell t T, .tmp u]) (tmps : Array Value) (w : World) (g o : Nat) (v : Value) (ht : tmps.getD t undef = .pointer (some ⟨g, o, none⟩)) (hl : (Instr.loadAt T (.pointer (some ⟨g, o, none⟩))).run Try.prog w = .ok v w) :
    (results fn tmps).run Try.prog w = .ok (.tuple #[v, tmps.getD u undef]) w := by
  have hl2 : (loadVar T ⟨g, o, none⟩).run Try.prog w = .ok v w := by
    rw [← hl]
    simp [Instr.loadAt, Instr.sureAddr]
  have ht3 : tmps[t]?.getD undef = .pointer (some ⟨g, o, none⟩) := by rw [← ht]; simp
  have hm : (results fn tmps).run Try.prog w = ((loadVar T ⟨g, o, none⟩).run Try.prog w).andThen fun v w => .ok (.tuple #[v, tmps.getD u undef]) w := by
    simp [results, h, ht3, asAddr]
  rw [hm, hl2]
  rfl
end Go.Proofs.Ytjgoldlebmfiiaa
end
