import Derived.Test.YtlkcjjalkdlicaaDoorMKit
import Derived.Test.YtlkcjjalkdlicaaDoorMZmem
import Derived.Laws.Tables
import Derived.Laws.Cells
import Derived.RegionTactic
import Derived.BigRegion
import Derived.Deep.DeepCutAuto
set_option linter.unusedVariables false
set_option linter.unusedSimpArgs false
section
/-
  Structs loaded and stored whole; a function whose first result lies in a cell, and whose second is a slot: what it returns. No function of the program is named here.
-/
namespace Go.Proofs.YtlkcjjalkdlicaaDoor
open Go.RowKit

section
variable {w : World} {g t T : Nat} {cs vs : List Value}
theorem set_row_row (h : Row w g t cs) : Row (w.setRow g vs.toArray) g t vs := setRow_heap w g _ _ t _ h
theorem set_row_grown (w : World) (g : Nat) (c : Array Value) : w.grownBy (w.setRow g c) (some g) := ⟨rfl, rfl, rfl, by simp [World.setRow], fun i _ hi => by
  have : g ≠ i := fun e => hi (by rw [e])
  simp [World.setRow, Array.getElem?_modify, this]⟩
theorem load_run {n o : Nat} (ha : (isAgg T).run Tryd.prog w = .ok true w) (hs : (sizeOf T).run Tryd.prog w = .ok n w) (hl : cs.length = n) (hc : ∀ j v, cs[j]? = some v → w.cell? ⟨g, o + j, none⟩ = some v) : (Instr.loadAt T (.pointer (some ⟨g, o, none⟩))).run Tryd.prog w = .ok (.agg cs.toArray) w := by
  subst hl
  have hq := run_loadCells_list (P := Tryd.prog) w ⟨g, o, none⟩ cs (fun j v hj => by
    rw [show (⟨g, o, none⟩ : Addr).add j = ⟨g, o + j, none⟩ by unfold Addr.add; split <;> simp_all]
    exact hc j v hj)
  simp only [Instr.loadAt, Instr.sureAddr, loadVar, Sem.run_bind, Sem.run_pure, Result.andThen, ha, hs, hq, if_true]
theorem load_row {n : Nat} (ha : (isAgg T).run Tryd.prog w = .ok true w) (hs : (sizeOf T).run Tryd.prog w = .ok n w) (hl : cs.length = n) (h : Row w g t cs) : (Instr.loadAt T (.pointer (some ⟨g, 0, none⟩))).run Tryd.prog w = .ok (.agg cs.toArray) w :=
  load_run ha hs hl (fun j v hj => by rw [Nat.zero_add]; exact h.cell hj)
theorem store_row {n : Nat} (hs : (sizeOf T).run Tryd.prog w = .ok n w) (hl : vs.length = n) (hl2 : cs.length = n) (h1 : ∀ v ∈ vs, v.oneCell' = true) (h : Row w g t cs) : (Instr.storeAt T (.pointer (some ⟨g, 0, none⟩)) (.agg vs.toArray)).run Tryd.prog w = .ok () (w.setRow g vs.toArray) := by
  subst hl
  have hq := run_storeCells_from (P := Tryd.prog) g t vs 0 cs.toArray w h (by simp [hl2]) h1
  simp only [List.take_zero, List.nil_append] at hq
  simp only [Instr.storeAt, Instr.sureAddr, storeVar, Sem.run_bind, Sem.run_pure, Result.andThen, hs]
  simp [Value.cells, hq]
end
theorem wpList_load_whole {P : Program} {w : World} {ops : Array Oper} {rest : List Oper} {o : Oper} {a : Act} {Q : Exit → Act → World → Prop} (t : TypeId) (x : Operand) (hop : o.op = .load t x) (hg : o.guard = none) (c : Array Value) (p : Value) (hp : a.eval x = p)
    (hrun : (Instr.loadAt t p).run P w = .ok (.agg c) w) (hK : wpList P ops Q rest (a.put o.dst (.agg c)) w) : wpList P ops Q (o :: rest) a w := by
  refine wpList_plain hg fun K' hK' => ?_
  unfold Oper.wp
  simp only [hop, hp, execOp, Sem.run_bind, hrun, Result.andThen, Sem.run_pure]
  exact hK' _ _ hK
theorem wpList_store_whole {P : Program} {w w' : World} {ops : Array Oper} {rest : List Oper} {o : Oper} {a : Act} {Q : Exit → Act → World → Prop} (t : TypeId) (x y : Operand) (hop : o.op = .store t x y) (hg : o.guard = none) (p v : Value) (hp : a.eval x = p) (hv : a.eval y = v)
    (hrun : (Instr.storeAt t p v).run P w = .ok () w') (hK : wpList P ops Q rest (a.put o.dst undef) w') : wpList P ops Q (o :: rest) a w := by
  refine wpList_plain hg fun K' hK' => ?_
  unfold Oper.wp
  simp only [hop, hp, hv, execOp, Sem.run_bind, hrun, Result.andThen, Sem.run_pure]
  exact hK' _ _ hK
theorem results_cell_tmp {fn : Func} {t u : Tmp} {T : TypeId} (h : fn.results = #[.cell t T, .tmp u]) (tmps : Array Value) (w : World) (g o : Nat) (v : Value) (ht : tmps.getD t undef = .pointer (some ⟨g, o, none⟩)) (hl : (Instr.loadAt T (.pointer (some ⟨g, o, none⟩))).run Tryd.prog w = .ok v w) :
    (results fn tmps).run Tryd.prog w = .ok (.tuple #[v, tmps.getD u undef]) w := by
  have hl2 : (loadVar T ⟨g, o, none⟩).run Tryd.prog w = .ok v w := by
    rw [← hl]
    simp [Instr.loadAt, Instr.sureAddr]
  have ht3 : tmps[t]?.getD undef = .pointer (some ⟨g, o, none⟩) := by rw [← ht]; simp
  have hm : (results fn tmps).run Tryd.prog w = ((loadVar T ⟨g, o, none⟩).run Tryd.prog w).andThen fun v w => .ok (.tuple #[v, tmps.getD u undef]) w := by
    simp [results, h, ht3, asAddr]
  rw [hm, hl2]
  rfl
end Go.Proofs.YtlkcjjalkdlicaaDoor
end

section
/-
  The contracts of the machine's small methods (chapter 8): end, last, read, defined. Conditions: those of the types.
-/
namespace Go.Proofs.YtlkcjjalkdlicaaDoor
open Go.RowKit

section
variable {g base : Nat} {vi vt vf vs : Value} {zs : List Zn} {s : Mch}
/-- The machine as a call leaves it. -/
def MPost (g base : Nat) (vf : Value) (s : Mch) (w : World) (e : Ending) (w' : World) : Prop :=
  e = .returned (.tuple #[]) ∧ (∃ vi vt vs zs, MRaw w' g base vi vt vf vs zs s) ∧ Below base w w'
theorem cend_any (k : Int) (w : World) (h : Hid (MRaw w g base vi vt vf vs zs s)) :
    Calls Tryd.prog 52 #[.pointer (some ⟨g, 0, none⟩), .int .i64 k] w fun e w' => e = .returned (.tuple #[]) ∧ MRaw w' g base vi vt vf vs zs (s.stop k) ∧ w.grownBy w' (some g) := by
  have c0 := h.out.far 1 rfl
  have c1 := h.out.far 7 rfl
  have z0 := h.out.row.free 17
  have z1 := h.out.row.free 23
  go_enter Tryd.func52, Tryd.ntmps52
  go_wp2_with fail
  go_end0
  exact ⟨rfl, h.out.stopped k, put_grown2 w g 17 23 _ _⟩
/-- The top of the stack. -/
structure TopAt (w : World) (vs : Value) (zs : List Zn) (G c k : Nat) (z : Zn) (ys : List Zn) : Prop where
  v : vs = .slice (some ⟨G, 0, none⟩) (k + 1) c
  eqz : zs = ys ++ [z]
  len : ys.length = k
  fn : w.cell? ⟨G, k * 4, none⟩ = some (.int .i64 (z.1.f : Int))
  pc : w.cell? ⟨G, k * 4 + 1, none⟩ = some (.int .i64 (z.1.pc : Int))
  sl : w.cell? ⟨G, k * 4 + 2, none⟩ = some (.map (some z.2.1))
  ar : w.cell? ⟨G, k * 4 + 3, none⟩ = some (.map (some z.2.2))
  fr : ∀ j, w.frozen? ⟨G, j, none⟩ = false
  most : k ≤ 1000000
theorem MRaw.topAt {w : World} (h : MRaw w g base vi vt vf vs zs s) (hn : 1 ≤ s.st.length) (hm : s.st.length ≤ 1000000) : ∃ G c k z ys, TopAt w vs zs G c k z ys := by
  have hl := h.len
  obtain ⟨ys, z, rfl⟩ : ∃ ys z, zs = ys ++ [z] := ⟨zs.dropLast, zs.getLast (by intro e; subst e; simp at hl; omega), (List.dropLast_concat_getLast _).symm⟩
  rw [List.length_append, List.length_cons, List.length_nil] at hl
  rcases h.st.2 with ⟨_, h0⟩ | ⟨G, c, cur, rfl, hG, hh, hnc, hm2, hsz, htk⟩
  · omega
  · have hz : (ys ++ [z])[ys.length]? = some z := by simp
    obtain ⟨a0, a1, a2, a3⟩ := acells_at hz
    have hc : ∀ j u, (acells (ys ++ [z]))[j]? = some u → w.cell? ⟨G, j, none⟩ = some u := fun j u hj => by
      have := h.st.cells (g := G) rfl j u hj
      rwa [show (⟨G, 0, none⟩ : Addr).add j = ⟨G, j, none⟩ by unfold Addr.add; split <;> simp_all] at this
    exact ⟨G, c, ys.length, z, ys, by rw [hl], rfl, rfl, hc _ _ a0, hc _ _ a1, hc _ _ a2, hc _ _ a3, fun j => by simp [World.frozen?, hh], by omega⟩
set_option maxHeartbeats 1000000 in
theorem last_any (w : World) (h : Hid (MRaw w g base vi vt vf vs zs s)) {G c k : Nat} {z : Zn} {ys : List Zn} (ht : Hid (TopAt w vs zs G c k z ys)) :
    Calls Tryd.prog 80 #[.pointer (some ⟨g, 0, none⟩)] w fun e w' => e = .returned (.pointer (some ⟨G, k * 4, none⟩)) ∧ ∃ q, w' = w.drewN q := by
  have c0 := h.out.far 9 rfl
  rw [ht.out.v] at c0
  have hk := ht.out.most
  go_enter Tryd.func80, Tryd.ntmps80
  go_wp2_with fail
  go_quiet (fail)
  go_wp2_with fail
  go_ret
  exact ⟨rfl, _, rfl⟩
end
end Go.Proofs.YtlkcjjalkdlicaaDoor
end
