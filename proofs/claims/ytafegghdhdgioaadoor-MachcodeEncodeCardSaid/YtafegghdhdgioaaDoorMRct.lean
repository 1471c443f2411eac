import Derived.Test.YtafegghdhdgioaaDoorMScan
import Derived.Test.YtafegghdhdgioaaDoorMPmath
import Derived.Test.YtafegghdhdgioaaDoorMPeqm
import Derived.Laws.Tables
import Derived.Laws.Cells
import Derived.Outline
import Derived.Deep.DeepCutAuto
set_option linter.unusedVariables false
set_option linter.unusedSimpArgs false
section
/-
  Structs loaded and stored whole; a function whose first result lies in a cell, and whose second is a slot: what it returns. No function of the program is named here.
-/
namespace Go.Proofs.YtafegghdhdgioaaDoor
open Go.RowKit

section
variable {w : World} {g t T : Nat} {cs vs : List Value}
theorem set_row_row (h : Row w g t cs) : Row (w.setRow g vs.toArray) g t vs := setRow_heap w g _ _ t _ h
theorem set_row_grown (w : World) (g : Nat) (c : Array Value) : w.grownBy (w.setRow g c) (some g) := ⟨rfl, rfl, rfl, by simp [World.setRow], fun i _ hi => by
  have : g ≠ i := fun e => hi (by rw [e])
  simp [World.setRow, Array.getElem?_modify, this]⟩
theorem load_run {n o : Nat} (ha : (isAgg T).run Tryd.prog w = .ok true w) (hs : (sizeOf T).run Tryd.prog w = .ok n w) (hl : cs.length = n) (hc : ∀ j v, cs[j]? = some v → w.cell? ⟨g, o + j, none⟩ = some v) : (Instr.loadAt T (.pointer (some ⟨g, o, none⟩))).run Tryd.prog w = .ok (.agg cs.toArray) w := by
  subst hl
  have hq := run_loadCells_list (P := Tryd.prog) w ⟨g, o, none⟩ cs (fun j v hj => by
    rw [show (⟨g, o, none⟩ : Addr).add j = ⟨g, o + j, none⟩ by unfold Addr.add; split <;> simp_all]
    exact hc j v hj)
  simp only [Instr.loadAt, Instr.sureAddr, loadVar, Sem.run_bind, Sem.run_pure, Result.andThen, ha, hs, hq, if_true]
theorem load_row {n : Nat} (ha : (isAgg T).run Tryd.prog w = .ok true w) (hs : (sizeOf T).run Tryd.prog w = .ok n w) (hl : cs.length = n) (h : Row w g t cs) : (Instr.loadAt T (.pointer (some ⟨g, 0, none⟩))).run Tryd.prog w = .ok (.agg cs.toArray) w :=
  load_run ha hs hl (fun j v hj => by rw [Nat.zero_add]; exact h.cell hj)
theorem store_row {n : Nat} (hs : (sizeOf T).run Tryd.prog w = .ok n w) (hl : vs.length = n) (hl2 : cs.length = n) (h1 : ∀ v ∈ vs, v.oneCell' = true) (h : Row w g t cs) : (Instr.storeAt T (.pointer (some ⟨g, 0, none⟩)) (.agg vs.toArray)).run Tryd.prog w = .ok () (w.setRow g vs.toArray) := by
  subst hl
  have hq := run_storeCells_from (P := Tryd.prog) g t vs 0 cs.toArray w h (by simp [hl2]) h1
  simp only [List.take_zero, List.nil_append] at hq
  simp only [Instr.storeAt, Instr.sureAddr, storeVar, Sem.run_bind, Sem.run_pure, Result.andThen, hs]
  simp [Value.cells, hq]
end
theorem wpList_load_whole {P : Program} {w : World} {ops : Array Oper} {rest : List Oper} {o : Oper} {a : Act} {Q : Exit → Act → World → Prop} (t : TypeId) (x : Operand) (hop : o.op = .load t x) (hg : o.guard = none) (c : Array Value) (p : Value) (hp : a.eval x = p)
    (hrun : (Instr.loadAt t p).run P w = .ok (.agg c) w) (hK : wpList P ops Q rest (a.put o.dst (.agg c)) w) : wpList P ops Q (o :: rest) a w := by
  refine wpList_plain hg fun K' hK' => ?_
  unfold Oper.wp
  simp only [hop, hp, execOp, Sem.run_bind, hrun, Result.andThen, Sem.run_pure]
  exact hK' _ _ hK
theorem wpList_store_whole {P : Program} {w w' : World} {ops : Array Oper} {rest : List Oper} {o : Oper} {a : Act} {Q : Exit → Act → World → Prop} (t : TypeId) (x y : Operand) (hop : o.op = .store t x y) (hg : o.guard = none) (p v : Value) (hp : a.eval x = p) (hv : a.eval y = v)
    (hrun : (Instr.storeAt t p v).run P w = .ok () w') (hK : wpList P ops Q rest (a.put o.dst undef) w') : wpList P ops Q (o :: rest) a w := by
  refine wpList_plain hg fun K' hK' => ?_
  unfold Oper.wp
  simp only [hop, hp, hv, execOp, Sem.run_bind, hrun, Result.andThen, Sem.run_pure]
  exact hK' _ _ hK
theorem results_cell_tmp {fn : Func} {t u : Tmp} {T : TypeId} (h : fn.results = #[.cell t T, .tmp u]) (tmps : Array Value) (w : World) (g o : Nat) (v : Value) (ht : tmps.getD t undef = .pointer (some ⟨g, o, none⟩)) (hl : (Instr.loadAt T (.pointer (some ⟨g, o, none⟩))).run Tryd.prog w = .ok v w) :
    (results fn tmps).run Tryd.prog w = .ok (.tuple #[v, tmps.getD u undef]) w := by
  have hl2 : (loadVar T ⟨g, o, none⟩).run Tryd.prog w = .ok v w := by
    rw [← hl]
    simp [Instr.loadAt, Instr.sureAddr]
  have ht3 : tmps[t]?.getD undef = .pointer (some ⟨g, o, none⟩) := by rw [← ht]; simp
  have hm : (results fn tmps).run Tryd.prog w = ((loadVar T ⟨g, o, none⟩).run Tryd.prog w).andThen fun v w => .ok (.tuple #[v, tmps.getD u undef]) w := by
    simp [results, h, ht3, asAddr]
  rw [hm, hl2]
  rfl
end Go.Proofs.YtafegghdhdgioaaDoor
end

section
/-
  The contract of value.Size. Conditions: those of the types.
-/
namespace Go.Proofs.YtafegghdhdgioaaDoor
open Go.RowKit

set_option maxHeartbeats 400000 in
theorem vsz_1 (w : World) : Calls Tryd.prog 133 #[.int .i64 1] w fun e w' => e = .returned (.bool true) ∧ w = w' := by
  go_enter Tryd.func133, Tryd.ntmps133
  go_wp2
  go_ret
  exact ⟨rfl, rfl⟩
set_option maxHeartbeats 400000 in
theorem vsz_2 (w : World) : Calls Tryd.prog 133 #[.int .i64 2] w fun e w' => e = .returned (.bool true) ∧ w = w' := by
  go_enter Tryd.func133, Tryd.ntmps133
  go_wp2
  go_ret
  exact ⟨rfl, rfl⟩
set_option maxHeartbeats 400000 in
theorem vsz_4 (w : World) : Calls Tryd.prog 133 #[.int .i64 4] w fun e w' => e = .returned (.bool true) ∧ w = w' := by
  go_enter Tryd.func133, Tryd.ntmps133
  go_wp2
  go_ret
  exact ⟨rfl, rfl⟩
set_option maxHeartbeats 400000 in
theorem vsz_8 (w : World) : Calls Tryd.prog 133 #[.int .i64 8] w fun e w' => e = .returned (.bool true) ∧ w = w' := by
  go_enter Tryd.func133, Tryd.ntmps133
  go_wp2
  go_ret
  exact ⟨rfl, rfl⟩
set_option maxHeartbeats 400000 in
theorem vsz_16 (w : World) : Calls Tryd.prog 133 #[.int .i64 16] w fun e w' => e = .returned (.bool true) ∧ w = w' := by
  go_enter Tryd.func133, Tryd.ntmps133
  go_wp2
  go_ret
  exact ⟨rfl, rfl⟩
set_option maxHeartbeats 400000 in
theorem vsz_none (n : Int) (w : World) (h : szB n = false) : Calls Tryd.prog 133 #[.int .i64 n] w fun e w' => e = .returned (.bool false) ∧ w = w' := by
  have hn := of_decide_eq_false h
  have o1 : (n == 1) = false := by rw [beq_eq_false_iff_ne]; omega
  have o2 : (n == 2) = false := by rw [beq_eq_false_iff_ne]; omega
  have o4 : (n == 4) = false := by rw [beq_eq_false_iff_ne]; omega
  have o8 : (n == 8) = false := by rw [beq_eq_false_iff_ne]; omega
  have o16 : (n == 16) = false := by rw [beq_eq_false_iff_ne]; omega
  clear hn h
  go_enter Tryd.func133, Tryd.ntmps133
  go_wp2
  go_ret
  exact ⟨rfl, rfl⟩
theorem vsz_any (n : Int) (w : World) : Calls Tryd.prog 133 #[.int .i64 n] w fun e w' => e = .returned (.bool (szB n)) ∧ w = w' := by
  by_cases h : szB n = true
  · rw [h]
    have hn := of_decide_eq_true h
    rcases hn with rfl | rfl | rfl | rfl | rfl
    · exact vsz_1 w
    · exact vsz_2 w
    · exact vsz_4 w
    · exact vsz_8 w
    · exact vsz_16 w
  · have h : szB n = false := by simpa using h
    rw [h]
    exact vsz_none n w h

end Go.Proofs.YtafegghdhdgioaaDoor
end

section
/-
  The contract of sir.Terminator. No condition.
-/
namespace Go.Proofs.YtafegghdhdgioaaDoor
open Go.RowKit

theorem term_any (op : Int) (w : World) : Calls Tryd.prog 123 #[.int .i64 op] w fun e w' => e = .returned (.bool (termB op)) ∧ w = w' := by
  by_cases h1 : op = 20
  · subst h1
    go_enter Tryd.func123, Tryd.ntmps123
    go_wp2_with fail
    go_ret
    exact ⟨rfl, rfl⟩
  · by_cases h2 : op = 23
    · subst h2
      go_enter Tryd.func123, Tryd.ntmps123
      go_wp2_with fail
      go_ret
      exact ⟨rfl, rfl⟩
    · have b1 : (op == 20) = false := by simpa using h1
      have b2 : (op == 23) = false := by simpa using h2
      have e := hide (show termB op = (op == 24) by simp [termB, b1, b2])
      clear h1 h2
      go_enter Tryd.func123, Tryd.ntmps123
      go_wp2_with fail
      go_ret
      exact ⟨ret_bool e.out.symm, rfl⟩
end Go.Proofs.YtafegghdhdgioaaDoor
end

section
/-
  The contracts of mach.within, exists, operandsOf, of its methods shaped, closed, checkOperand, and of value.Size's use in them. Conditions: those of the types.
-/
namespace Go.Proofs.YtafegghdhdgioaaDoor
open Go.RowKit

/-- A frame with the number of frames, by value. -/
abbrev xv (P S : Int) (A : Option Addr) (n c : Nat) (N : Int) : Value := .agg #[.int .i64 P, .int .i64 S, .slice A n c, .int .i64 N]
theorem mwithin_any (n m : Int) (w : World) : Calls Tryd.prog 117 #[.int .i64 n, .int .i64 m] w fun e w' => e = .returned (.bool (withB n m)) ∧ w = w' := by
  by_cases h : 0 ≤ n
  · go_enter Tryd.func117, Tryd.ntmps117
    go_wp2_with fail
    go_ret
    exact ⟨ret_bool (by simp [withB, h]), rfl⟩
  · have hd : decide (0 ≤ n) = false := by simpa using h
    go_enter Tryd.func117, Tryd.ntmps117
    go_wp2_with fail
    go_ret
    exact ⟨ret_bool (by simp [withB, hd]), rfl⟩
theorem mexists_any (o : Int) (w : World) : Calls Tryd.prog 119 #[.int .i64 o] w fun e w' => e = .returned (.bool (exB o)) ∧ w = w' := by
  have c := mwithin_any o 25
  have HX := hide (show exB o = (withB o 25 && (!decide (o = 18) && !decide (o = 19))) from rfl)
  obtain ⟨b, hb⟩ : ∃ b, withB o 25 = b := ⟨_, rfl⟩
  rw [hb] at c HX
  have C := hide c
  clear c hb
  cases b with
  | false =>
    go_enter Tryd.func119, Tryd.ntmps119
    go_wp2_with fail
    refine (C.out _).mono ?_
    rintro e w' ⟨rfl, rfl⟩
    go_wp2_with fail
    go_ret
    exact ⟨ret_bool (by rw [HX.out]; simp), rfl⟩
  | true =>
    by_cases h1 : o = 18
    · have HE := hide (show exB o = false by rw [HX.out]; simp [h1])
      have b1 : (o != 18) = false := by simpa using h1
      clear h1
      go_enter Tryd.func119, Tryd.ntmps119
      go_wp2_with fail
      refine (C.out _).mono ?_
      rintro e w' ⟨rfl, rfl⟩
      go_wp2_with fail
      go_ret
      exact ⟨ret_bool HE.out.symm, rfl⟩
    · have HE := hide (show exB o = (o != 19) by rw [HX.out]; simp only [decide_eq_false h1, Bool.true_and, Bool.not_false]; by_cases h2 : o = 19 <;> simp [h2])
      have b1 : (o != 18) = true := by simpa using h1
      clear h1
      go_enter Tryd.func119, Tryd.ntmps119
      go_wp2_with fail
      refine (C.out _).mono ?_
      rintro e w' ⟨rfl, rfl⟩
      go_wp2_with fail
      go_ret
      exact ⟨ret_bool HE.out.symm, rfl⟩

end Go.Proofs.YtafegghdhdgioaaDoor
end

section
/-
  Two boxes laid one after the other. No function of the program is named here.
-/
namespace Go.Proofs.YtafegghdhdgioaaDoor
open Go.RowKit

theorem boxes2p (w : World) (l1 l2 : List Value) (t1 t2 : TypeId) : ∃ W, (w.alloc (.cells l1.toArray t1)).alloc (.cells l2.toArray t2) = W ∧ Below w.heap.size w W ∧ w.heap.size + 2 = W.heap.size ∧ Row W w.heap.size t1 l1 ∧ Row W (w.heap.size + 1) t2 l2 := by
  refine ⟨_, rfl, below2 _ _ _, by simp, (Row.new w t1 l1).alloc _, ?_⟩
  exact heap_at _ _ (by simp)
end Go.Proofs.YtafegghdhdgioaaDoor
end
