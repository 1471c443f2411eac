import Derived.Test.YtafegghdhdgioabGreatMEmath
import Derived.Test.YtafegghdhdgioabGreatMKit
import Derived.Test.YtafegghdhdgioabGreatMNce
import Derived.Test.YtafegghdhdgioabGreatMInv
import Derived.Laws.Tables
import Derived.Laws.Cells
import Derived.Outline
import Derived.Deep.DeepCutAuto
set_option linter.unusedVariables false
set_option linter.unusedSimpArgs false
section
/-
  Boxes, one behind the other. No function of the program is named here.
-/
namespace Go.Proofs.YtafegghdhdgioabGreat
open Go.RowKit

theorem below4 (w : World) (o p q r : Obj) : Below w.heap.size w ((((w.alloc o).alloc p).alloc q).alloc r) := (below3 w o p q).alloc (by simp; omega) _
/-- Three boxes, one behind the other. -/
theorem boxes3 (w : World) (l1 l2 l3 : List Value) (t1 t2 t3 : TypeId) : ∃ W, ((w.alloc (.cells l1.toArray t1)).alloc (.cells l2.toArray t2)).alloc (.cells l3.toArray t3) = W ∧ Below w.heap.size w W ∧ w.heap.size + 3 = W.heap.size ∧
    Row W w.heap.size t1 l1 ∧ Row W (w.heap.size + 1) t2 l2 ∧ Row W (w.heap.size + 1 + 1) t3 l3 := by
  refine ⟨_, rfl, below3 _ _ _ _, by simp, ((Row.new w t1 l1).alloc _).alloc _, (Row.alloc ?_ _), ?_⟩
  · exact heap_at _ _ (by simp)
  · exact heap_at _ _ (by simp)

/-- Four boxes, one behind the other. -/
theorem boxes4 (w : World) (l1 l2 l3 l4 : List Value) (t1 t2 t3 t4 : TypeId) : ∃ W, (((w.alloc (.cells l1.toArray t1)).alloc (.cells l2.toArray t2)).alloc (.cells l3.toArray t3)).alloc (.cells l4.toArray t4) = W ∧ Below w.heap.size w W ∧ w.heap.size + 4 = W.heap.size ∧
    Row W w.heap.size t1 l1 ∧ Row W (w.heap.size + 1) t2 l2 ∧ Row W (w.heap.size + 1 + 1) t3 l3 ∧ Row W (w.heap.size + 1 + 1 + 1) t4 l4 := by
  refine ⟨_, rfl, below4 _ _ _ _ _, by simp, (((Row.new w t1 l1).alloc _).alloc _).alloc _, (Row.alloc (Row.alloc ?_ _) _), (Row.alloc ?_ _), ?_⟩
  · exact heap_at _ _ (by simp)
  · exact heap_at _ _ (by simp)
  · exact heap_at _ _ (by simp)

/-- Two boxes, one behind the other. -/
theorem boxes2q (w : World) (l1 l2 : List Value) (t1 t2 : TypeId) : ∃ W, (w.alloc (.cells l1.toArray t1)).alloc (.cells l2.toArray t2) = W ∧ Below w.heap.size w W ∧ w.heap.size + 2 = W.heap.size ∧ Row W w.heap.size t1 l1 ∧ Row W (w.heap.size + 1) t2 l2 := by
  refine ⟨_, rfl, below2 _ _ _, by simp, (Row.new w t1 l1).alloc _, ?_⟩
  exact heap_at _ _ (by simp)
end Go.Proofs.YtafegghdhdgioabGreat
end

section
/-
  Structs loaded and stored whole; a function whose first result lies in a cell, and whose second is a slot: what it returns. No function of the program is named here.
-/
namespace Go.Proofs.YtafegghdhdgioabGreat
open Go.RowKit

section
variable {w : World} {g t T : Nat} {cs vs : List Value}
theorem set_row_row (h : Row w g t cs) : Row (w.setRow g vs.toArray) g t vs := setRow_heap w g _ _ t _ h
theorem set_row_grown (w : World) (g : Nat) (c : Array Value) : w.grownBy (w.setRow g c) (some g) := ⟨rfl, rfl, rfl, by simp [World.setRow], fun i _ hi => by
  have : g ≠ i := fun e => hi (by rw [e])
  simp [World.setRow, Array.getElem?_modify, this]⟩
theorem load_run {n o : Nat} (ha : (isAgg T).run Tryz.prog w = .ok true w) (hs : (sizeOf T).run Tryz.prog w = .ok n w) (hl : cs.length = n) (hc : ∀ j v, cs[j]? = some v → w.cell? ⟨g, o + j, none⟩ = some v) : (Instr.loadAt T (.pointer (some ⟨g, o, none⟩))).run Tryz.prog w = .ok (.agg cs.toArray) w := by
  subst hl
  have hq := run_loadCells_list (P := Tryz.prog) w ⟨g, o, none⟩ cs (fun j v hj => by
    rw [show (⟨g, o, none⟩ : Addr).add j = ⟨g, o + j, none⟩ by unfold Addr.add; split <;> simp_all]
    exact hc j v hj)
  simp only [Instr.loadAt, Instr.sureAddr, loadVar, Sem.run_bind, Sem.run_pure, Result.andThen, ha, hs, hq, if_true]
theorem load_row {n : Nat} (ha : (isAgg T).run Tryz.prog w = .ok true w) (hs : (sizeOf T).run Tryz.prog w = .ok n w) (hl : cs.length = n) (h : Row w g t cs) : (Instr.loadAt T (.pointer (some ⟨g, 0, none⟩))).run Tryz.prog w = .ok (.agg cs.toArray) w :=
  load_run ha hs hl (fun j v hj => by rw [Nat.zero_add]; exact h.cell hj)
theorem store_row {n : Nat} (hs : (sizeOf T).run Tryz.prog w = .ok n w) (hl : vs.length = n) (hl2 : cs.length = n) (h1 : ∀ v ∈ vs, v.oneCell' = true) (h : Row w g t cs) : (Instr.storeAt T (.pointer (some ⟨g, 0, none⟩)) (.agg vs.toArray)).run Tryz.prog w = .ok () (w.setRow g vs.toArray) := by
  subst hl
  have hq := run_storeCells_from (P := Tryz.prog) g t vs 0 cs.toArray w h (by simp [hl2]) h1
  simp only [List.take_zero, List.nil_append] at hq
  simp only [Instr.storeAt, Instr.sureAddr, storeVar, Sem.run_bind, Sem.run_pure, Result.andThen, hs]
  simp [Value.cells, hq]
end
theorem wpList_load_whole {P : Program} {w : World} {ops : Array Oper} {rest : List Oper} {o : Oper} {a : Act} {Q : Exit → Act → World → Prop} (t : TypeId) (x : Operand) (hop : o.op = .load t x) (hg : o.guard = none) (c : Array Value) (p : Value) (hp : a.eval x = p)
    (hrun : (Instr.loadAt t p).run P w = .ok (.agg c) w) (hK : wpList P ops Q rest (a.put o.dst (.agg c)) w) : wpList P ops Q (o :: rest) a w := by
  refine wpList_plain hg fun K' hK' => ?_
  unfold Oper.wp
  simp only [hop, hp, execOp, Sem.run_bind, hrun, Result.andThen, Sem.run_pure]
  exact hK' _ _ hK
theorem wpList_store_whole {P : Program} {w w' : World} {ops : Array Oper} {rest : List Oper} {o : Oper} {a : Act} {Q : Exit → Act → World → Prop} (t : TypeId) (x y : Operand) (hop : o.op = .store t x y) (hg : o.guard = none) (p v : Value) (hp : a.eval x = p) (hv : a.eval y = v)
    (hrun : (Instr.storeAt t p v).run P w = .ok () w') (hK : wpList P ops Q rest (a.put o.dst undef) w') : wpList P ops Q (o :: rest) a w := by
  refine wpList_plain hg fun K' hK' => ?_
  unfold Oper.wp
  simp only [hop, hp, hv, execOp, Sem.run_bind, hrun, Result.andThen, Sem.run_pure]
  exact hK' _ _ hK
theorem results_cell_tmp {fn : Func} {t u : Tmp} {T : TypeId} (h : fn.results = #[.cell t T, .tmp u]) (tmps : Array Value) (w : World) (g o : Nat) (v : Value) (ht : tmps.getD t undef = .pointer (some ⟨g, o, none⟩)) (hl : (Instr.loadAt T (.pointer (some ⟨g, o, none⟩))).run Tryz.prog w = .ok v w) :
    (results fn tmps).run Tryz.prog w = .ok (.tuple #[v, tmps.getD u undef]) w := by
  have hl2 : (loadVar T ⟨g, o, none⟩).run Tryz.prog w = .ok v w := by
    rw [← hl]
    simp [Instr.loadAt, Instr.sureAddr]
  have ht3 : tmps[t]?.getD undef = .pointer (some ⟨g, o, none⟩) := by rw [← ht]; simp
  have hm : (results fn tmps).run Tryz.prog w = ((loadVar T ⟨g, o, none⟩).run Tryz.prog w).andThen fun v w => .ok (.tuple #[v, tmps.getD u undef]) w := by
    simp [results, h, ht3, asAddr]
  rw [hm, hl2]
  rfl
end Go.Proofs.YtafegghdhdgioabGreat
end

section
/-
  The contract of sir.Terminator. No condition.
-/
namespace Go.Proofs.YtafegghdhdgioabGreat
open Go.RowKit

theorem term_any (op : Int) (w : World) : Calls Tryz.prog 93 #[.int .i64 op] w fun e w' => e = .returned (.bool (termB op)) ∧ w = w' := by
  by_cases h1 : op = 20
  · subst h1
    go_enter Tryz.func93, Tryz.ntmps93
    go_wp2_with fail
    go_ret
    exact ⟨rfl, rfl⟩
  · by_cases h2 : op = 23
    · subst h2
      go_enter Tryz.func93, Tryz.ntmps93
      go_wp2_with fail
      go_ret
      exact ⟨rfl, rfl⟩
    · have b1 : (op == 20) = false := by simpa using h1
      have b2 : (op == 23) = false := by simpa using h2
      have e := hide (show termB op = (op == 24) by simp [termB, b1, b2])
      clear h1 h2
      go_enter Tryz.func93, Tryz.ntmps93
      go_wp2_with fail
      go_ret
      exact ⟨ret_bool e.out.symm, rfl⟩
end Go.Proofs.YtafegghdhdgioabGreat
end

section
/-
  The contracts of mach.within, exists, operandsOf, of its methods shaped, closed, checkOperand, and of value.Size's use in them. Conditions: those of the types.
-/
namespace Go.Proofs.YtafegghdhdgioabGreat
open Go.RowKit

/-- A frame with the number of frames, by value. -/
abbrev xv (P S : Int) (A : Option Addr) (n c : Nat) (N : Int) : Value := .agg #[.int .i64 P, .int .i64 S, .slice A n c, .int .i64 N]
theorem mwithin_any (n m : Int) (w : World) : Calls Tryz.prog 87 #[.int .i64 n, .int .i64 m] w fun e w' => e = .returned (.bool (withB n m)) ∧ w = w' := by
  by_cases h : 0 ≤ n
  · go_enter Tryz.func87, Tryz.ntmps87
    go_wp2_with fail
    go_ret
    exact ⟨ret_bool (by simp [withB, h]), rfl⟩
  · have hd : decide (0 ≤ n) = false := by simpa using h
    go_enter Tryz.func87, Tryz.ntmps87
    go_wp2_with fail
    go_ret
    exact ⟨ret_bool (by simp [withB, hd]), rfl⟩
theorem mexists_any (o : Int) (w : World) : Calls Tryz.prog 89 #[.int .i64 o] w fun e w' => e = .returned (.bool (exB o)) ∧ w = w' := by
  have c := mwithin_any o 25
  have HX := hide (show exB o = (withB o 25 && (!decide (o = 18) && !decide (o = 19))) from rfl)
  obtain ⟨b, hb⟩ : ∃ b, withB o 25 = b := ⟨_, rfl⟩
  rw [hb] at c HX
  have C := hide c
  clear c hb
  cases b with
  | false =>
    go_enter Tryz.func89, Tryz.ntmps89
    go_wp2_with fail
    refine (C.out _).mono ?_
    rintro e w' ⟨rfl, rfl⟩
    go_wp2_with fail
    go_ret
    exact ⟨ret_bool (by rw [HX.out]; simp), rfl⟩
  | true =>
    by_cases h1 : o = 18
    · have HE := hide (show exB o = false by rw [HX.out]; simp [h1])
      have b1 : (o != 18) = false := by simpa using h1
      clear h1
      go_enter Tryz.func89, Tryz.ntmps89
      go_wp2_with fail
      refine (C.out _).mono ?_
      rintro e w' ⟨rfl, rfl⟩
      go_wp2_with fail
      go_ret
      exact ⟨ret_bool HE.out.symm, rfl⟩
    · have HE := hide (show exB o = (o != 19) by rw [HX.out]; simp only [decide_eq_false h1, Bool.true_and, Bool.not_false]; by_cases h2 : o = 19 <;> simp [h2])
      have b1 : (o != 18) = true := by simpa using h1
      clear h1
      go_enter Tryz.func89, Tryz.ntmps89
      go_wp2_with fail
      refine (C.out _).mono ?_
      rintro e w' ⟨rfl, rfl⟩
      go_wp2_with fail
      go_ret
      exact ⟨ret_bool HE.out.symm, rfl⟩

end Go.Proofs.YtafegghdhdgioabGreat
end

section
/-
  The contracts of mach's methods checkOperand, shaped, closed. Conditions: those of the types.
-/
namespace Go.Proofs.YtafegghdhdgioabGreat
open Go.RowKit

set_option maxHeartbeats 1000000 in
theorem chkopm_any (P S : Int) (A : Option Addr) (n cp : Nat) (N k x : Int) (w : World) :
    Calls Tryz.prog 123 #[xv P S A n cp N, .int .i64 k, .int .i64 x] w fun e w' => e = .returned (.int .i64 (mopE N n k x)) ∧ Below w.heap.size w w' := by
  have HE := hide (show mopE N n k x = if k = 0 then (if x = 0 then 0 else 2) else if k = 1 then (if withB x 8 then 0 else 4) else if k = 4 then (if withB x N then 0 else 4) else if k = 3 then (if szB x then 0 else 5) else if k = 5 then (if withB x n then 0 else 6) else 0 from rfl)
  by_cases k0 : k = 0
  · subst k0
    by_cases x0 : x = 0
    · subst x0
      go_enter Tryz.func123, Tryz.ntmps123
      go_wp2_with fail
      go_ret
      exact ⟨ret_int (by rw [HE.out]; simp), below1 _ _⟩
    · have b1 : (x != 0) = true := by simpa using x0
      have HR := hide (show mopE N n 0 x = 2 by rw [HE.out]; simp [x0])
      clear x0 HE
      go_enter Tryz.func123, Tryz.ntmps123
      go_wp2_with fail
      go_ret
      exact ⟨ret_int HR.out.symm, below1 _ _⟩
  · by_cases k1 : k = 1
    · subst k1
      have c := mwithin_any x 8
      obtain ⟨b, hb⟩ : ∃ b, withB x 8 = b := ⟨_, rfl⟩
      rw [hb] at c
      have HR := hide (show mopE N n 1 x = if b then 0 else 4 by rw [HE.out, hb]; simp)
      clear HE hb k0
      cases b with
      | false =>
        go_enter Tryz.func123, Tryz.ntmps123
        go_wp2_with fail
        refine (c _).mono ?_
        rintro e w' ⟨rfl, rfl⟩
        go_wp2_with fail
        go_ret
        exact ⟨ret_int HR.out.symm, below1 _ _⟩
      | true =>
        go_enter Tryz.func123, Tryz.ntmps123
        go_wp2_with fail
        refine (c _).mono ?_
        rintro e w' ⟨rfl, rfl⟩
        go_wp2_with fail
        go_ret
        exact ⟨ret_int HR.out.symm, below1 _ _⟩
    · by_cases k4 : k = 4
      · subst k4
        have c := mwithin_any x N
        obtain ⟨b, hb⟩ : ∃ b, withB x N = b := ⟨_, rfl⟩
        rw [hb] at c
        have HR := hide (show mopE N n 4 x = if b then 0 else 4 by rw [HE.out, hb]; simp)
        clear HE hb k0 k1
        cases b with
        | false =>
          go_enter Tryz.func123, Tryz.ntmps123
          go_wp2_with fail
          refine (c _).mono ?_
          rintro e w' ⟨rfl, rfl⟩
          go_wp2_with fail
          go_ret
          exact ⟨ret_int HR.out.symm, below1 _ _⟩
        | true =>
          go_enter Tryz.func123, Tryz.ntmps123
          go_wp2_with fail
          refine (c _).mono ?_
          rintro e w' ⟨rfl, rfl⟩
          go_wp2_with fail
          go_ret
          exact ⟨ret_int HR.out.symm, below1 _ _⟩
      · by_cases k3 : k = 3
        · subst k3
          have c := vsz_any x
          obtain ⟨b, hb⟩ : ∃ b, szB x = b := ⟨_, rfl⟩
          rw [hb] at c
          have HR := hide (show mopE N n 3 x = if b then 0 else 5 by rw [HE.out, hb]; simp)
          clear HE hb k0 k1 k4
          cases b with
          | false =>
            go_enter Tryz.func123, Tryz.ntmps123
            go_wp2_with fail
            refine (c _).mono ?_
            rintro e w' ⟨rfl, rfl⟩
            go_wp2_with fail
            go_ret
            exact ⟨ret_int HR.out.symm, below1 _ _⟩
          | true =>
            go_enter Tryz.func123, Tryz.ntmps123
            go_wp2_with fail
            refine (c _).mono ?_
            rintro e w' ⟨rfl, rfl⟩
            go_wp2_with fail
            go_ret
            exact ⟨ret_int HR.out.symm, below1 _ _⟩
        · by_cases k5 : k = 5
          · subst k5
            have c := mwithin_any x n
            obtain ⟨b, hb⟩ : ∃ b, withB x n = b := ⟨_, rfl⟩
            rw [hb] at c
            have HR := hide (show mopE N n 5 x = if b then 0 else 6 by rw [HE.out, hb]; simp)
            clear HE hb k0 k1 k4 k3
            cases b with
            | false =>
              go_enter Tryz.func123, Tryz.ntmps123
              go_wp2_with fail
              refine (c _).mono ?_
              rintro e w' ⟨rfl, rfl⟩
              go_wp2_with fail
              go_ret
              exact ⟨ret_int HR.out.symm, below1 _ _⟩
            | true =>
              go_enter Tryz.func123, Tryz.ntmps123
              go_wp2_with fail
              refine (c _).mono ?_
              rintro e w' ⟨rfl, rfl⟩
              go_wp2_with fail
              go_ret
              exact ⟨ret_int HR.out.symm, below1 _ _⟩
          · have HR := hide (show mopE N n k x = 0 by rw [HE.out, if_neg k0, if_neg k1, if_neg k4, if_neg k3, if_neg k5])
            have b0 : (k == 0) = false := by simpa using k0
            have b1 : (k == 1) = false := by simpa using k1
            have b4 : (k == 4) = false := by simpa using k4
            have b3 : (k == 3) = false := by simpa using k3
            have b5 : (k == 5) = false := by simpa using k5
            clear HE k0 k1 k4 k3 k5
            go_enter Tryz.func123, Tryz.ntmps123
            go_wp2_with fail
            go_ret
            exact ⟨ret_int HR.out.symm, below1 _ _⟩

/-- The shape, by numbers. -/
def shV (Al P S : Int) : Bool := powB Al && (withB P 9 && (withB S 2147483520 && decide (S % Al = 0)))
theorem shV_eq (Al : Int) (f : Fm) : shV Al f.params f.size = shB Al f := rfl
set_option maxHeartbeats 1000000 in
theorem shaped_any (P S : Int) (A : Option Addr) (n cp : Nat) (N Al : Int) (w : World) :
    Calls Tryz.prog 88 #[xv P S A n cp N, .int .i64 Al] w fun e w' => e = .returned (.bool (shV Al P S)) ∧ Below w.heap.size w w' := by
  have HE := hide (show shV Al P S = (powB Al && (withB P 9 && (withB S 2147483520 && decide (S % Al = 0)))) from rfl)
  have c1 := power_any Al
  have c2 := mwithin_any P 9
  have c3 := mwithin_any S 2147483520
  cases h1 : powB Al with
  | false =>
    rw [h1] at c1 HE
    clear h1
    go_enter Tryz.func88, Tryz.ntmps88
    go_wp2_with fail
    refine (c1 _).mono ?_
    rintro e w' ⟨rfl, rfl⟩
    go_wp2_with fail
    go_ret
    exact ⟨ret_bool (by rw [HE.out]; rfl), below1 _ _⟩
  | true =>
    cases h2 : withB P 9 with
    | false =>
      rw [h1] at c1 HE
      rw [h2] at c2 HE
      clear h1 h2
      go_enter Tryz.func88, Tryz.ntmps88
      go_wp2_with fail
      refine (c1 _).mono ?_
      rintro e w' ⟨rfl, rfl⟩
      go_wp2_with fail
      refine (c2 _).mono ?_
      rintro e w' ⟨rfl, rfl⟩
      go_wp2_with fail
      go_ret
      exact ⟨ret_bool (by rw [HE.out]; rfl), below1 _ _⟩
    | true =>
      cases h3 : withB S 2147483520 with
      | false =>
        rw [h1] at c1 HE
        rw [h2] at c2 HE
        rw [h3] at c3 HE
        clear h1 h2 h3
        go_enter Tryz.func88, Tryz.ntmps88
        go_wp2_with fail
        refine (c1 _).mono ?_
        rintro e w' ⟨rfl, rfl⟩
        go_wp2_with fail
        refine (c2 _).mono ?_
        rintro e w' ⟨rfl, rfl⟩
        go_wp2_with fail
        refine (c3 _).mono ?_
        rintro e w' ⟨rfl, rfl⟩
        go_wp2_with fail
        go_ret
        exact ⟨ret_bool (by rw [HE.out]; rfl), below1 _ _⟩
      | true =>
        obtain ⟨s0, s1⟩ := withB_true.1 h3
        obtain ⟨a0, a1⟩ := powB_b h1
        have m0 := Int.emod_nonneg S (show Al ≠ 0 by omega)
        have m1 := Int.emod_lt_of_pos S (show 0 < Al by omega)
        have hane : (Al == 0) = false := by simp; omega
        rw [h1] at c1 HE
        rw [h2] at c2 HE
        rw [h3] at c3 HE
        clear h1 h2 h3
        go_enter Tryz.func88, Tryz.ntmps88
        go_wp2_with fail
        refine (c1 _).mono ?_
        rintro e w' ⟨rfl, rfl⟩
        go_wp2_with fail
        refine (c2 _).mono ?_
        rintro e w' ⟨rfl, rfl⟩
        go_wp2_with fail
        refine (c3 _).mono ?_
        rintro e w' ⟨rfl, rfl⟩
        go_wp2_with fail
        go_ret
        exact ⟨ret_bool (by rw [HE.out]; by_cases h : S % Al = 0 <;> simp [h]), below1 _ _⟩

theorem closedB_at' {l : List Ins} {k : Nat} (h : k + 1 = l.length) : closedB l = termB (l[k]'(by omega)).op := by
  unfold closedB
  rw [List.getLast?_eq_getElem?, show l.length - 1 = k by omega, List.getElem?_eq_getElem (by omega)]
set_option maxHeartbeats 1000000 in
theorem mclosed_any (P S : Int) (A : Option Addr) (n cp : Nat) (N : Int) (l : List Ins) (B : Nat) (w : World) (hn : Hid (l.length = n)) (hm : n ≤ 4611686018427387904) (h : Hid (Sees w B A (icells l))) (hB : B ≤ w.heap.size) :
    Calls Tryz.prog 63 #[xv P S A n cp N] w fun e w' => e = .returned (.bool (closedB l)) ∧ Below w.heap.size w w' := by
  cases n with
  | zero =>
    have hc := hide (show closedB l = false by rw [List.eq_nil_of_length_eq_zero hn.out]; rfl)
    go_enter Tryz.func63, Tryz.ntmps63
    go_wp2_with fail
    go_ret
    exact ⟨ret_bool hc.out.symm, below1 _ _⟩
  | succ k =>
    have hk : k < l.length := by have := hn.out; omega
    have hc := hide (closedB_at' (l := l) (k := k) hn.out.symm)
    obtain ⟨b, off, rfl, hb, x0, _, _, _, _⟩ := ins_at h.out hk
    obtain ⟨o, ho⟩ : ∃ o, (l[k]'hk).op = o := ⟨_, rfl⟩
    rw [ho] at x0 hc
    have ct := term_any o
    have x1 : (w.alloc (.cells #[.int .i64 P, .int .i64 S, .slice (some ⟨b, off, none⟩) (k + 1) cp, .int .i64 N] 131)).cell? ⟨b, off + k * 5, none⟩ = some (.int .i64 o) := ((below1 w _).cell (p := ⟨b, off + k * 5, none⟩) (show b < w.heap.size by omega)).trans x0
    have hkz : (0 : Int) ≤ (k : Int) := by omega
    have hkz2 : (0 : Int) < ((k + 1 : Nat) : Int) := by omega
    have hkz1 : (k : Int) < ((k + 1 : Nat) : Int) := by omega
    have hkn : k < k + 1 := by omega
    have e1 : ((k + 1 : Nat) : Int) - 1 = (k : Int) := by omega
    have hbw : b < w.heap.size := by omega
    clear x0 ho
    go_enter Tryz.func63, Tryz.ntmps63
    go_wp2_with fail
    refine (ct _).mono ?_
    rintro e w' ⟨rfl, rfl⟩
    go_wp2_with fail
    go_ret
    exact ⟨ret_bool hc.out.symm, below1 _ _⟩
end Go.Proofs.YtafegghdhdgioabGreat
end
