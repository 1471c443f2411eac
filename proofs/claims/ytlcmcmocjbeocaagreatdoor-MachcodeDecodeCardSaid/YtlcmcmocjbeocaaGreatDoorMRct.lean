import Derived.Test.YtlcmcmocjbeocaaGreatDoorMBitsm
import Derived.Test.YtlcmcmocjbeocaaGreatDoorMPmem
import Derived.Test.YtlcmcmocjbeocaaGreatDoorMMops
import Derived.Test.YtlcmcmocjbeocaaGreatDoorMJmath
import Derived.Test.YtlcmcmocjbeocaaGreatDoorMJrdm
import Derived.Laws.Tables
import Derived.Laws.Cells
import Derived.Outline
import Derived.Deep.DeepCutAuto
import Derived.BigQuiet
import Derived.Lib.SmallJoins
import Derived.Shelf.Spec.TrailingZeros
import Derived.Lib.BitFns
set_option linter.unusedVariables false
set_option linter.unusedSimpArgs false
section
/-
  Structs loaded and stored whole; a function whose first result lies in a cell, and whose second is a slot: what it returns. No function of the program is named here.
-/
namespace Go.Proofs.YtlcmcmocjbeocaaGreatDoor
open Go.RowKit

section
variable {w : World} {g t T : Nat} {cs vs : List Value}
theorem set_row_row (h : Row w g t cs) : Row (w.setRow g vs.toArray) g t vs := setRow_heap w g _ _ t _ h
theorem set_row_grown (w : World) (g : Nat) (c : Array Value) : w.grownBy (w.setRow g c) (some g) := ⟨rfl, rfl, rfl, by simp [World.setRow], fun i _ hi => by
  have : g ≠ i := fun e => hi (by rw [e])
  simp [World.setRow, Array.getElem?_modify, this]⟩
theorem load_run {n o : Nat} (ha : (isAgg T).run Tryz.prog w = .ok true w) (hs : (sizeOf T).run Tryz.prog w = .ok n w) (hl : cs.length = n) (hc : ∀ j v, cs[j]? = some v → w.cell? ⟨g, o + j, none⟩ = some v) : (Instr.loadAt T (.pointer (some ⟨g, o, none⟩))).run Tryz.prog w = .ok (.agg cs.toArray) w := by
  subst hl
  have hq := run_loadCells_list (P := Tryz.prog) w ⟨g, o, none⟩ cs (fun j v hj => by
    rw [show (⟨g, o, none⟩ : Addr).add j = ⟨g, o + j, none⟩ by unfold Addr.add; split <;> simp_all]
    exact hc j v hj)
  simp only [Instr.loadAt, Instr.sureAddr, loadVar, Sem.run_bind, Sem.run_pure, Result.andThen, ha, hs, hq, if_true]
theorem load_row {n : Nat} (ha : (isAgg T).run Tryz.prog w = .ok true w) (hs : (sizeOf T).run Tryz.prog w = .ok n w) (hl : cs.length = n) (h : Row w g t cs) : (Instr.loadAt T (.pointer (some ⟨g, 0, none⟩))).run Tryz.prog w = .ok (.agg cs.toArray) w :=
  load_run ha hs hl (fun j v hj => by rw [Nat.zero_add]; exact h.cell hj)
theorem store_row {n : Nat} (hs : (sizeOf T).run Tryz.prog w = .ok n w) (hl : vs.length = n) (hl2 : cs.length = n) (h1 : ∀ v ∈ vs, v.oneCell' = true) (h : Row w g t cs) : (Instr.storeAt T (.pointer (some ⟨g, 0, none⟩)) (.agg vs.toArray)).run Tryz.prog w = .ok () (w.setRow g vs.toArray) := by
  subst hl
  have hq := run_storeCells_from (P := Tryz.prog) g t vs 0 cs.toArray w h (by simp [hl2]) h1
  simp only [List.take_zero, List.nil_append] at hq
  simp only [Instr.storeAt, Instr.sureAddr, storeVar, Sem.run_bind, Sem.run_pure, Result.andThen, hs]
  simp [Value.cells, hq]
end
theorem wpList_load_whole {P : Program} {w : World} {ops : Array Oper} {rest : List Oper} {o : Oper} {a : Act} {Q : Exit → Act → World → Prop} (t : TypeId) (x : Operand) (hop : o.op = .load t x) (hg : o.guard = none) (c : Array Value) (p : Value) (hp : a.eval x = p)
    (hrun : (Instr.loadAt t p).run P w = .ok (.agg c) w) (hK : wpList P ops Q rest (a.put o.dst (.agg c)) w) : wpList P ops Q (o :: rest) a w := by
  refine wpList_plain hg fun K' hK' => ?_
  unfold Oper.wp
  simp only [hop, hp, execOp, Sem.run_bind, hrun, Result.andThen, Sem.run_pure]
  exact hK' _ _ hK
theorem wpList_store_whole {P : Program} {w w' : World} {ops : Array Oper} {rest : List Oper} {o : Oper} {a : Act} {Q : Exit → Act → World → Prop} (t : TypeId) (x y : Operand) (hop : o.op = .store t x y) (hg : o.guard = none) (p v : Value) (hp : a.eval x = p) (hv : a.eval y = v)
    (hrun : (Instr.storeAt t p v).run P w = .ok () w') (hK : wpList P ops Q rest (a.put o.dst undef) w') : wpList P ops Q (o :: rest) a w := by
  refine wpList_plain hg fun K' hK' => ?_
  unfold Oper.wp
  simp only [hop, hp, hv, execOp, Sem.run_bind, hrun, Result.andThen, Sem.run_pure]
  exact hK' _ _ hK
theorem results_cell_tmp {fn : Func} {t u : Tmp} {T : TypeId} (h : fn.results = #[.cell t T, .tmp u]) (tmps : Array Value) (w : World) (g o : Nat) (v : Value) (ht : tmps.getD t undef = .pointer (some ⟨g, o, none⟩)) (hl : (Instr.loadAt T (.pointer (some ⟨g, o, none⟩))).run Tryz.prog w = .ok v w) :
    (results fn tmps).run Tryz.prog w = .ok (.tuple #[v, tmps.getD u undef]) w := by
  have hl2 : (loadVar T ⟨g, o, none⟩).run Tryz.prog w = .ok v w := by
    rw [← hl]
    simp [Instr.loadAt, Instr.sureAddr]
  have ht3 : tmps[t]?.getD undef = .pointer (some ⟨g, o, none⟩) := by rw [← ht]; simp
  have hm : (results fn tmps).run Tryz.prog w = ((loadVar T ⟨g, o, none⟩).run Tryz.prog w).andThen fun v w => .ok (.tuple #[v, tmps.getD u undef]) w := by
    simp [results, h, ht3, asAddr]
  rw [hm, hl2]
  rfl
end Go.Proofs.YtlcmcmocjbeocaaGreatDoor
end

section
/-
  The contract of value.Size. Conditions: those of the types.
-/
namespace Go.Proofs.YtlcmcmocjbeocaaGreatDoor
open Go.RowKit

set_option maxHeartbeats 400000 in
theorem vsz_1 (w : World) : Calls Tryz.prog 155 #[.int .i64 1] w fun e w' => e = .returned (.bool true) ∧ w = w' := by
  go_enter Tryz.func155, Tryz.ntmps155
  go_wp2
  go_ret
  exact ⟨rfl, rfl⟩
set_option maxHeartbeats 400000 in
theorem vsz_2 (w : World) : Calls Tryz.prog 155 #[.int .i64 2] w fun e w' => e = .returned (.bool true) ∧ w = w' := by
  go_enter Tryz.func155, Tryz.ntmps155
  go_wp2
  go_ret
  exact ⟨rfl, rfl⟩
set_option maxHeartbeats 400000 in
theorem vsz_4 (w : World) : Calls Tryz.prog 155 #[.int .i64 4] w fun e w' => e = .returned (.bool true) ∧ w = w' := by
  go_enter Tryz.func155, Tryz.ntmps155
  go_wp2
  go_ret
  exact ⟨rfl, rfl⟩
set_option maxHeartbeats 400000 in
theorem vsz_8 (w : World) : Calls Tryz.prog 155 #[.int .i64 8] w fun e w' => e = .returned (.bool true) ∧ w = w' := by
  go_enter Tryz.func155, Tryz.ntmps155
  go_wp2
  go_ret
  exact ⟨rfl, rfl⟩
set_option maxHeartbeats 400000 in
theorem vsz_16 (w : World) : Calls Tryz.prog 155 #[.int .i64 16] w fun e w' => e = .returned (.bool true) ∧ w = w' := by
  go_enter Tryz.func155, Tryz.ntmps155
  go_wp2
  go_ret
  exact ⟨rfl, rfl⟩
set_option maxHeartbeats 400000 in
theorem vsz_none (n : Int) (w : World) (h : szB n = false) : Calls Tryz.prog 155 #[.int .i64 n] w fun e w' => e = .returned (.bool false) ∧ w = w' := by
  have hn := of_decide_eq_false h
  have o1 : (n == 1) = false := by rw [beq_eq_false_iff_ne]; omega
  have o2 : (n == 2) = false := by rw [beq_eq_false_iff_ne]; omega
  have o4 : (n == 4) = false := by rw [beq_eq_false_iff_ne]; omega
  have o8 : (n == 8) = false := by rw [beq_eq_false_iff_ne]; omega
  have o16 : (n == 16) = false := by rw [beq_eq_false_iff_ne]; omega
  clear hn h
  go_enter Tryz.func155, Tryz.ntmps155
  go_wp2
  go_ret
  exact ⟨rfl, rfl⟩
theorem vsz_any (n : Int) (w : World) : Calls Tryz.prog 155 #[.int .i64 n] w fun e w' => e = .returned (.bool (szB n)) ∧ w = w' := by
  by_cases h : szB n = true
  · rw [h]
    have hn := of_decide_eq_true h
    rcases hn with rfl | rfl | rfl | rfl | rfl
    · exact vsz_1 w
    · exact vsz_2 w
    · exact vsz_4 w
    · exact vsz_8 w
    · exact vsz_16 w
  · have h : szB n = false := by simpa using h
    rw [h]
    exact vsz_none n w h

end Go.Proofs.YtlcmcmocjbeocaaGreatDoor
end

section
/-
  The contract of sir.Terminator. No condition.
-/
namespace Go.Proofs.YtlcmcmocjbeocaaGreatDoor
open Go.RowKit

theorem term_any (op : Int) (w : World) : Calls Tryz.prog 154 #[.int .i64 op] w fun e w' => e = .returned (.bool (termB op)) ∧ w = w' := by
  by_cases h1 : op = 20
  · subst h1
    go_enter Tryz.func154, Tryz.ntmps154
    go_wp2_with fail
    go_ret
    exact ⟨rfl, rfl⟩
  · by_cases h2 : op = 23
    · subst h2
      go_enter Tryz.func154, Tryz.ntmps154
      go_wp2_with fail
      go_ret
      exact ⟨rfl, rfl⟩
    · have b1 : (op == 20) = false := by simpa using h1
      have b2 : (op == 23) = false := by simpa using h2
      have e := hide (show termB op = (op == 24) by simp [termB, b1, b2])
      clear h1 h2
      go_enter Tryz.func154, Tryz.ntmps154
      go_wp2_with fail
      go_ret
      exact ⟨ret_bool e.out.symm, rfl⟩
end Go.Proofs.YtlcmcmocjbeocaaGreatDoor
end

section
/-
  The contracts of mach.within, exists, operandsOf, of its methods shaped, closed, checkOperand, and of value.Size's use in them. Conditions: those of the types.
-/
namespace Go.Proofs.YtlcmcmocjbeocaaGreatDoor
open Go.RowKit

/-- A frame with the number of frames, by value. -/
abbrev xv (P S : Int) (A : Option Addr) (n c : Nat) (N : Int) : Value := .agg #[.int .i64 P, .int .i64 S, .slice A n c, .int .i64 N]
theorem mwithin_any (n m : Int) (w : World) : Calls Tryz.prog 166 #[.int .i64 n, .int .i64 m] w fun e w' => e = .returned (.bool (withB n m)) ∧ w = w' := by
  by_cases h : 0 ≤ n
  · go_enter Tryz.func166, Tryz.ntmps166
    go_wp2_with fail
    go_ret
    exact ⟨ret_bool (by simp [withB, h]), rfl⟩
  · have hd : decide (0 ≤ n) = false := by simpa using h
    go_enter Tryz.func166, Tryz.ntmps166
    go_wp2_with fail
    go_ret
    exact ⟨ret_bool (by simp [withB, hd]), rfl⟩
theorem mexists_any (o : Int) (w : World) : Calls Tryz.prog 168 #[.int .i64 o] w fun e w' => e = .returned (.bool (exB o)) ∧ w = w' := by
  have c := mwithin_any o 25
  have HX := hide (show exB o = (withB o 25 && (!decide (o = 18) && !decide (o = 19))) from rfl)
  obtain ⟨b, hb⟩ : ∃ b, withB o 25 = b := ⟨_, rfl⟩
  rw [hb] at c HX
  have C := hide c
  clear c hb
  cases b with
  | false =>
    go_enter Tryz.func168, Tryz.ntmps168
    go_wp2_with fail
    refine (C.out _).mono ?_
    rintro e w' ⟨rfl, rfl⟩
    go_wp2_with fail
    go_ret
    exact ⟨ret_bool (by rw [HX.out]; simp), rfl⟩
  | true =>
    by_cases h1 : o = 18
    · have HE := hide (show exB o = false by rw [HX.out]; simp [h1])
      have b1 : (o != 18) = false := by simpa using h1
      clear h1
      go_enter Tryz.func168, Tryz.ntmps168
      go_wp2_with fail
      refine (C.out _).mono ?_
      rintro e w' ⟨rfl, rfl⟩
      go_wp2_with fail
      go_ret
      exact ⟨ret_bool HE.out.symm, rfl⟩
    · have HE := hide (show exB o = (o != 19) by rw [HX.out]; simp only [decide_eq_false h1, Bool.true_and, Bool.not_false]; by_cases h2 : o = 19 <;> simp [h2])
      have b1 : (o != 18) = true := by simpa using h1
      clear h1
      go_enter Tryz.func168, Tryz.ntmps168
      go_wp2_with fail
      refine (C.out _).mono ?_
      rintro e w' ⟨rfl, rfl⟩
      go_wp2_with fail
      go_ret
      exact ⟨ret_bool HE.out.symm, rfl⟩

end Go.Proofs.YtlcmcmocjbeocaaGreatDoor
end

section
/-
  Two boxes laid one after the other. No function of the program is named here.
-/
namespace Go.Proofs.YtlcmcmocjbeocaaGreatDoor
open Go.RowKit

theorem boxes2p (w : World) (l1 l2 : List Value) (t1 t2 : TypeId) : ∃ W, (w.alloc (.cells l1.toArray t1)).alloc (.cells l2.toArray t2) = W ∧ Below w.heap.size w W ∧ w.heap.size + 2 = W.heap.size ∧ Row W w.heap.size t1 l1 ∧ Row W (w.heap.size + 1) t2 l2 := by
  refine ⟨_, rfl, below2 _ _ _, by simp, (Row.new w t1 l1).alloc _, ?_⟩
  exact heap_at _ _ (by simp)
end Go.Proofs.YtlcmcmocjbeocaaGreatDoor
end

section
/-
  The contract of mach's function Operands: how many operands an operation uses, and whether it uses Imm. Condition: the number is not negative.
-/
namespace Go.Proofs.YtlcmcmocjbeocaaGreatDoor
open Go.RowKit

/-- How many of the first i of three kinds are not 0; kind i. -/
def kAt (k1 k2 k3 : Int) (i : Nat) : Int := if i = 0 then k1 else if i = 1 then k2 else k3
def kCnt (k1 k2 k3 : Int) : Nat → Nat
  | 0 => 0
  | i + 1 => kCnt k1 k2 k3 i + (if kAt k1 k2 k3 i = 0 then 0 else 1)
theorem kCnt_le (k1 k2 k3 : Int) (i : Nat) : kCnt k1 k2 k3 i ≤ i := by
  induction i with
  | zero => exact Nat.le_refl _
  | succ i ih => unfold kCnt; split <;> omega
theorem mcnt_kinds {op : Int} (h0 : 0 ≤ op) (h1 : op < 25) : kCnt (mshpOf op).1 (mshpOf op).2.1 (mshpOf op).2.2.1 3 = mcnt op := by
  rcases m25 h0 h1 with rfl | rfl | rfl | rfl | rfl | rfl | rfl | rfl | rfl | rfl | rfl | rfl | rfl | rfl | rfl | rfl | rfl | rfl | rfl | rfl | rfl | rfl | rfl | rfl | rfl <;> decide
theorem mshp_out {op : Int} (h0 : 0 ≤ op) (h : exB op = false) : mcnt op = 0 ∧ mI op = false := by
  have hk : mshpOf op = (0, 0, 0, false) := by
    by_cases h1 : op < 25
    · unfold exB at h
      rw [withB_true.2 ⟨h0, h1⟩, Bool.true_and, Bool.and_eq_false_iff] at h
      simp only [Bool.not_eq_false', decide_eq_true_eq] at h
      rcases h with rfl | rfl <;> rfl
    · unfold mshpOf
      rw [List.getD_eq_getElem?_getD, List.getElem?_eq_none (by show 25 ≤ op.toNat; omega)]
      rfl
  unfold mcnt mA mB mC mI
  rw [hk]
  exact ⟨rfl, rfl⟩
theorem kcells_at (k1 k2 k3 : Int) {i : Nat} (h : i < 3) : ([.int .i64 k1, .int .i64 k2, .int .i64 k3] : List Value)[i]? = some (.int .i64 (kAt k1 k2 k3 i)) := by
  rcases (show i = 0 ∨ i = 1 ∨ i = 2 by omega) with rfl | rfl | rfl <;> rfl

set_option maxRecDepth 100000 in
set_option maxHeartbeats 2000000 in
theorem jopd_any (op : Int) (w : World) (h0 : 0 ≤ op) (h1 : op ≤ 255) :
    Calls Tryz.prog 141 #[.int .i64 op] w fun e w' => e = .returned (.tuple #[.int .i64 ((mcnt op : Nat) : Int), .bool (mI op)]) ∧ Below w.heap.size w w' := by
  have ce := fun w => mexists_any op w
  cases hx : exB op with
  | false =>
    obtain ⟨e1, e2⟩ := mshp_out h0 hx
    rw [e1, e2]
    rw [hx] at ce
    clear hx e1 e2
    go_enter Tryz.func141, Tryz.ntmps141
    go_wp2_with fail
    refine (ce _).mono ?_
    rintro e w' ⟨rfl, rfl⟩
    go_wp2
    go_ret2
    exact ⟨rfl, Below.refl _ _⟩
  | true =>
    have h25 : op < 25 := by
      unfold exB at hx
      rw [Bool.and_eq_true] at hx
      exact (withB_true.1 hx.1).2
    have EM := hide (mcnt_kinds h0 h25)
    have EI := hide (show (mshpOf op).2.2.2 = mI op from rfl)
    rw [hx] at ce
    have co := fun w => opsof_any op w h0 h25
    obtain ⟨k, hk⟩ : ∃ k, mshpOf op = k := ⟨_, rfl⟩
    rw [hk] at co EM EI
    obtain ⟨k1, k2, k3, im⟩ := k
    simp only at EM EI
    clear hk hx h1
    go_enter Tryz.func141, Tryz.ntmps141
    go_wp2_with fail
    refine (ce _).mono ?_
    rintro e w' ⟨rfl, rfl⟩
    go_wp2_with fail
    refine (co _).mono ?_
    rintro e W3 ⟨rfl, hb3⟩
    obtain ⟨W, hW⟩ : ∃ V, W3.alloc (.cells #[.int .i64 k1, .int .i64 k2, .int .i64 k3, .bool im] 216) = V := ⟨_, rfl⟩
    have HW := hide hW
    have r3 := hide (show Row W W3.heap.size 216 [.int .i64 k1, .int .i64 k2, .int .i64 k3, .bool im] by rw [← hW]; exact Row.new W3 _ _)
    have HB := hide (show Below w.heap.size w W by rw [← hW]; exact hb3.trans ((below1 W3 _).mono hb3.size))
    have hs := hide (show W.heap.size = W3.heap.size + 1 by rw [← hW]; simp)
    obtain ⟨X, hX⟩ : ∃ X, W3.heap.size = X := ⟨_, rfl⟩
    have HX := hide hX
    rw [hX] at r3 hs
    clear hW hb3 co ce hX
    go_upto_region 5 with (fail)
    rw [HW.out, HX.out]
    have u0 := r3.out.cell (k := 0) rfl
    have u1 := r3.out.cell (k := 1) rfl
    have u2 := r3.out.cell (k := 2) rfl
    obtain ⟨W2, hW2⟩ : ∃ V, W.alloc (.cells #[.int .i64 k1, .int .i64 k2, .int .i64 k3] 214) = V := ⟨_, rfl⟩
    have HW2 := hide hW2
    have r4 := hide (show Row W2 (X + 1) 214 [.int .i64 k1, .int .i64 k2, .int .i64 k3] by rw [← hW2, ← hs.out]; exact Row.new _ _ _)
    have u3 := (show Row W2 X 216 [.int .i64 k1, .int .i64 k2, .int .i64 k3, .bool im] by rw [← hW2]; exact r3.out.alloc _).cell (k := 3) rfl
    have HB2 := hide (show Below w.heap.size w W2 by rw [← hW2]; exact HB.out.alloc HB.out.size _)
    have HS2 := hide (show W.heap.size = X + 1 from hs.out)
    clear hW2 hs HW HX
    go_wp2_with fail
    rw [HW2.out, HS2.out]
    clear HW2 HS2 u0 u1 u2
    go_loop [5, 7, 21] (fun cv _ iv => ∃ i : Nat, i ≤ 3 ∧ iv = .int .i64 (i : Int) ∧ cv = .int .i64 ((kCnt k1 k2 k3 i : Nat) : Int)) (fun _ _ iv => 3 - (intOf iv).toNat)
    case atStart => exact ⟨0, Nat.zero_le _, rfl, rfl⟩
    case round =>
      obtain ⟨i, hi, rfl, rfl⟩ := hrel
      have hkl := kCnt_le k1 k2 k3 i
      by_cases hlt : i < 3
      · have hlz : (i : Int) < 3 := by omega
        have hiz : (0 : Int) ≤ (i : Int) := by omega
        have m0 := r4.out.cell (kcells_at k1 k2 k3 hlt)
        have HN := hide (show kCnt k1 k2 k3 (i + 1) = kCnt k1 k2 k3 i + (if kAt k1 k2 k3 i = 0 then 0 else 1) from rfl)
        by_cases hz : kAt k1 k2 k3 i = 0
        · rw [hz] at m0
          rw [if_pos hz] at HN
          go_wp2
          go_round
          case rel => exact ⟨i + 1, by omega, by go_num, by rw [HN.out]; rfl⟩
          case measure => simp [intOf]; omega
        · rw [if_neg hz] at HN
          have hb : (kAt k1 k2 k3 i == 0) = false := by simpa using hz
          go_wp2
          go_round
          case rel => exact ⟨i + 1, by omega, by go_num, by rw [HN.out]; go_num⟩
          case measure => simp [intOf]; omega
      · obtain rfl : i = 3 := by omega
        rw [EM.out]
        go_wp2_with fail
        go_quiet (fail)
        go_wp2_with fail
        rw [← EI.out]
        go_ret2
        exact ⟨rfl, ⟨HB2.out.os, HB2.out.tape, HB2.out.output, HB2.out.size, HB2.out.block⟩⟩
end Go.Proofs.YtlcmcmocjbeocaaGreatDoor
end

section
/-
  The contract of the program's operands (package machcode): the numbers that an instruction writes. Condition: the instruction can be written.
-/
namespace Go.Proofs.YtlcmcmocjbeocaaGreatDoor
open Go.RowKit

theorem jinfo_u64 : (Tryz.prog.info? 35).map (fun i => (i.zero, i.size, i.bytes)) = some (some (.int .u64 0), 1, 8) := by kernel_rfl
/-- The operands that an instruction writes. -/
def opsU (x : Ins) : List Nat := ([x.a.toNat, x.b.toNat, x.c.toNat].take (mcnt x.op)) ++ (if mI x.op then [x.imm.toNat] else [])
theorem opsU_bytes {x : Ins} (h : MInsW x) : minsY x = x.op :: (opsU x).flatMap digsI := by
  obtain ⟨ua, ub, uc⟩ := mcnt_uses h.o.1 h.o.2
  have hk := mcnt_le x.op
  unfold minsY opsY opsU
  rw [ua, ub, uc]
  generalize mcnt x.op = k at hk ⊢
  rcases (show k = 0 ∨ k = 1 ∨ k = 2 ∨ k = 3 by omega) with h | h | h | h <;> subst h <;> cases mI x.op <;> simp [optY]
theorem opsU_le {x : Ins} (h : MInsW x) : ∀ u ∈ opsU x, u ≤ 18446744073709551615 := by
  intro u hu
  have ha := h.a
  have hb := h.b
  have hc := h.c
  have hm := h.m
  unfold opsU at hu
  rcases List.mem_append.1 hu with hu | hu
  · have := List.mem_of_mem_take hu
    simp at this
    omega
  · split at hu
    · simp at hu; omega
    · cases hu
theorem opsU_len (x : Ins) : (opsU x).length ≤ 4 := by
  unfold opsU
  rw [List.length_append, List.length_take]
  split <;> simp <;> omega
theorem own_cut {w : World} {base n m : Nat} {e : TypeId} {A : Option Addr} {c : Nat} {xs : List Value} (h : w.ownsRow base e 1 (.slice A n c) n xs) (hm : m ≤ n) (h0 : A ≠ none) : w.ownsRow base e 1 (.slice A m c) m (xs.take m) := by
  rcases h.2 with ⟨he, _⟩ | ⟨g, cap, cur, he, hg, hh, hc, hcm, hsz, ht⟩
  · injection he with e1; exact absurd e1 h0
  · injection he with e1 e2 e3
    subst e1 e3
    have hl : xs.length = n := by have := h.1; omega
    refine ⟨by rw [List.length_take, hl]; omega, .inr ⟨g, c, cur, rfl, hg, hh, by omega, hcm, hsz, ?_⟩⟩
    rw [← ht, List.take_take]
    congr 1
    omega
/-- What operands leaves. -/
def OuPost (us : List Nat) (w : World) (e : Ending) (w' : World) : Prop :=
  ∃ A c, e = .returned (.slice A us.length c) ∧ Sees w' w'.heap.size A (wds us) ∧ (∀ a, A = some a → w.heap.size ≤ a.block) ∧ Below w.heap.size w w'
theorem wds_app (a b : List Nat) : wds (a ++ b) = wds a ++ wds b := by simp [wds]

set_option maxRecDepth 100000 in
set_option maxHeartbeats 2000000 in
theorem joperands_any (x : Ins) (w : World) (HX : Hid (MInsW x)) :
    Calls Tryz.prog 100 #[iv x.op x.a x.b x.c x.imm] w (OuPost (opsU x) w) := by
  obtain ⟨i0, hi, hz0, hz1, hz2⟩ := info_parts jinfo_u64
  have ho := HX.out.o
  have ha := HX.out.a
  have hb := HX.out.b
  have hc := HX.out.c
  have hm := HX.out.m
  have wa := wrap_u64_in x.a ha.1 (by omega)
  have wb := wrap_u64_in x.b hb.1 (by omega)
  have wc := wrap_u64_in x.c hc.1 (by omega)
  have cp := fun w => jopd_any x.op w ho.1 (by omega)
  have hk3 := mcnt_le x.op
  obtain ⟨W, hW⟩ : ∃ W, w.alloc (.cells #[.int .i64 x.op, .int .i64 x.a, .int .i64 x.b, .int .i64 x.c, .int .u64 x.imm] 64) = W := ⟨_, rfl⟩
  have HW := hide hW
  have X0 := hide (show Row W w.heap.size 64 [.int .i64 x.op, .int .i64 x.a, .int .i64 x.b, .int .i64 x.c, .int .u64 x.imm] by rw [← hW]; exact Row.new w _ _)
  have HB := hide (show Below w.heap.size w W by rw [← hW]; exact below1 w _)
  have HU := hide (show opsU x = ([x.a.toNat, x.b.toNat, x.c.toNat].take (mcnt x.op)) ++ (if mI x.op then [x.imm.toNat] else []) from rfl)
  obtain ⟨us, hus⟩ : ∃ us, opsU x = us := ⟨_, rfl⟩
  rw [hus] at HU ⊢
  obtain ⟨k, hk⟩ : ∃ k, mcnt x.op = k := ⟨_, rfl⟩
  obtain ⟨ui, hu⟩ : ∃ u, mI x.op = u := ⟨_, rfl⟩
  have hkz : (0 : Int) ≤ (k : Int) := by omega
  have hkz3 : (k : Int) ≤ 3 := by omega
  simp only [hk, hu] at cp
  rw [hk, hu] at HU
  rw [hk] at hk3
  have x0 := X0.out.cell (k := 0) rfl
  clear hW hus hk hu
  go_enter Tryz.func100, Tryz.ntmps100
  go_upto_region 1 with (fail)
  rw [HW.out]
  clear HW
  go_wp2_with fail
  refine (cp W).mono ?_
  rintro e w1 ⟨rfl, hb1⟩
  have X1 := X0.out.call hb1
  have x1 := X1.cell (k := 1) rfl
  have x2 := X1.cell (k := 2) rfl
  have x3 := X1.cell (k := 3) rfl
  have HB1 := hide (below_call HB.out hb1)
  obtain ⟨G, hG⟩ : ∃ G, w1.heap.size = G := ⟨_, rfl⟩
  have HG := hide hG
  have hwG : w.heap.size ≤ G := by rw [← hG]; exact HB1.out.size
  obtain ⟨W2, hW2⟩ : ∃ V, w1.alloc (.cells #[.int .u64 x.a, .int .u64 x.b, .int .u64 x.c] 35) = V := ⟨_, rfl⟩
  have HW2 := hide hW2
  have hW2s : W2.heap.size = G + 1 := by rw [← hW2, ← hG]; simp
  have O2 := hide (show W2.ownsRow G 35 1 (.slice (some ⟨G, 0, none⟩) k 3) k (wds ([x.a.toNat, x.b.toNat, x.c.toNat].take k)) by
    have h := own_made (W := w1) (base := G) (e := 35) (L := [.int .u64 x.a, .int .u64 x.b, .int .u64 x.c]) (n := 3) rfl (by omega) (by omega)
    rw [show ([Value.int .u64 x.a, .int .u64 x.b, .int .u64 x.c] : List Value).toArray = #[.int .u64 x.a, .int .u64 x.b, .int .u64 x.c] from rfl, hW2, hG] at h
    have h2 := own_cut h hk3 (fun e => by cases e)
    have e : ([Value.int .u64 x.a, .int .u64 x.b, .int .u64 x.c] : List Value).take k = wds ([x.a.toNat, x.b.toNat, x.c.toNat].take k) := by
      unfold wds
      rw [List.map_take]
      simp only [List.map_cons, List.map_nil]
      rw [Int.toNat_of_nonneg ha.1, Int.toNat_of_nonneg hb.1, Int.toNat_of_nonneg hc.1]
    rw [e] at h2
    exact h2)
  have HB2 := hide (show Below w.heap.size w W2 by rw [← hW2]; exact HB1.out.alloc HB1.out.size _)
  have x4 := (show Row W2 w.heap.size 64 [.int .i64 x.op, .int .i64 x.a, .int .i64 x.b, .int .i64 x.c, .int .u64 x.imm] by rw [← hW2]; exact X1.alloc _).cell (k := 4) rfl
  clear hb1 X1 X0 HB cp hW2 hG x0
  go_upto_region 3 with (fail)
  rw [HW2.out, HG.out]
  clear HW2 HG x1 x2 x3
  cases ui with
  | false =>
    simp only [Bool.false_eq_true, if_false, List.append_nil] at HU
    have hul : us.length = k := by rw [HU.out, List.length_take]; simp; omega
    have FIN := hide (show OuPost us w (.returned (.slice (some ⟨G, 0, none⟩) k 3)) W2 from ⟨_, _, by rw [hul], by rw [HU.out]; exact Sees.ownN O2.out, (fun a e => by injection e with e; subst e; exact hwG), HB2.out⟩)
    go_wp2_with fail
    go_ret
    exact FIN.out
  | true =>
    simp only [if_true] at HU
    have hul : us.length = k + 1 := by rw [HU.out, List.length_append, List.length_take]; simp; omega
    go_wp2_with (at_builtin; refine wpList_append_own _ rfl (.tmp 25) (.tmp 28) 27 rfl G 35 i0 (.int .u64 0) 1 8 Tryz.underlying27 hi hz0 hz1 hz2 rfl (by decide) (.slice (some ⟨G, 0, none⟩) k 3) k (wds ([x.a.toNat, x.b.toNat, x.c.toNat].take k)) ?a1 ?a2 ⟨G + 1, 0, none⟩ 1 1 [.int .u64 x.imm] ?a3 ?a4 ?a5 ?a6 ?a7 ?a8 ?a9 ?a10)
    case a1 => rfl
    case a2 => exact O2.out.alloc _
    case a3 => rfl
    case a4 => rfl
    case a5 =>
      have h := one_new W2 (.int .u64 x.imm) 35
      rw [hW2s] at h
      exact h
    case a6 =>
      intro u hu
      simp only [List.mem_singleton] at hu
      subst hu
      rfl
    case a7 => unfold maxLen; omega
    case a8 => omega
    case a9 => simp; omega
    case a10 =>
      intro v' w3 ho3 hg3 _
      obtain ⟨A9, c9, rfl, -, -, -, -⟩ := own_seen ho3
      have hB3 : Below w.heap.size w w3 := (HB2.out.alloc HB2.out.size _).grown hg3 (by have := HB2.out.size; simp; omega) (fun q hq => by injection hq with hq; subst hq; exact hwG)
      have FIN := hide (show OuPost us w (.returned (.slice A9 (k + 1) c9)) w3 from ⟨_, _, by rw [hul], by
        rw [HU.out, wds_app]
        have e : wds [x.imm.toNat] = [.int .u64 x.imm] := by unfold wds; simp only [List.map_cons, List.map_nil]; rw [Int.toNat_of_nonneg hm.1]
        rw [e]
        exact Sees.ownN ho3, (fun a e => by subst e; exact Nat.le_trans hwG (ho3.lt a.block rfl).1), hB3⟩)
      clear ho3 hg3 hB3
      go_wp2_with fail
      go_ret
      exact FIN.out
end Go.Proofs.YtlcmcmocjbeocaaGreatDoor
end

section
/-
  The contract of the program's checksum (package machcode). Conditions: those of the types.
-/
namespace Go.Proofs.YtlcmcmocjbeocaaGreatDoor
open Go.RowKit

/-- The four bytes of a checksum in a new block. -/
def JsPost (zs : List Int) (w : World) (e : Ending) (w' : World) : Prop :=
  ∃ g, e = .returned (.slice (some ⟨g, 0, none⟩) 4 4) ∧ w.heap.size ≤ g ∧ Row w' g 5 (cellsU8 (crcI (crcN zs))) ∧ Below w.heap.size w w'

set_option maxHeartbeats 800000 in
theorem jsum_any (A : Option Addr) (n c : Nat) (zs : List Int) (B : Nat) (w : World) (hn : Hid (zs.length = n)) (hm : n ≤ 4611686018427387904) (hs : Hid (Sees w B A (cellsU8 zs))) (hz : Hid (Byt zs)) :
    Calls Tryz.prog 101 #[.slice A n c] w (JsPost zs w) := by
  have cc := crc_any A n c zs B w hn hm hs.out hz
  have hlt := crcN_lt zs
  obtain ⟨C, hC⟩ : ∃ C, crcN zs = C := ⟨_, rfl⟩
  rw [show (4294967295 - crcAll 4294967295 zs : Nat) = C from hC] at cc
  rw [hC] at hlt
  have EC := hide (show cellsU8 (crcI (crcN zs)) = [.int .u8 ((C / 16777216 % 256 : Nat) : Int), .int .u8 ((C / 65536 % 256 : Nat) : Int), .int .u8 ((C / 256 % 256 : Nat) : Int), .int .u8 ((C % 256 : Nat) : Int)] by rw [hC]; rfl)
  have d0 : (C : Int) / 16777216 % 256 = ((C / 16777216 % 256 : Nat) : Int) := by omega
  have d1 : (C : Int) / 65536 % 256 = ((C / 65536 % 256 : Nat) : Int) := by omega
  have d2 : (C : Int) / 256 % 256 = ((C / 256 % 256 : Nat) : Int) := by omega
  have d3 : (C : Int) % 256 = ((C % 256 : Nat) : Int) := by omega
  have d0' : (C : Int) / 16777216 = ((C / 16777216 % 256 : Nat) : Int) := by omega
  obtain ⟨x0, hx0⟩ : ∃ x : Int, ((C / 16777216 % 256 : Nat) : Int) = x := ⟨_, rfl⟩
  obtain ⟨x1, hx1⟩ : ∃ x : Int, ((C / 65536 % 256 : Nat) : Int) = x := ⟨_, rfl⟩
  obtain ⟨x2, hx2⟩ : ∃ x : Int, ((C / 256 % 256 : Nat) : Int) = x := ⟨_, rfl⟩
  obtain ⟨x3, hx3⟩ : ∃ x : Int, ((C % 256 : Nat) : Int) = x := ⟨_, rfl⟩
  rw [hx0] at d0 d0' EC
  rw [hx1] at d1 EC
  rw [hx2] at d2 EC
  rw [hx3] at d3 EC
  clear hx0 hx1 hx2 hx3 hC
  go_enter Tryz.func101, Tryz.ntmps101
  go_wp2_with fail
  refine cc.mono ?_
  rintro e w' ⟨rfl, rfl⟩
  go_wp2
  go_ret
  refine ⟨w.heap.size, rfl, Nat.le_refl _, ?_, below1 w _⟩
  rw [EC.out, ← d1, ← d2, ← d3]
  exact Row.new w _ _
end Go.Proofs.YtlcmcmocjbeocaaGreatDoor
end

section
/-
  The contract of math/bits.TrailingZeros64. Conditions: those of the types; it reads its table, which must lie as its initialiser lays it.
-/
namespace Go.Proofs.YtlcmcmocjbeocaaGreatDoor
open Go.RowKit

/-- The table of TrailingZeros64 lies in its variable. -/
def Tab (w : World) : Prop := TabAt 1 Lib.deBruijn64tab w
theorem Tab.pos {w : World} (h : Tab w) : 1 < w.heap.size := World.block_lt_of_cell? _ _ (h 0 (by decide))
theorem Tab.below {w w' : World} (h : Tab w) (hb : Below w.heap.size w w') : Tab w' := fun j hj => keep_cellB hb (h j hj)
theorem Tab.kept {B : Nat} {w w' : World} (h : Tab w) (hb : Below B w w') (hB : 1 < B) : Tab w' := fun j hj => (hb.cell (p := ⟨1, j, none⟩) hB).trans (h j hj)

set_option maxHeartbeats 400000 in
theorem tz_core (x k idx : Nat) (w : World) (hx1 : ((x : Int) == 0) = false)
    (key : IntKind.u64.wrap (bits BinOp.and IntKind.u64 (x : Int) (IntKind.u64.wrap (-(x : Int))) * 285870213051353865) / 288230376151711744 = (idx : Int))
    (hi : idx < 64) (hk : k < 64) (hcell : w.cell? ⟨1, idx, none⟩ = some (.int .u8 k)) :
    Calls Tryz.prog 140 #[.int .u64 x] w fun e w' => e = .returned (.int .i64 k) ∧ w = w' := by
  go_enter Tryz.func140, Tryz.ntmps140
  go_wp2_with (simp only [key])
  go_ret
  exact ⟨rfl, rfl⟩
theorem tz_any (x : Nat) (w : World) (hx : x < 18446744073709551616) (hx0 : x ≠ 0) (hT : Hid (Tab w)) : Calls Tryz.prog 140 #[.int .u64 x] w fun e w' => e = .returned (.int .i64 (Lib.ctz 64 x : Nat)) ∧ w = w' := by
  obtain ⟨hlow, hk⟩ := Lib.lowest_bit 64 x hx0 hx
  obtain ⟨hi, htab⟩ := Lib.deBruijn64_at _ hk
  have hcell := hT.out _ hi
  rw [htab] at hcell
  exact tz_core x _ _ w (by simp; omega) (tz64_key x _ hx hx0 hlow) hi hk hcell
end Go.Proofs.YtlcmcmocjbeocaaGreatDoor
end

section
/-
  TrailingZeros of a power of two. Conditions: the table lies as it is laid.
-/
namespace Go.Proofs.YtlcmcmocjbeocaaGreatDoor
open Go.RowKit

theorem ctz_pow (k : Nat) (hk : k ≤ 24) : Lib.ctz 64 (2 ^ k) = k := by
  have h : ∀ j : Fin 25, Lib.ctz 64 (2 ^ j.val) = j.val := by decide +kernel
  exact h ⟨k, by omega⟩
set_option maxHeartbeats 400000 in
theorem tzp_any (k : Nat) (w : World) (hk : k ≤ 24) (hT : Hid (Tab w)) : Calls Tryz.prog 99 #[.int .u64 ((2 : Int) ^ k)] w fun e w' => e = .returned (.int .i64 (k : Int)) ∧ w = w' := by
  have h2 : 2 ^ k ≤ 2 ^ 24 := Nat.pow_le_pow_right (by omega) hk
  have h0 : 0 < 2 ^ k := Nat.pow_pos (by omega)
  have ct := tz_any (2 ^ k) w (by omega) (by omega) hT
  rw [ctz_pow k hk, show ((2 ^ k : Nat) : Int) = (2 : Int) ^ k by simp] at ct
  obtain ⟨x, hx⟩ : ∃ x, (2 : Int) ^ k = x := ⟨_, rfl⟩
  rw [hx] at ct ⊢
  clear hx h2 h0
  go_enter Tryz.func99, Tryz.ntmps99
  go_wp2_with fail
  refine ct.mono ?_
  rintro e w' ⟨rfl, rfl⟩
  go_wp2_with fail
  go_ret
  exact ⟨rfl, rfl⟩
end Go.Proofs.YtlcmcmocjbeocaaGreatDoor
end
