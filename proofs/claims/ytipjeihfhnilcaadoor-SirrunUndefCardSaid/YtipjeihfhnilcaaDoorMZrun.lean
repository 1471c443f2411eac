import Derived.Test.YtipjeihfhnilcaaDoorMZrow
import Derived.Test.YtipjeihfhnilcaaDoorMPcheck
set_option linter.unusedVariables false
set_option linter.unusedSimpArgs false
section
/-
  The contract of run (chapter 8). Conditions: those of the types; the table of shapes lies as it is laid.
-/
namespace Go.Proofs.YtipjeihfhnilcaaDoor
open Go.RowKit

/-- The machine that is given with an error. -/
def zeroM : Mch := ⟨List.replicate 8 0, [], 0, 0, 0, [], 0, false, [], 0⟩
def runE (F : Pg) (fuel : Int) : Int := if pgE F ≠ 0 then pgE F else if 0 ≤ fuel ∧ fuel ≤ 100000 then 0 else 4
def runS (F : Pg) (inp : List Nat) (fuel : Int) : Mch := if runE F fuel = 0 then runM F inp fuel.toNat else zeroM
def RunPost (F : Pg) (inp : List Nat) (fuel : Int) (w : World) (e : Ending) (w' : World) : Prop :=
  ∃ (fu : Nat) (vi vt vf vs : Value), e = .returned (.tuple #[.agg (mcells fu (runS F inp fuel) vi vt vf vs).toArray, .int .i64 (runE F fuel)]) ∧ (runS F inp fuel).regs.length = 8 ∧ (∀ v ∈ mcells fu (runS F inp fuel) vi vt vf vs, v.oneCell' = true) ∧
    w'.ownsRow w.heap.size 33 2 vt (runS F inp fuel).trace.length (vcells (runS F inp fuel).trace) ∧ Below w.heap.size w w'
theorem run_zero_post (F : Pg) (inp : List Nat) (fuel : Int) (w w' : World) (x : Int) (hx : runE F fuel = x) (h0 : x ≠ 0) (hb : Below w.heap.size w w') :
    RunPost F inp fuel w (.returned (.tuple #[.agg (mcells 0 zeroM (.slice none 0 0) (.slice none 0 0) (.slice none 0 0) (.slice none 0 0)).toArray, .int .i64 x])) w' := by
  have hs : runS F inp fuel = zeroM := by unfold runS; rw [if_neg (by rw [hx]; exact h0)]
  refine ⟨0, .slice none 0 0, .slice none 0 0, .slice none 0 0, .slice none 0 0, by rw [hs, hx], by rw [hs]; rfl, mcells_one _ _ _ _ _ _ rfl rfl rfl rfl, ?_, hb⟩
  rw [hs]
  exact World.ownsRow_nil _ _ _ _
set_option maxRecDepth 100000 in
set_option maxHeartbeats 4000000 in
theorem run_bad (F : Pg) (inp : List Nat) (fuel : Int) {lo n c : Nat} {A : Option Addr} {hs : List Hd} (Ai : Option Addr) (ni ci : Nat) (w : World) (hE : pgE F ≠ 0) (hPg : Hid (PgAt w lo w.heap.size A n c hs F)) (hSh : Hid (Shapes w)) :
    Calls Tryd.prog 22 #[gv A n c, .slice Ai ni ci, .int .i64 fuel] w (RunPost F inp fuel w) := by
  obtain ⟨x, hx⟩ : ∃ x, pgE F = x := ⟨_, rfl⟩
  have hb0 := hide (below2 w (.cells #[.slice A n c] 26) (.cells (mcells 0 zeroM (.slice none 0 0) (.slice none 0 0) (.slice none 0 0) (.slice none 0 0)).toArray 69))
  obtain ⟨W1, hW1⟩ : ∃ W1, (w.alloc (.cells #[.slice A n c] 26)).alloc (.cells (mcells 0 zeroM (.slice none 0 0) (.slice none 0 0) (.slice none 0 0) (.slice none 0 0)).toArray 69) = W1 := ⟨_, rfl⟩
  rw [hW1] at hb0
  have cc := check_any A n c hs F lo w.heap.size W1 (hide (hPg.out.below hb0.out)) hb0.out.size (hide (hSh.out.below hb0.out))
  rw [hx] at cc
  have hE2 : runE F fuel = x := by unfold runE; rw [if_pos hE, hx]
  have hx0 : x ≠ 0 := by rw [← hx]; exact hE
  have HE := hide hE2
  have HW1 := hide (show (w.alloc (.cells #[.slice A n c] 26)).alloc (.cells #[.slice none 0 0, .int .i64 0, .int .i64 0, .int .u64 0, .int .u64 0, .int .u64 0, .slice none 0 0, .int .i64 0, .int .u64 0, .int .u64 0, .int .u64 0, .int .u64 0, .int .u64 0, .int .u64 0, .int .u64 0, .int .u64 0, .int .u64 0, .int .u64 0, .int .u64 0, .int .u64 0, .int .u64 0, .int .u64 0, .int .u64 0, .int .u64 0, .bool false, .slice none 0 0, .slice none 0 0, .int .i64 0] 69) = W1 from hW1)
  have hxb : (x == 0) = false := by rw [beq_eq_false_iff_ne]; exact hx0
  clear hE hx hE2 hW1
  go_enter Tryd.func22, Tryd.ntmps22
  go_upto_region 1 with (fail)
  rw [HW1.out]
  have RZ := hide (show Row W1 (w.heap.size + 1) 69 (mcells 0 zeroM (.slice none 0 0) (.slice none 0 0) (.slice none 0 0) (.slice none 0 0)) by
    rw [← HW1.out]
    have := Row.new (w.alloc (.cells #[.slice A n c] 26)) 69 (mcells 0 zeroM (.slice none 0 0) (.slice none 0 0) (.slice none 0 0) (.slice none 0 0))
    rw [show (w.alloc (.cells #[.slice A n c] 26)).heap.size = w.heap.size + 1 by simp] at this
    exact this)
  have RB := hide (show Row W1 w.heap.size 26 [.slice A n c] by rw [← HW1.out]; exact (Row.new w _ _).alloc _)
  have c0 := RB.out.cell (k := 0) rfl
  clear HW1
  go_wp2_with fail
  refine cc.mono ?_
  rintro e w2 ⟨rfl, hb2⟩
  have B2 := hide (hb0.out.trans (hb2.mono hb0.out.size))
  have R2 := hide (RZ.out.call hb2)
  have hst := store_row (vs := mcells 0 zeroM (.slice none 0 0) (.slice none 0 0) (.slice none 0 0) (.slice none 0 0)) (size_machine (w := w2)) (mcells_len rfl) (mcells_len rfl) (mcells_one _ _ _ _ _ _ rfl rfl rfl rfl) R2.out
  have R3 := hide (set_row_row (vs := mcells 0 zeroM (.slice none 0 0) (.slice none 0 0) (.slice none 0 0) (.slice none 0 0)) R2.out)
  have B3 := hide (show Below w.heap.size w (w2.setRow (w.heap.size + 1) (mcells 0 zeroM (.slice none 0 0) (.slice none 0 0) (.slice none 0 0) (.slice none 0 0)).toArray) from B2.out.grown (set_row_grown w2 _ _) B2.out.size (fun k hk => by injection hk with hk; omega))
  generalize w2.setRow (w.heap.size + 1) (mcells 0 zeroM (.slice none 0 0) (.slice none 0 0) (.slice none 0 0) (.slice none 0 0)).toArray = W3 at hst R3 B3
  have hld := load_row (agg_machine (w := W3)) (size_machine (w := W3)) (mcells_len rfl) R3.out
  clear cc hb2 c0
  go_wp2_with (first | (refine wpList_store_whole 69 (.tmp 6) (.tmp 14) rfl rfl _ _ rfl rfl hst ?_) | fail)
  exact bodyPost_ret (v := .tuple #[.agg (mcells 0 zeroM (.slice none 0 0) (.slice none 0 0) (.slice none 0 0) (.slice none 0 0)).toArray, .int .i64 x]) (results_cell_tmp (fn := Tryd.f22) (t := 6) (u := 7) (T := 69) rfl _ W3 _ _ _ rfl hld) rfl (run_zero_post F inp fuel w W3 x HE.out hx0 B3.out)
end Go.Proofs.YtipjeihfhnilcaaDoor
end

section
/-
  The contract of run at a right program (chapter 8). Conditions: those of the types; the table of shapes lies as it is laid.
-/
namespace Go.Proofs.YtipjeihfhnilcaaDoor
open Go.RowKit

set_option maxRecDepth 100000 in
set_option maxHeartbeats 4000000 in
theorem run_range (F : Pg) (inp : List Nat) (fuel : Int) {lo n c : Nat} {A : Option Addr} {hs : List Hd} (Ai : Option Addr) (ni ci : Nat) (w : World) (hE : pgE F = 0) (hfu : ¬ (0 ≤ fuel ∧ fuel ≤ 100000)) (hPg : Hid (PgAt w lo w.heap.size A n c hs F)) (hSh : Hid (Shapes w)) :
    Calls Tryd.prog 22 #[gv A n c, .slice Ai ni ci, .int .i64 fuel] w (RunPost F inp fuel w) := by
  have hb0 := hide (below2 w (.cells #[.slice A n c] 26) (.cells (mcells 0 zeroM (.slice none 0 0) (.slice none 0 0) (.slice none 0 0) (.slice none 0 0)).toArray 69))
  obtain ⟨W1, hW1⟩ : ∃ W1, (w.alloc (.cells #[.slice A n c] 26)).alloc (.cells (mcells 0 zeroM (.slice none 0 0) (.slice none 0 0) (.slice none 0 0) (.slice none 0 0)).toArray 69) = W1 := ⟨_, rfl⟩
  rw [hW1] at hb0
  have cc := check_any A n c hs F lo w.heap.size W1 (hide (hPg.out.below hb0.out)) hb0.out.size (hide (hSh.out.below hb0.out))
  rw [hE] at cc
  have HE := hide (show runE F fuel = 4 by unfold runE; rw [if_neg (by rw [hE]; decide), if_neg hfu])
  have HW1 := hide (show (w.alloc (.cells #[.slice A n c] 26)).alloc (.cells #[.slice none 0 0, .int .i64 0, .int .i64 0, .int .u64 0, .int .u64 0, .int .u64 0, .slice none 0 0, .int .i64 0, .int .u64 0, .int .u64 0, .int .u64 0, .int .u64 0, .int .u64 0, .int .u64 0, .int .u64 0, .int .u64 0, .int .u64 0, .int .u64 0, .int .u64 0, .int .u64 0, .int .u64 0, .int .u64 0, .int .u64 0, .int .u64 0, .bool false, .slice none 0 0, .slice none 0 0, .int .i64 0] 69) = W1 from hW1)
  clear hE hW1
  have hcase : fuel < 0 ∨ (¬ fuel < 0 ∧ 100000 < fuel) := by omega
  clear hfu
  go_enter Tryd.func22, Tryd.ntmps22
  go_upto_region 1 with (fail)
  rw [HW1.out]
  have RZ := hide (show Row W1 (w.heap.size + 1) 69 (mcells 0 zeroM (.slice none 0 0) (.slice none 0 0) (.slice none 0 0) (.slice none 0 0)) by
    rw [← HW1.out]
    have := Row.new (w.alloc (.cells #[.slice A n c] 26)) 69 (mcells 0 zeroM (.slice none 0 0) (.slice none 0 0) (.slice none 0 0) (.slice none 0 0))
    rw [show (w.alloc (.cells #[.slice A n c] 26)).heap.size = w.heap.size + 1 by simp] at this
    exact this)
  have RB := hide (show Row W1 w.heap.size 26 [.slice A n c] by rw [← HW1.out]; exact (Row.new w _ _).alloc _)
  have c0 := RB.out.cell (k := 0) rfl
  clear HW1
  go_wp2_with fail
  refine cc.mono ?_
  rintro e w2 ⟨rfl, hb2⟩
  have B2 := hide (hb0.out.trans (hb2.mono hb0.out.size))
  have R2 := hide (RZ.out.call hb2)
  have hst := store_row (vs := mcells 0 zeroM (.slice none 0 0) (.slice none 0 0) (.slice none 0 0) (.slice none 0 0)) (size_machine (w := w2)) (mcells_len rfl) (mcells_len rfl) (mcells_one _ _ _ _ _ _ rfl rfl rfl rfl) R2.out
  have R3 := hide (set_row_row (vs := mcells 0 zeroM (.slice none 0 0) (.slice none 0 0) (.slice none 0 0) (.slice none 0 0)) R2.out)
  have B3 := hide (show Below w.heap.size w (w2.setRow (w.heap.size + 1) (mcells 0 zeroM (.slice none 0 0) (.slice none 0 0) (.slice none 0 0) (.slice none 0 0)).toArray) from B2.out.grown (set_row_grown w2 _ _) B2.out.size (fun k hk => by injection hk with hk; omega))
  generalize w2.setRow (w.heap.size + 1) (mcells 0 zeroM (.slice none 0 0) (.slice none 0 0) (.slice none 0 0) (.slice none 0 0)).toArray = W3 at hst R3 B3
  have hld := load_row (agg_machine (w := W3)) (size_machine (w := W3)) (mcells_len rfl) R3.out
  clear cc hb2 c0
  rcases hcase with h0 | ⟨h0, h1⟩
  all_goals
    go_wp2_with (first | (refine wpList_store_whole 69 (.tmp 6) (.tmp 22) rfl rfl _ _ rfl rfl hst ?_) | fail)
    exact bodyPost_ret (v := .tuple #[.agg (mcells 0 zeroM (.slice none 0 0) (.slice none 0 0) (.slice none 0 0) (.slice none 0 0)).toArray, .int .i64 4]) (results_cell_tmp (fn := Tryd.f22) (t := 6) (u := 7) (T := 69) rfl _ W3 _ _ _ rfl hld) rfl (run_zero_post F inp fuel w W3 4 HE.out (by decide) B3.out)
/-- The machine before the first activation. -/
def preM (inp : List Nat) : Mch := ⟨List.replicate 8 0, inp, 0, 0, 0, [], 0, false, [], 0⟩
theorem pre_enter (inp : List Nat) : (preM inp).enter 0 = startM inp := rfl
theorem iter_stop {F : Pg} {s : Mch} {j m : Nat} (h : (iterM F j s).ended = true) (hj : j ≤ m) : (iterM F m s).fuelled = iterM F j s := by
  have e : iterM F m s = iterM F j s := by
    rw [show m = j + (m - j) by omega, iterM_add, iterM_ended h]
  rw [e]
  unfold Mch.fuelled
  rw [if_pos h]
/-- Where the loop of a run stands. -/
inductive LoopR (F : Pg) (inp : List Nat) (m : Nat) (S : Mch) : Prop
  | on (j : Nat) (hj : j ≤ m) (e : S = iterM F j (startM inp)) (h : S.ended = false) (hs : S.steps = j) (v : Vld F S)
  | off (h : S.ended = true) (e : S = runM F inp m)
theorem LoopR.start {F : Pg} (hF : pgE F = 0) {inp : List Nat} (hi : ∀ v ∈ inp, v < 18446744073709551616) (m : Nat) : LoopR F inp m (startM inp) := .on 0 (Nat.zero_le _) rfl rfl rfl (vld_start hF hi)
theorem LoopR.fuel {F : Pg} {inp : List Nat} {m : Nat} {S : Mch} (h : LoopR F inp m S) (he : S.ended = false) (hs : m ≤ S.steps) : LoopR F inp m (S.stop 4) := by
  rcases h with ⟨j, hj, e, _, hst, v⟩ | ⟨h1, _⟩
  · have : j = m := by omega
    subst this
    refine .off rfl ?_
    unfold runM
    rw [← e]
    unfold Mch.fuelled
    rw [if_neg (by rw [he]; decide)]
  · rw [he] at h1; cases h1
theorem LoopR.most {F : Pg} {inp : List Nat} {m : Nat} {S : Mch} (h : LoopR F inp m S) : S.steps ≤ m := by
  rcases h with ⟨j, hj, e, _, hst, v⟩ | ⟨_, e⟩
  · omega
  · rw [e]; exact run_most F inp m
theorem LoopR.step {F : Pg} (hF : pgE F = 0) (him : ImmF F) {inp : List Nat} {m : Nat} {S : Mch} (h : LoopR F inp m S) (he : S.ended = false) (hs : S.steps < m) : LoopR F inp m (S.stepM F) ∧ (S.stepM F).steps = S.steps + 1 := by
  have hm := step_moved (F := F) he
  refine ⟨?_, hm.steps⟩
  rcases h with ⟨j, hj, e, _, hst, v⟩ | ⟨h1, _⟩
  · have e2 : S.stepM F = iterM F (j + 1) (startM inp) := by rw [iterM_succ, ← e, if_neg (by rw [he]; decide)]
    cases hen : (S.stepM F).ended with
    | true =>
      refine .off hen ?_
      rw [e2] at hen ⊢
      unfold runM
      exact (iter_stop hen (by omega)).symm
    | false =>
      rcases vld_step hF him v with h2 | h2
      · rw [hen] at h2; cases h2
      · exact .on (j + 1) (by omega) e2 hen (by rw [hm.steps, hst]) h2
  · rw [he] at h1; cases h1
/-- What the question whether the run goes on leaves. -/
theorem asked_loop {F : Pg} {inp : List Nat} {m : Nat} {S : Mch} (h : LoopR F inp m S) : LoopR F inp m (S.withCo (S.co.asked m)) ∧ ((S.co.asked m).ended = false → S.co.asked m = S.co ∧ S.ended = false ∧ S.steps < m) := by
  unfold Co.asked
  by_cases hc : S.co.ended = false ∧ m ≤ S.co.steps
  · rw [if_pos hc]
    exact ⟨h.fuel hc.1 hc.2, fun e => by cases e⟩
  · rw [if_neg hc]
    exact ⟨h, fun e => ⟨rfl, e, Nat.lt_of_not_le fun hl => hc ⟨e, hl⟩⟩⟩
end Go.Proofs.YtipjeihfhnilcaaDoor
end
