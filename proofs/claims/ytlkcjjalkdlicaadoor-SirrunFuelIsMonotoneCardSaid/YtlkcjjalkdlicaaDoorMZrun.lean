import Derived.Test.YtlkcjjalkdlicaaDoorMZrow
import Derived.Test.YtlkcjjalkdlicaaDoorMPcheck
set_option linter.unusedVariables false
set_option linter.unusedSimpArgs false
section
/-
  The contract of run (chapter 8). Conditions: those of the types; the table of shapes lies as it is laid.
-/
namespace Go.Proofs.YtlkcjjalkdlicaaDoor
open Go.RowKit

/-- The machine that is given with an error. -/
def zeroM : Mch := ⟨List.replicate 8 0, [], 0, 0, 0, [], 0, false, [], 0⟩
def runE (F : Pg) (fuel : Int) : Int := if pgE F ≠ 0 then pgE F else if 0 ≤ fuel ∧ fuel ≤ 100000 then 0 else 4
def runS (F : Pg) (inp : List Nat) (fuel : Int) : Mch := if runE F fuel = 0 then runM F inp fuel.toNat else zeroM
def RunPost (F : Pg) (inp : List Nat) (fuel : Int) (w : World) (e : Ending) (w' : World) : Prop :=
  ∃ vi vt vf vs, e = .returned (.tuple #[.agg (mcells (runS F inp fuel) vi vt vf vs).toArray, .int .i64 (runE F fuel)]) ∧ (runS F inp fuel).regs.length = 8 ∧ (∀ v ∈ mcells (runS F inp fuel) vi vt vf vs, v.oneCell' = true) ∧
    w'.ownsRow w.heap.size 33 2 vt (runS F inp fuel).trace.length (vcells (runS F inp fuel).trace) ∧ Below w.heap.size w w'
theorem run_zero_post (F : Pg) (inp : List Nat) (fuel : Int) (w w' : World) (x : Int) (hx : runE F fuel = x) (h0 : x ≠ 0) (hb : Below w.heap.size w w') :
    RunPost F inp fuel w (.returned (.tuple #[.agg (mcells zeroM (.slice none 0 0) (.slice none 0 0) (.slice none 0 0) (.slice none 0 0)).toArray, .int .i64 x])) w' := by
  have hs : runS F inp fuel = zeroM := by unfold runS; rw [if_neg (by rw [hx]; exact h0)]
  refine ⟨.slice none 0 0, .slice none 0 0, .slice none 0 0, .slice none 0 0, by rw [hs, hx], by rw [hs]; rfl, mcells_one _ _ _ _ _ rfl rfl rfl rfl, ?_, hb⟩
  rw [hs]
  exact World.ownsRow_nil _ _ _ _
set_option maxRecDepth 100000 in
set_option maxHeartbeats 4000000 in
theorem run_bad (F : Pg) (inp : List Nat) (fuel : Int) {lo n c : Nat} {A : Option Addr} {hs : List Hd} (Ai : Option Addr) (ni ci : Nat) (w : World) (hE : pgE F ≠ 0) (hPg : Hid (PgAt w lo w.heap.size A n c hs F)) (hSh : Hid (Shapes w)) :
    Calls Tryd.prog 28 #[gv A n c, .slice Ai ni ci, .int .i64 fuel] w (RunPost F inp fuel w) := by
  obtain ⟨x, hx⟩ : ∃ x, pgE F = x := ⟨_, rfl⟩
  have hb0 := hide (below2 w (.cells #[.slice A n c] 26) (.cells (mcells zeroM (.slice none 0 0) (.slice none 0 0) (.slice none 0 0) (.slice none 0 0)).toArray 79))
  obtain ⟨W1, hW1⟩ : ∃ W1, (w.alloc (.cells #[.slice A n c] 26)).alloc (.cells (mcells zeroM (.slice none 0 0) (.slice none 0 0) (.slice none 0 0) (.slice none 0 0)).toArray 79) = W1 := ⟨_, rfl⟩
  rw [hW1] at hb0
  have cc := check_any A n c hs F lo w.heap.size W1 (hide (hPg.out.below hb0.out)) hb0.out.size (hide (hSh.out.below hb0.out))
  rw [hx] at cc
  have hE2 : runE F fuel = x := by unfold runE; rw [if_pos hE, hx]
  have hx0 : x ≠ 0 := by rw [← hx]; exact hE
  have HE := hide hE2
  have HW1 := hide (show (w.alloc (.cells #[.slice A n c] 26)).alloc (.cells #[.int .u64 0, .int .u64 0, .int .u64 0, .int .u64 0, .int .u64 0, .int .u64 0, .int .u64 0, .int .u64 0, .int .u64 0, .int .u64 0, .int .u64 0, .int .u64 0, .int .u64 0, .int .u64 0, .int .u64 0, .int .u64 0, .slice none 0 0, .int .i64 0, .int .u64 0, .int .u64 0, .int .u64 0, .slice none 0 0, .int .i64 0, .bool false, .slice none 0 0, .slice none 0 0, .int .i64 0] 79) = W1 from hW1)
  have hxb : (x == 0) = false := by rw [beq_eq_false_iff_ne]; exact hx0
  clear hE hx hE2 hW1
  go_enter Tryd.func28, Tryd.ntmps28
  go_upto_region 1 with (fail)
  rw [HW1.out]
  have RZ := hide (show Row W1 (w.heap.size + 1) 79 (mcells zeroM (.slice none 0 0) (.slice none 0 0) (.slice none 0 0) (.slice none 0 0)) by
    rw [← HW1.out]
    have := Row.new (w.alloc (.cells #[.slice A n c] 26)) 79 (mcells zeroM (.slice none 0 0) (.slice none 0 0) (.slice none 0 0) (.slice none 0 0))
    rw [show (w.alloc (.cells #[.slice A n c] 26)).heap.size = w.heap.size + 1 by simp] at this
    exact this)
  have RB := hide (show Row W1 w.heap.size 26 [.slice A n c] by rw [← HW1.out]; exact (Row.new w _ _).alloc _)
  have c0 := RB.out.cell (k := 0) rfl
  clear HW1
  go_wp2_with fail
  refine cc.mono ?_
  rintro e w2 ⟨rfl, hb2⟩
  have B2 := hide (hb0.out.trans (hb2.mono hb0.out.size))
  have R2 := hide (RZ.out.call hb2)
  have hst := store_row (vs := mcells zeroM (.slice none 0 0) (.slice none 0 0) (.slice none 0 0) (.slice none 0 0)) (size_machine (w := w2)) (mcells_len rfl) (mcells_len rfl) (mcells_one _ _ _ _ _ rfl rfl rfl rfl) R2.out
  have R3 := hide (set_row_row (vs := mcells zeroM (.slice none 0 0) (.slice none 0 0) (.slice none 0 0) (.slice none 0 0)) R2.out)
  have B3 := hide (show Below w.heap.size w (w2.setRow (w.heap.size + 1) (mcells zeroM (.slice none 0 0) (.slice none 0 0) (.slice none 0 0) (.slice none 0 0)).toArray) from B2.out.grown (set_row_grown w2 _ _) B2.out.size (fun k hk => by injection hk with hk; omega))
  generalize w2.setRow (w.heap.size + 1) (mcells zeroM (.slice none 0 0) (.slice none 0 0) (.slice none 0 0) (.slice none 0 0)).toArray = W3 at hst R3 B3
  have hld := load_row (agg_machine (w := W3)) (size_machine (w := W3)) (mcells_len rfl) R3.out
  clear cc hb2 c0
  go_wp2_with (first | (refine wpList_store_whole 79 (.tmp 6) (.tmp 14) rfl rfl _ _ rfl rfl hst ?_) | fail)
  exact bodyPost_ret (v := .tuple #[.agg (mcells zeroM (.slice none 0 0) (.slice none 0 0) (.slice none 0 0) (.slice none 0 0)).toArray, .int .i64 x]) (results_cell_tmp (fn := Tryd.f28) (t := 6) (u := 7) (T := 79) rfl _ W3 _ _ _ rfl hld) rfl (run_zero_post F inp fuel w W3 x HE.out hx0 B3.out)
end Go.Proofs.YtlkcjjalkdlicaaDoor
end
