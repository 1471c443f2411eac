import Derived.Test.YtafegghdhdgioabGreatMNrun
import Derived.Test.YtafegghdhdgioabGreatMKnw
import Derived.Test.YtafegghdhdgioabGreatMMch
import Derived.Test.YtafegghdhdgioabGreatMBx
import Derived.Laws.Tables
import Derived.Laws.Cells
set_option linter.unusedVariables false
set_option linter.unusedSimpArgs false
section
/-
  The contract of machrun.run: a machine whose run has ended, or the error (chapter 12). Conditions: those of the types.
-/
namespace Go.Proofs.YtafegghdhdgioabGreat
open Go.RowKit

section
variable {w : World}
theorem agg_tmachine : (isAgg 73).run Tryz.prog w = .ok true w := by kernel_rfl
theorem size_tmachine : (sizeOf 73).run Tryz.prog w = .ok 32 w := by kernel_rfl
theorem agg_toutcome : (isAgg 41).run Tryz.prog w = .ok true w := by kernel_rfl
theorem size_toutcome : (sizeOf 41).run Tryz.prog w = .ok 6 w := by kernel_rfl
end
/-- The machine's cells. -/
def tcells (fu T0 : Nat) (s : Tm) (vi vt vf : Value) (A1 : Option Addr) (c1 : Nat) (A2 : Option Addr) (c2 : Nat) (vs : Value) : List Value := ccells fu s.c vi vt ++ trest T0 s vf A1 c1 A2 c2 vs
def zeroT : Tm := ⟨coreZ [], [], newS 0 0, 0⟩
section
variable {fu T0 : Nat} {s : Tm} {vi vt vf vs : Value} {A1 A2 : Option Addr} {c1 c2 : Nat}
theorem tcells_len (h : s.c.regs.length = 8) : (tcells fu T0 s vi vt vf A1 c1 A2 c2 vs).length = 32 := by
  unfold tcells ccells trest
  simp only [List.length_append, vcells_len, h, List.length_cons, List.length_nil]
theorem tcells_one (h1 : vi.oneCell' = true) (h2 : vt.oneCell' = true) (h3 : vf.oneCell' = true) (h4 : vs.oneCell' = true) : ∀ v ∈ tcells fu T0 s vi vt vf A1 c1 A2 c2 vs, v.oneCell' = true := by
  intro v hv
  unfold tcells ccells trest at hv
  rw [List.append_assoc] at hv
  rcases List.mem_append.1 hv with hv | hv
  · simp only [List.mem_cons, List.not_mem_nil, or_false] at hv
    rcases hv with rfl | rfl | rfl | rfl | rfl | rfl | rfl | rfl <;> first | rfl | assumption
  · rw [List.append_assoc] at hv
    rcases List.mem_append.1 hv with hv | hv
    · exact vcells_oneCell _ v hv
    · simp only [List.singleton_append, List.mem_cons, List.not_mem_nil, or_false] at hv
      rcases hv with rfl | rfl | rfl | rfl | rfl | rfl | rfl | rfl <;> first | rfl | assumption
end
/-- The error of a run, and its last state. -/
def runTE (Al : Int) (F : Tg) (fuel size : Int) : Int := if tgE Al F ≠ 0 then tgE Al F else if (0 ≤ fuel ∧ fuel ≤ 100000) ∧ (0 ≤ size ∧ size ≤ 1048576) then 0 else 4
def runTS (Al : Int) (F : Tg) (inp : List Nat) (fuel size : Int) : Tm := if runTE Al F fuel size = 0 then runT Al.toNat F inp fuel.toNat size.toNat else zeroT
def RunPostT (Al : Int) (F : Tg) (inp : List Nat) (fuel size : Int) (w : World) (e : Ending) (w' : World) : Prop :=
  ∃ (fu T0 : Nat) (vi vt vf : Value) (A1 : Option Addr) (c1 : Nat) (A2 : Option Addr) (c2 : Nat) (vs : Value), e = .returned (.tuple #[.agg (tcells fu T0 (runTS Al F inp fuel size) vi vt vf A1 c1 A2 c2 vs).toArray, .int .i64 (runTE Al F fuel size)]) ∧ (runTS Al F inp fuel size).c.regs.length = 8 ∧ (∀ v ∈ tcells fu T0 (runTS Al F inp fuel size) vi vt vf A1 c1 A2 c2 vs, v.oneCell' = true) ∧
    w'.ownsRow w.heap.size 38 2 vt (runTS Al F inp fuel size).c.trace.length (vcells (runTS Al F inp fuel size).c.trace) ∧ Below w.heap.size w w'
theorem runT_zero_post (Al : Int) (F : Tg) (inp : List Nat) (fuel size : Int) (w w' : World) (x : Int) (hx : runTE Al F fuel size = x) (h0 : x ≠ 0) (hb : Below w.heap.size w w') :
    RunPostT Al F inp fuel size w (.returned (.tuple #[.agg (tcells 0 0 zeroT (.slice none 0 0) (.slice none 0 0) (.slice none 0 0) none 0 none 0 (.slice none 0 0)).toArray, .int .i64 x])) w' := by
  have hs : runTS Al F inp fuel size = zeroT := by unfold runTS; rw [if_neg (by rw [hx]; exact h0)]
  refine ⟨0, 0, .slice none 0 0, .slice none 0 0, .slice none 0 0, none, 0, none, 0, .slice none 0 0, by rw [hs, hx], by rw [hs]; rfl, tcells_one rfl rfl rfl rfl, ?_, hb⟩
  rw [hs]
  exact World.ownsRow_nil _ _ _ _
set_option maxRecDepth 100000 in
set_option maxHeartbeats 8000000 in
theorem mrun_bad {lo n c : Nat} {A : Option Addr} {hs : List Fd} (Al : Int) (F : Tg) (inp : List Nat) (fuel size : Int) (Ai : Option Addr) (ni ci : Nat) (w : World) (hE : tgE Al F ≠ 0) (hPg : Hid (TgAt w lo w.heap.size A n c hs F)) :
    Calls Tryz.prog 22 #[tv Al A n c, .slice Ai ni ci, .int .i64 fuel, .int .i64 size] w (RunPostT Al F inp fuel size w) := by
  obtain ⟨x, hx⟩ : ∃ x, tgE Al F = x := ⟨_, rfl⟩
  have hb0 := hide (below2 w (.cells #[.int .i64 Al, .slice A n c] 26) (.cells (tcells 0 0 zeroT (.slice none 0 0) (.slice none 0 0) (.slice none 0 0) none 0 none 0 (.slice none 0 0)).toArray 73))
  obtain ⟨W1, hW1⟩ : ∃ W1, (w.alloc (.cells #[.int .i64 Al, .slice A n c] 26)).alloc (.cells (tcells 0 0 zeroT (.slice none 0 0) (.slice none 0 0) (.slice none 0 0) none 0 none 0 (.slice none 0 0)).toArray 73) = W1 := ⟨_, rfl⟩
  rw [hW1] at hb0
  have cc := chktg_any Al A n c hs F lo w.heap.size W1 (hide (hPg.out.below hb0.out)) hb0.out.size
  have HW1 := hide (show (w.alloc (.cells #[.int .i64 Al, .slice A n c] 26)).alloc (.cells #[.slice none 0 0, .int .i64 0, .int .i64 0, .int .u64 0, .int .u64 0, .int .u64 0, .slice none 0 0, .int .i64 0, .int .u64 0, .int .u64 0, .int .u64 0, .int .u64 0, .int .u64 0, .int .u64 0, .int .u64 0, .int .u64 0, .int .u64 0, .int .u64 0, .int .u64 0, .int .u64 0, .int .u64 0, .int .u64 0, .int .u64 0, .int .u64 0, .bool false, .slice none 0 0, .slice none 0 0, .slice none 0 0, .int .i64 0, .int .i64 0, .slice none 0 0, .int .i64 0] 73) = W1 from hW1)
  clear hW1
  rw [hx] at cc
  have hx0 : x ≠ 0 := by rw [← hx]; exact hE
  have HE := hide (show runTE Al F fuel size = x by unfold runTE; rw [if_pos hE, hx])
  have hxb : (x == 0) = false := by rw [beq_eq_false_iff_ne]; exact hx0
  clear hE hx
  go_enter Tryz.func22, Tryz.ntmps22
  go_upto_region 1 with (fail)
  rw [HW1.out]
  have RZ := hide (show Row W1 (w.heap.size + 1) 73 (tcells 0 0 zeroT (.slice none 0 0) (.slice none 0 0) (.slice none 0 0) none 0 none 0 (.slice none 0 0)) by
    rw [← HW1.out]
    have := Row.new (w.alloc (.cells #[.int .i64 Al, .slice A n c] 26)) 73 (tcells 0 0 zeroT (.slice none 0 0) (.slice none 0 0) (.slice none 0 0) none 0 none 0 (.slice none 0 0))
    rw [show (w.alloc (.cells #[.int .i64 Al, .slice A n c] 26)).heap.size = w.heap.size + 1 by simp] at this
    exact this)
  have RB := hide (show Row W1 w.heap.size 26 [.int .i64 Al, .slice A n c] by rw [← HW1.out]; exact (Row.new w _ _).alloc _)
  have x0 := RB.out.cell (k := 0) rfl
  have x1 := RB.out.cell (k := 1) rfl
  clear HW1
  go_wp2_with fail
  refine cc.mono ?_
  rintro e w2 ⟨rfl, hb2⟩
  have B2 := hide (hb0.out.trans (hb2.mono hb0.out.size))
  have R2 := hide (RZ.out.call hb2)
  have RB2 := hide (RB.out.call hb2)
  clear cc hb2 x0 x1 RZ RB
  have hst := store_row (vs := (tcells 0 0 zeroT (.slice none 0 0) (.slice none 0 0) (.slice none 0 0) none 0 none 0 (.slice none 0 0))) (size_tmachine (w := w2)) (tcells_len rfl) (tcells_len rfl) (tcells_one rfl rfl rfl rfl) R2.out
  have R3 := hide (set_row_row (vs := (tcells 0 0 zeroT (.slice none 0 0) (.slice none 0 0) (.slice none 0 0) none 0 none 0 (.slice none 0 0))) R2.out)
  have B3 := hide (show Below w.heap.size w (w2.setRow (w.heap.size + 1) (tcells 0 0 zeroT (.slice none 0 0) (.slice none 0 0) (.slice none 0 0) none 0 none 0 (.slice none 0 0)).toArray) from B2.out.grown (set_row_grown w2 _ _) B2.out.size (fun k hk => by injection hk with hk; omega))
  generalize w2.setRow (w.heap.size + 1) (tcells 0 0 zeroT (.slice none 0 0) (.slice none 0 0) (.slice none 0 0) none 0 none 0 (.slice none 0 0)).toArray = W3 at hst R3 B3
  have hld := load_row (agg_tmachine (w := W3)) (size_tmachine (w := W3)) (tcells_len rfl) R3.out
  go_wp2_with (first | (refine wpList_store_whole 73 (.tmp 8) (.tmp 18) rfl rfl _ _ rfl rfl hst ?_) | fail)
  exact bodyPost_ret (v := .tuple #[.agg (tcells 0 0 zeroT (.slice none 0 0) (.slice none 0 0) (.slice none 0 0) none 0 none 0 (.slice none 0 0)).toArray, .int .i64 x]) (results_cell_tmp (fn := Tryz.f22) (t := 8) (u := 9) (T := 73) rfl _ W3 _ _ _ rfl hld) rfl (runT_zero_post Al F inp fuel size w W3 x HE.out hx0 B3.out)
set_option maxRecDepth 100000 in
set_option maxHeartbeats 8000000 in
theorem mrun_fuel {lo n c : Nat} {A : Option Addr} {hs : List Fd} (Al : Int) (F : Tg) (inp : List Nat) (fuel size : Int) (Ai : Option Addr) (ni ci : Nat) (w : World) (hE : tgE Al F = 0) (hfu : ¬ (0 ≤ fuel ∧ fuel ≤ 100000)) (hPg : Hid (TgAt w lo w.heap.size A n c hs F)) :
    Calls Tryz.prog 22 #[tv Al A n c, .slice Ai ni ci, .int .i64 fuel, .int .i64 size] w (RunPostT Al F inp fuel size w) := by
  have hb0 := hide (below2 w (.cells #[.int .i64 Al, .slice A n c] 26) (.cells (tcells 0 0 zeroT (.slice none 0 0) (.slice none 0 0) (.slice none 0 0) none 0 none 0 (.slice none 0 0)).toArray 73))
  obtain ⟨W1, hW1⟩ : ∃ W1, (w.alloc (.cells #[.int .i64 Al, .slice A n c] 26)).alloc (.cells (tcells 0 0 zeroT (.slice none 0 0) (.slice none 0 0) (.slice none 0 0) none 0 none 0 (.slice none 0 0)).toArray 73) = W1 := ⟨_, rfl⟩
  rw [hW1] at hb0
  have cc := chktg_any Al A n c hs F lo w.heap.size W1 (hide (hPg.out.below hb0.out)) hb0.out.size
  have HW1 := hide (show (w.alloc (.cells #[.int .i64 Al, .slice A n c] 26)).alloc (.cells #[.slice none 0 0, .int .i64 0, .int .i64 0, .int .u64 0, .int .u64 0, .int .u64 0, .slice none 0 0, .int .i64 0, .int .u64 0, .int .u64 0, .int .u64 0, .int .u64 0, .int .u64 0, .int .u64 0, .int .u64 0, .int .u64 0, .int .u64 0, .int .u64 0, .int .u64 0, .int .u64 0, .int .u64 0, .int .u64 0, .int .u64 0, .int .u64 0, .bool false, .slice none 0 0, .slice none 0 0, .slice none 0 0, .int .i64 0, .int .i64 0, .slice none 0 0, .int .i64 0] 73) = W1 from hW1)
  clear hW1
  rw [hE] at cc
  have HE := hide (show runTE Al F fuel size = 4 by unfold runTE; rw [if_neg (by rw [hE]; decide), if_neg (fun hh => hfu hh.1)])
  have hx0 : (4 : Int) ≠ 0 := by decide
  have hcase : fuel < 0 ∨ (¬ fuel < 0 ∧ 100000 < fuel) := by omega
  clear hE hfu
  go_enter Tryz.func22, Tryz.ntmps22
  go_upto_region 1 with (fail)
  rw [HW1.out]
  have RZ := hide (show Row W1 (w.heap.size + 1) 73 (tcells 0 0 zeroT (.slice none 0 0) (.slice none 0 0) (.slice none 0 0) none 0 none 0 (.slice none 0 0)) by
    rw [← HW1.out]
    have := Row.new (w.alloc (.cells #[.int .i64 Al, .slice A n c] 26)) 73 (tcells 0 0 zeroT (.slice none 0 0) (.slice none 0 0) (.slice none 0 0) none 0 none 0 (.slice none 0 0))
    rw [show (w.alloc (.cells #[.int .i64 Al, .slice A n c] 26)).heap.size = w.heap.size + 1 by simp] at this
    exact this)
  have RB := hide (show Row W1 w.heap.size 26 [.int .i64 Al, .slice A n c] by rw [← HW1.out]; exact (Row.new w _ _).alloc _)
  have x0 := RB.out.cell (k := 0) rfl
  have x1 := RB.out.cell (k := 1) rfl
  clear HW1
  go_wp2_with fail
  refine cc.mono ?_
  rintro e w2 ⟨rfl, hb2⟩
  have B2 := hide (hb0.out.trans (hb2.mono hb0.out.size))
  have R2 := hide (RZ.out.call hb2)
  have RB2 := hide (RB.out.call hb2)
  clear cc hb2 x0 x1 RZ RB
  have hst := store_row (vs := (tcells 0 0 zeroT (.slice none 0 0) (.slice none 0 0) (.slice none 0 0) none 0 none 0 (.slice none 0 0))) (size_tmachine (w := w2)) (tcells_len rfl) (tcells_len rfl) (tcells_one rfl rfl rfl rfl) R2.out
  have R3 := hide (set_row_row (vs := (tcells 0 0 zeroT (.slice none 0 0) (.slice none 0 0) (.slice none 0 0) none 0 none 0 (.slice none 0 0))) R2.out)
  have B3 := hide (show Below w.heap.size w (w2.setRow (w.heap.size + 1) (tcells 0 0 zeroT (.slice none 0 0) (.slice none 0 0) (.slice none 0 0) none 0 none 0 (.slice none 0 0)).toArray) from B2.out.grown (set_row_grown w2 _ _) B2.out.size (fun k hk => by injection hk with hk; omega))
  generalize w2.setRow (w.heap.size + 1) (tcells 0 0 zeroT (.slice none 0 0) (.slice none 0 0) (.slice none 0 0) none 0 none 0 (.slice none 0 0)).toArray = W3 at hst R3 B3
  have hld := load_row (agg_tmachine (w := W3)) (size_tmachine (w := W3)) (tcells_len rfl) R3.out
  rcases hcase with h0 | ⟨h0, h1⟩
  all_goals
    go_wp2_with (first | (refine wpList_store_whole 73 (.tmp 8) (.tmp 26) rfl rfl _ _ rfl rfl hst ?_) | fail)
    exact bodyPost_ret (v := .tuple #[.agg (tcells 0 0 zeroT (.slice none 0 0) (.slice none 0 0) (.slice none 0 0) none 0 none 0 (.slice none 0 0)).toArray, .int .i64 4]) (results_cell_tmp (fn := Tryz.f22) (t := 8) (u := 9) (T := 73) rfl _ W3 _ _ _ rfl hld) rfl (runT_zero_post Al F inp fuel size w W3 4 HE.out hx0 B3.out)
set_option maxRecDepth 100000 in
set_option maxHeartbeats 8000000 in
theorem mrun_size {lo n c : Nat} {A : Option Addr} {hs : List Fd} (Al : Int) (F : Tg) (inp : List Nat) (fuel size : Int) (Ai : Option Addr) (ni ci : Nat) (w : World) (hE : tgE Al F = 0) (hfu : 0 ≤ fuel ∧ fuel ≤ 100000) (hsz : ¬ (0 ≤ size ∧ size ≤ 1048576)) (hPg : Hid (TgAt w lo w.heap.size A n c hs F)) :
    Calls Tryz.prog 22 #[tv Al A n c, .slice Ai ni ci, .int .i64 fuel, .int .i64 size] w (RunPostT Al F inp fuel size w) := by
  have hb0 := hide (below2 w (.cells #[.int .i64 Al, .slice A n c] 26) (.cells (tcells 0 0 zeroT (.slice none 0 0) (.slice none 0 0) (.slice none 0 0) none 0 none 0 (.slice none 0 0)).toArray 73))
  obtain ⟨W1, hW1⟩ : ∃ W1, (w.alloc (.cells #[.int .i64 Al, .slice A n c] 26)).alloc (.cells (tcells 0 0 zeroT (.slice none 0 0) (.slice none 0 0) (.slice none 0 0) none 0 none 0 (.slice none 0 0)).toArray 73) = W1 := ⟨_, rfl⟩
  rw [hW1] at hb0
  have cc := chktg_any Al A n c hs F lo w.heap.size W1 (hide (hPg.out.below hb0.out)) hb0.out.size
  have HW1 := hide (show (w.alloc (.cells #[.int .i64 Al, .slice A n c] 26)).alloc (.cells #[.slice none 0 0, .int .i64 0, .int .i64 0, .int .u64 0, .int .u64 0, .int .u64 0, .slice none 0 0, .int .i64 0, .int .u64 0, .int .u64 0, .int .u64 0, .int .u64 0, .int .u64 0, .int .u64 0, .int .u64 0, .int .u64 0, .int .u64 0, .int .u64 0, .int .u64 0, .int .u64 0, .int .u64 0, .int .u64 0, .int .u64 0, .int .u64 0, .bool false, .slice none 0 0, .slice none 0 0, .slice none 0 0, .int .i64 0, .int .i64 0, .slice none 0 0, .int .i64 0] 73) = W1 from hW1)
  clear hW1
  rw [hE] at cc
  have HE := hide (show runTE Al F fuel size = 4 by unfold runTE; rw [if_neg (by rw [hE]; decide), if_neg (fun hh => hsz hh.2)])
  have hx0 : (4 : Int) ≠ 0 := by decide
  obtain ⟨hn1, hn2⟩ := new_no size Al (fun hh => hsz ⟨hh.1, hh.2.1⟩)
  have HNE := hide hn1
  have HNR := hide hn2
  have hf0 : ¬ fuel < 0 := by omega
  have hf1 : ¬ 100000 < fuel := by omega
  clear hE hfu hsz hn1 hn2
  go_enter Tryz.func22, Tryz.ntmps22
  go_upto_region 1 with (fail)
  rw [HW1.out]
  have RZ := hide (show Row W1 (w.heap.size + 1) 73 (tcells 0 0 zeroT (.slice none 0 0) (.slice none 0 0) (.slice none 0 0) none 0 none 0 (.slice none 0 0)) by
    rw [← HW1.out]
    have := Row.new (w.alloc (.cells #[.int .i64 Al, .slice A n c] 26)) 73 (tcells 0 0 zeroT (.slice none 0 0) (.slice none 0 0) (.slice none 0 0) none 0 none 0 (.slice none 0 0))
    rw [show (w.alloc (.cells #[.int .i64 Al, .slice A n c] 26)).heap.size = w.heap.size + 1 by simp] at this
    exact this)
  have RB := hide (show Row W1 w.heap.size 26 [.int .i64 Al, .slice A n c] by rw [← HW1.out]; exact (Row.new w _ _).alloc _)
  have x0 := RB.out.cell (k := 0) rfl
  have x1 := RB.out.cell (k := 1) rfl
  clear HW1
  go_wp2_with fail
  refine cc.mono ?_
  rintro e w2 ⟨rfl, hb2⟩
  have B2 := hide (hb0.out.trans (hb2.mono hb0.out.size))
  have R2 := hide (RZ.out.call hb2)
  have RB2 := hide (RB.out.call hb2)
  clear cc hb2 x0 x1 RZ RB
  have cn := stknew_own size Al w2
  rw [HNE.out, HNR.out] at cn
  have y0 := RB2.out.cell (k := 0) rfl
  go_wp2_with fail
  refine cn.mono ?_
  rintro e w3 ⟨A1, c1, A2, c2, rfl, hown, hb3⟩
  have b3a := (below_call (B2.out) hb3).alloc (below_call (B2.out) hb3).size (.cells #[.slice A1 0 c1, .slice A2 0 c2, .int .i64 0] 68)
  obtain ⟨W4, hW4⟩ : ∃ W4, w3.alloc (.cells #[.slice A1 0 c1, .slice A2 0 c2, .int .i64 0] 68) = W4 := ⟨_, rfl⟩
  rw [hW4] at b3a
  have B4 := hide b3a
  have R4 := hide (show Row W4 (w.heap.size + 1) 73 (tcells 0 0 zeroT (.slice none 0 0) (.slice none 0 0) (.slice none 0 0) none 0 none 0 (.slice none 0 0)) by rw [← hW4]; exact (R2.out.call hb3).alloc _)
  have HW4 := hide hW4
  clear b3a hW4 hown hb3 cn y0
  go_upto_region 7 with (fail)
  rw [show (newS 0 0).bs.length = 0 from rfl, show (((newS 0 0).sp : Nat) : Int) = 0 from rfl]
  rw [HW4.out]
  have hst := store_row (vs := (tcells 0 0 zeroT (.slice none 0 0) (.slice none 0 0) (.slice none 0 0) none 0 none 0 (.slice none 0 0))) (size_tmachine (w := W4)) (tcells_len rfl) (tcells_len rfl) (tcells_one rfl rfl rfl rfl) R4.out
  have R3 := hide (set_row_row (vs := (tcells 0 0 zeroT (.slice none 0 0) (.slice none 0 0) (.slice none 0 0) none 0 none 0 (.slice none 0 0))) R4.out)
  have B3 := hide (show Below w.heap.size w (W4.setRow (w.heap.size + 1) (tcells 0 0 zeroT (.slice none 0 0) (.slice none 0 0) (.slice none 0 0) none 0 none 0 (.slice none 0 0)).toArray) from B4.out.grown (set_row_grown W4 _ _) B4.out.size (fun k hk => by injection hk with hk; omega))
  generalize W4.setRow (w.heap.size + 1) (tcells 0 0 zeroT (.slice none 0 0) (.slice none 0 0) (.slice none 0 0) none 0 none 0 (.slice none 0 0)).toArray = W3 at hst R3 B3
  have hld := load_row (agg_tmachine (w := W3)) (size_tmachine (w := W3)) (tcells_len rfl) R3.out
  go_wp2_with (first | (refine wpList_store_whole 73 (.tmp 8) (.tmp 36) rfl rfl _ _ rfl rfl hst ?_) | fail)
  exact bodyPost_ret (v := .tuple #[.agg (tcells 0 0 zeroT (.slice none 0 0) (.slice none 0 0) (.slice none 0 0) none 0 none 0 (.slice none 0 0)).toArray, .int .i64 4]) (results_cell_tmp (fn := Tryz.f22) (t := 8) (u := 9) (T := 73) rfl _ W3 _ _ _ rfl hld) rfl (runT_zero_post Al F inp fuel size w W3 4 HE.out hx0 B3.out)
end Go.Proofs.YtafegghdhdgioabGreat
end
