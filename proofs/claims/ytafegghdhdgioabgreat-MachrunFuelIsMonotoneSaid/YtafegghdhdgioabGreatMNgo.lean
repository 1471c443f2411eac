import Derived.Test.YtafegghdhdgioabGreatMNrg
set_option linter.unusedVariables false
set_option linter.unusedSimpArgs false
section
/-
  The contracts of machrun's run, Run and Deepest (chapter 12): for any target, input, fuel and size. Conditions: those of the types.
-/
namespace Go.Proofs.YtafegghdhdgioabGreat
open Go.RowKit

theorem mrun_any {lo n c : Nat} {A : Option Addr} {hs : List Fd} (Al : Int) (F : Tg) (inp : List Nat) (fuel size : Int) (Ai : Option Addr) (ni ci : Nat) (w : World) (him : Hid (ImmT F)) (hI : Hid (InAt w w.heap.size (.slice Ai ni ci) inp)) (hIv : Hid (∀ v ∈ inp, v < 18446744073709551616)) (hPg : Hid (TgAt w lo w.heap.size A n c hs F)) :
    Calls Tryz.prog 22 #[tv Al A n c, .slice Ai ni ci, .int .i64 fuel, .int .i64 size] w (RunPostT Al F inp fuel size w) := by
  by_cases hE : tgE Al F = 0
  · by_cases hf : 0 ≤ fuel ∧ fuel ≤ 100000
    · by_cases hs : 0 ≤ size ∧ size ≤ 1048576
      · have e1 : fuel = ((fuel.toNat : Nat) : Int) := by omega
        have e2 : size = ((size.toNat : Nat) : Int) := by omega
        rw [e1, e2]
        exact mrun_good Al F inp fuel.toNat size.toNat Ai ni ci w hE (by omega) (by omega) him hI hIv hPg
      · exact mrun_size Al F inp fuel size Ai ni ci w hE hf hs hPg
    · exact mrun_fuel Al F inp fuel size Ai ni ci w hE hf hPg
  · exact mrun_bad Al F inp fuel size Ai ni ci w hE hPg
/-- The cells of an outcome. -/
def tocells (c : Co) (vt : Value) : List Value := [.int .i64 c.kind, .int .u64 c.code, .int .u64 (lo c.res), .int .u64 (hi c.res), vt, .int .i64 (c.steps : Int)]
theorem tocells_at {fu T0 : Nat} {s : Tm} {vi vt vf vs : Value} {A1 A2 : Option Addr} {c1 c2 : Nat} : ∀ (j : Nat) (v : Value), (tocells s.c vt)[j]? = some v → (tcells fu T0 s vi vt vf A1 c1 A2 c2 vs)[2 + j]? = some v := by
  intro j v hj
  rcases j with _ | _ | _ | _ | _ | _ | j
  all_goals first | exact hj | (simp [tocells] at hj)
theorem tocells_one {c : Co} {vt : Value} (h : vt.oneCell' = true) : ∀ v ∈ tocells c vt, v.oneCell' = true := by
  intro v hv
  simp only [tocells, List.mem_cons, List.not_mem_nil, or_false] at hv
  rcases hv with rfl | rfl | rfl | rfl | rfl | rfl <;> first | rfl | assumption
/-- How Run returns. -/
def OutT (Al : Int) (F : Tg) (inp : List Nat) (fuel size : Int) (w : World) (e : Ending) (w' : World) : Prop :=
  ∃ vt, e = .returned (.tuple #[.agg (tocells (runTS Al F inp fuel size).c vt).toArray, .int .i64 (runTE Al F fuel size)]) ∧
    w'.ownsRow w.heap.size 38 2 vt (runTS Al F inp fuel size).c.trace.length (vcells (runTS Al F inp fuel size).c.trace) ∧ Below w.heap.size w w'
set_option maxRecDepth 100000 in
set_option maxHeartbeats 4000000 in
theorem tout_any {lo n c : Nat} {A : Option Addr} {hs : List Fd} (Al : Int) (F : Tg) (inp : List Nat) (fuel size : Int) (Ai : Option Addr) (ni ci : Nat) (w : World) (him : Hid (ImmT F)) (hI : Hid (InAt w w.heap.size (.slice Ai ni ci) inp)) (hIv : Hid (∀ v ∈ inp, v < 18446744073709551616)) (hPg : Hid (TgAt w lo w.heap.size A n c hs F)) :
    Calls Tryz.prog 10 #[tv Al A n c, .slice Ai ni ci, .int .i64 fuel, .int .i64 size] w (OutT Al F inp fuel size w) := by
  obtain ⟨W1, hW1⟩ : ∃ W1, (w.alloc (.cells #[.int .i64 Al, .slice A n c] 26)).alloc (.cells #[.int .i64 0, .int .u64 0, .int .u64 0, .int .u64 0, .slice none 0 0, .int .i64 0] 41) = W1 := ⟨_, rfl⟩
  have HW1 := hide hW1
  have hb0 := hide (show Below w.heap.size w W1 by rw [← hW1]; exact below2 w _ _)
  have hsz := hide (show W1.heap.size = w.heap.size + 2 by rw [← hW1]; simp)
  have RB := hide (show Row W1 w.heap.size 26 [.int .i64 Al, .slice A n c] by rw [← HW1.out]; exact (Row.new w _ _).alloc _)
  have RZ := hide (show Row W1 (w.heap.size + 1) 41 [.int .i64 0, .int .u64 0, .int .u64 0, .int .u64 0, .slice none 0 0, .int .i64 0] by
    rw [← HW1.out]
    have := Row.new (w.alloc (.cells #[.int .i64 Al, .slice A n c] 26)) 41 [.int .i64 0, .int .u64 0, .int .u64 0, .int .u64 0, .slice none 0 0, .int .i64 0]
    rw [show (w.alloc (.cells #[.int .i64 Al, .slice A n c] 26)).heap.size = w.heap.size + 1 by simp] at this
    exact this)
  have cr := mrun_any Al F inp fuel size Ai ni ci W1 him (hide ((hI.out.below hb0.out).more hb0.out.size)) hIv (hide ((hPg.out.below hb0.out).more hb0.out.size (Nat.le_refl _)))
  clear hW1
  go_enter Tryz.func10, Tryz.ntmps10
  go_upto_region 1 with (fail)
  rw [HW1.out]
  have x0 := RB.out.cell (k := 0) rfl
  have x1 := RB.out.cell (k := 1) rfl
  clear HW1
  go_wp2_with fail
  refine cr.mono ?_
  rintro e w2 ⟨fu, T0, vi, vt, vf, A1, c1, A2, c2, vs, rfl, h8, h1, hto, hb2⟩
  have B2 := hide (hb0.out.trans (hb2.mono hb0.out.size))
  obtain ⟨cs, hcs⟩ : ∃ cs, tcells fu T0 (runTS Al F inp fuel size) vi vt vf A1 c1 A2 c2 vs = cs := ⟨_, rfl⟩
  have hlen := tcells_len (fu := fu) (T0 := T0) (vi := vi) (vt := vt) (vf := vf) (vs := vs) (A1 := A1) (A2 := A2) (c1 := c1) (c2 := c2) h8
  have hoc := fun j v hj => tocells_at (fu := fu) (T0 := T0) (s := runTS Al F inp fuel size) (vi := vi) (vt := vt) (vf := vf) (vs := vs) (A1 := A1) (A2 := A2) (c1 := c1) (c2 := c2) j v hj
  rw [hcs] at h1 hlen ⊢
  simp only [hcs] at hoc
  have RN := hide (show Row (w2.alloc (.cells #[.slice none 0 0, .int .i64 0, .int .i64 0, .int .u64 0, .int .u64 0, .int .u64 0, .slice none 0 0, .int .i64 0, .int .u64 0, .int .u64 0, .int .u64 0, .int .u64 0, .int .u64 0, .int .u64 0, .int .u64 0, .int .u64 0, .int .u64 0, .int .u64 0, .int .u64 0, .int .u64 0, .int .u64 0, .int .u64 0, .int .u64 0, .int .u64 0, .bool false, .slice none 0 0, .slice none 0 0, .slice none 0 0, .int .i64 0, .int .i64 0, .slice none 0 0, .int .i64 0] 73)) w2.heap.size 73 (tcells 0 0 zeroT (.slice none 0 0) (.slice none 0 0) (.slice none 0 0) none 0 none 0 (.slice none 0 0)) from Row.new w2 73 (tcells 0 0 zeroT (.slice none 0 0) (.slice none 0 0) (.slice none 0 0) none 0 none 0 (.slice none 0 0)))
  have hst := store_row (vs := cs) (size_tmachine (w := w2.alloc (.cells #[.slice none 0 0, .int .i64 0, .int .i64 0, .int .u64 0, .int .u64 0, .int .u64 0, .slice none 0 0, .int .i64 0, .int .u64 0, .int .u64 0, .int .u64 0, .int .u64 0, .int .u64 0, .int .u64 0, .int .u64 0, .int .u64 0, .int .u64 0, .int .u64 0, .int .u64 0, .int .u64 0, .int .u64 0, .int .u64 0, .int .u64 0, .int .u64 0, .bool false, .slice none 0 0, .slice none 0 0, .slice none 0 0, .int .i64 0, .int .i64 0, .slice none 0 0, .int .i64 0] 73))) hlen (tcells_len rfl) h1 RN.out
  have RM := hide (set_row_row (vs := cs) RN.out)
  have GM := hide (set_row_grown (w2.alloc (.cells #[.slice none 0 0, .int .i64 0, .int .i64 0, .int .u64 0, .int .u64 0, .int .u64 0, .slice none 0 0, .int .i64 0, .int .u64 0, .int .u64 0, .int .u64 0, .int .u64 0, .int .u64 0, .int .u64 0, .int .u64 0, .int .u64 0, .int .u64 0, .int .u64 0, .int .u64 0, .int .u64 0, .int .u64 0, .int .u64 0, .int .u64 0, .int .u64 0, .bool false, .slice none 0 0, .slice none 0 0, .slice none 0 0, .int .i64 0, .int .i64 0, .slice none 0 0, .int .i64 0] 73)) w2.heap.size cs.toArray)
  obtain ⟨W3, hW3⟩ : ∃ W3, (w2.alloc (.cells #[.slice none 0 0, .int .i64 0, .int .i64 0, .int .u64 0, .int .u64 0, .int .u64 0, .slice none 0 0, .int .i64 0, .int .u64 0, .int .u64 0, .int .u64 0, .int .u64 0, .int .u64 0, .int .u64 0, .int .u64 0, .int .u64 0, .int .u64 0, .int .u64 0, .int .u64 0, .int .u64 0, .int .u64 0, .int .u64 0, .int .u64 0, .int .u64 0, .bool false, .slice none 0 0, .slice none 0 0, .slice none 0 0, .int .i64 0, .int .i64 0, .slice none 0 0, .int .i64 0] 73)).setRow w2.heap.size cs.toArray = W3 := ⟨_, rfl⟩
  rw [hW3] at hst RM GM
  have B3 := hide (show Below w.heap.size w W3 from (B2.out.alloc B2.out.size _).grown GM.out (by have := RN.out.lt; have := B2.out.size; omega) (fun k hk => by injection hk with hk; have := B2.out.size; omega))
  have hw2 : w.heap.size + 1 < w2.heap.size := by have := hb2.size; have := hsz.out; omega
  have RZ3 := hide (show Row W3 (w.heap.size + 1) 41 [.int .i64 0, .int .u64 0, .int .u64 0, .int .u64 0, .slice none 0 0, .int .i64 0] from ((RZ.out.call hb2).alloc _).grown GM.out (fun e => by injection e with e; omega))
  have hto3 := hide ((own_below hto (below1 w2 _)).kept GM.out (own_not2 hto (fun k _ hk => by have := hk; omega)))
  have hld := load_run (w := W3) (g := w2.heap.size) (o := 2) (agg_toutcome (w := W3)) (size_toutcome (w := W3)) (cs := tocells (runTS Al F inp fuel size).c vt) rfl (fun j v hj => RM.out.cell (hoc j v hj))
  generalize cs.toArray = X at hst
  clear cr hb2 hto h1 h8 RN RM GM hW3 x0 x1 hcs hlen hoc
  have hs2 := store_row (vs := tocells (runTS Al F inp fuel size).c vt) (size_toutcome (w := W3)) rfl rfl (tocells_one (own_oneCell hto3.out)) RZ3.out
  have R5 := hide (set_row_row (vs := tocells (runTS Al F inp fuel size).c vt) RZ3.out)
  have G5 := hide (set_row_grown W3 (w.heap.size + 1) (tocells (runTS Al F inp fuel size).c vt).toArray)
  generalize W3.setRow (w.heap.size + 1) (tocells (runTS Al F inp fuel size).c vt).toArray = W5 at hs2 R5 G5
  have hld2 := load_row (agg_toutcome (w := W5)) (size_toutcome (w := W5)) rfl R5.out
  have HP : Hid (OutT Al F inp fuel size w (.returned (.tuple #[.agg (tocells (runTS Al F inp fuel size).c vt).toArray, .int .i64 (runTE Al F fuel size)])) W5) := hide ⟨vt, rfl, own_zbase (hto3.out.kept G5.out (own_not2 hto3.out (fun k hk _ => by have := hsz.out; omega))) (by have := hsz.out; omega), B3.out.grown G5.out B3.out.size (fun k hk => by injection hk with hk; omega)⟩
  generalize (tocells (runTS Al F inp fuel size).c vt).toArray = Y at hld hs2 hld2 HP
  clear R5 G5 hto3 RZ3 B3
  go_wp2_with (first | (refine wpList_store_whole 73 (.tmp 10) (.tmp 18) rfl rfl _ _ rfl rfl hst ?_) | (refine wpList_load_whole 41 (.tmp 21) rfl rfl _ _ rfl hld ?_) | (refine wpList_store_whole 41 (.tmp 8) (.tmp 22) rfl rfl _ _ rfl rfl hs2 ?_) | fail)
  exact bodyPost_ret (v := .tuple #[.agg Y, .int .i64 (runTE Al F fuel size)]) (results_cell_tmp (fn := Tryz.f10) (t := 8) (u := 9) (T := 41) rfl _ W5 _ _ _ rfl hld2) rfl HP.out
end Go.Proofs.YtafegghdhdgioabGreat
end
