import Derived.Test.YtipjeihfhnilcaaDoorMZrl
set_option linter.unusedVariables false
set_option linter.unusedSimpArgs false
section
/-
  The contracts of run and Run (chapter 8). Conditions: those of the types; the table of shapes lies as it is laid.
-/
namespace Go.Proofs.YtipjeihfhnilcaaDoor
open Go.RowKit

theorem run_any (F : Pg) (inp : List Nat) (fuel : Int) {lo n c : Nat} {A : Option Addr} {hs : List Hd} (Ai : Option Addr) (ni ci : Nat) (w : World) (him : Hid (ImmF F)) (hI : Hid (InAt w w.heap.size (.slice Ai ni ci) inp)) (hIv : Hid (∀ v ∈ inp, v < 18446744073709551616)) (hPg : Hid (PgAt w lo w.heap.size A n c hs F)) (hSh : Hid (Shapes w)) :
    Calls Tryd.prog 22 #[gv A n c, .slice Ai ni ci, .int .i64 fuel] w (RunPost F inp fuel w) := by
  by_cases hE : pgE F = 0
  · by_cases hf : 0 ≤ fuel ∧ fuel ≤ 100000
    · have e : fuel = ((fuel.toNat : Nat) : Int) := by omega
      rw [e]
      exact run_good F inp fuel.toNat Ai ni ci w hE him (by omega) hI hIv hPg hSh
    · exact run_range F inp fuel Ai ni ci w hE hf hPg hSh
  · exact run_bad F inp fuel Ai ni ci w hE hPg hSh
theorem own_not {w : World} {base g : Nat} {e : TypeId} {size n : Nat} {v : Value} {xs : List Value} (h : w.ownsRow base e size v n xs) (hn : ∀ k, base ≤ k → k < w.heap.size → k ≠ g) : v.ownBlock = none ∨ v.ownBlock ≠ some g := by
  rcases ho : v.ownBlock with _ | k
  · exact .inl rfl
  · refine .inr fun e => ?_
    injection e with e
    have := h.lt k ho
    exact hn k (by omega) (by omega) e
/-- The cells of an outcome. -/
def ocells (s : Mch) (vt : Value) : List Value := [.int .i64 s.kind, .int .u64 s.code, .int .u64 (lo s.res), .int .u64 (hi s.res), vt, .int .i64 (s.steps : Int)]
theorem ocells_at {fu : Nat} {s : Mch} {vi vt vf vs : Value} : ∀ (j : Nat) (v : Value), (ocells s vt)[j]? = some v → (mcells fu s vi vt vf vs)[2 + j]? = some v := by
  intro j v hj
  rcases j with _ | _ | _ | _ | _ | _ | j
  all_goals first | exact hj | (simp [ocells] at hj)
theorem ocells_one {s : Mch} {vt : Value} (h : vt.oneCell' = true) : ∀ v ∈ ocells s vt, v.oneCell' = true := by
  intro v hv
  simp only [ocells, List.mem_cons, List.not_mem_nil, or_false] at hv
  rcases hv with rfl | rfl | rfl | rfl | rfl | rfl <;> first | rfl | assumption
/-- How Run returns. -/
def OutAt (F : Pg) (inp : List Nat) (fuel : Int) (w : World) (e : Ending) (w' : World) : Prop :=
  ∃ vt, e = .returned (.tuple #[.agg (ocells (runS F inp fuel) vt).toArray, .int .i64 (runE F fuel)]) ∧
    w'.ownsRow w.heap.size 33 2 vt (runS F inp fuel).trace.length (vcells (runS F inp fuel).trace) ∧ Below w.heap.size w w'
set_option maxRecDepth 100000 in
set_option maxHeartbeats 4000000 in
theorem out_any (F : Pg) (inp : List Nat) (fuel : Int) {lo n c : Nat} {A : Option Addr} {hs : List Hd} (Ai : Option Addr) (ni ci : Nat) (w : World) (him : Hid (ImmF F)) (hI : Hid (InAt w w.heap.size (.slice Ai ni ci) inp)) (hIv : Hid (∀ v ∈ inp, v < 18446744073709551616)) (hPg : Hid (PgAt w lo w.heap.size A n c hs F)) (hSh : Hid (Shapes w)) :
    Calls Tryd.prog 10 #[gv A n c, .slice Ai ni ci, .int .i64 fuel] w (OutAt F inp fuel w) := by
  obtain ⟨W1, hW1⟩ : ∃ W1, (w.alloc (.cells #[.slice A n c] 26)).alloc (.cells #[.int .i64 0, .int .u64 0, .int .u64 0, .int .u64 0, .slice none 0 0, .int .i64 0] 36) = W1 := ⟨_, rfl⟩
  have HW1 := hide hW1
  have hb0 := hide (show Below w.heap.size w W1 by rw [← hW1]; exact below2 w _ _)
  have hsz := hide (show W1.heap.size = w.heap.size + 2 by rw [← hW1]; simp)
  have RB := hide (show Row W1 w.heap.size 26 [.slice A n c] by rw [← HW1.out]; exact (Row.new w _ _).alloc _)
  have RZ := hide (show Row W1 (w.heap.size + 1) 36 [.int .i64 0, .int .u64 0, .int .u64 0, .int .u64 0, .slice none 0 0, .int .i64 0] by
    rw [← HW1.out]
    have := Row.new (w.alloc (.cells #[.slice A n c] 26)) 36 [.int .i64 0, .int .u64 0, .int .u64 0, .int .u64 0, .slice none 0 0, .int .i64 0]
    rw [show (w.alloc (.cells #[.slice A n c] 26)).heap.size = w.heap.size + 1 by simp] at this
    exact this)
  have cr := run_any F inp fuel Ai ni ci W1 him (hide ((hI.out.below hb0.out).more hb0.out.size)) hIv (hide ((hPg.out.below hb0.out).more hb0.out.size (Nat.le_refl _))) (hide (hSh.out.below hb0.out))
  clear hW1
  go_enter Tryd.func10, Tryd.ntmps10
  go_upto_region 1 with (fail)
  rw [HW1.out]
  have c0 := RB.out.cell (k := 0) rfl
  clear HW1
  go_wp2_with fail
  refine cr.mono ?_
  rintro e w2 ⟨fu, vi, vt, vf, vs, rfl, h8, h1, hto, hb2⟩
  have B2 := hide (hb0.out.trans (hb2.mono hb0.out.size))
  have RN := hide (show Row (w2.alloc (.cells #[.slice none 0 0, .int .i64 0, .int .i64 0, .int .u64 0, .int .u64 0, .int .u64 0, .slice none 0 0, .int .i64 0, .int .u64 0, .int .u64 0, .int .u64 0, .int .u64 0, .int .u64 0, .int .u64 0, .int .u64 0, .int .u64 0, .int .u64 0, .int .u64 0, .int .u64 0, .int .u64 0, .int .u64 0, .int .u64 0, .int .u64 0, .int .u64 0, .bool false, .slice none 0 0, .slice none 0 0, .int .i64 0] 69)) w2.heap.size 69 (mcells 0 zeroM (.slice none 0 0) (.slice none 0 0) (.slice none 0 0) (.slice none 0 0)) from Row.new w2 69 (mcells 0 zeroM (.slice none 0 0) (.slice none 0 0) (.slice none 0 0) (.slice none 0 0)))
  have hst := store_row (vs := mcells fu (runS F inp fuel) vi vt vf vs) (size_machine (w := w2.alloc (.cells #[.slice none 0 0, .int .i64 0, .int .i64 0, .int .u64 0, .int .u64 0, .int .u64 0, .slice none 0 0, .int .i64 0, .int .u64 0, .int .u64 0, .int .u64 0, .int .u64 0, .int .u64 0, .int .u64 0, .int .u64 0, .int .u64 0, .int .u64 0, .int .u64 0, .int .u64 0, .int .u64 0, .int .u64 0, .int .u64 0, .int .u64 0, .int .u64 0, .bool false, .slice none 0 0, .slice none 0 0, .int .i64 0] 69))) (mcells_len h8) (mcells_len rfl) h1 RN.out
  have RM := hide (set_row_row (vs := mcells fu (runS F inp fuel) vi vt vf vs) RN.out)
  have GM := hide (set_row_grown (w2.alloc (.cells #[.slice none 0 0, .int .i64 0, .int .i64 0, .int .u64 0, .int .u64 0, .int .u64 0, .slice none 0 0, .int .i64 0, .int .u64 0, .int .u64 0, .int .u64 0, .int .u64 0, .int .u64 0, .int .u64 0, .int .u64 0, .int .u64 0, .int .u64 0, .int .u64 0, .int .u64 0, .int .u64 0, .int .u64 0, .int .u64 0, .int .u64 0, .int .u64 0, .bool false, .slice none 0 0, .slice none 0 0, .int .i64 0] 69)) w2.heap.size (mcells fu (runS F inp fuel) vi vt vf vs).toArray)
  obtain ⟨W3, hW3⟩ : ∃ W3, (w2.alloc (.cells #[.slice none 0 0, .int .i64 0, .int .i64 0, .int .u64 0, .int .u64 0, .int .u64 0, .slice none 0 0, .int .i64 0, .int .u64 0, .int .u64 0, .int .u64 0, .int .u64 0, .int .u64 0, .int .u64 0, .int .u64 0, .int .u64 0, .int .u64 0, .int .u64 0, .int .u64 0, .int .u64 0, .int .u64 0, .int .u64 0, .int .u64 0, .int .u64 0, .bool false, .slice none 0 0, .slice none 0 0, .int .i64 0] 69)).setRow w2.heap.size (mcells fu (runS F inp fuel) vi vt vf vs).toArray = W3 := ⟨_, rfl⟩
  rw [hW3] at hst RM GM
  have B3 := hide (show Below w.heap.size w W3 from (B2.out.alloc B2.out.size _).grown GM.out (by have := RN.out.lt; have := B2.out.size; omega) (fun k hk => by injection hk with hk; have := B2.out.size; omega))
  have hw2 : w.heap.size + 1 < w2.heap.size := by have := hb2.size; have := hsz.out; omega
  have RZ3 := hide (show Row W3 (w.heap.size + 1) 36 [.int .i64 0, .int .u64 0, .int .u64 0, .int .u64 0, .slice none 0 0, .int .i64 0] from ((RZ.out.call hb2).alloc _).grown GM.out (fun e => by injection e with e; omega))
  have hto3 := hide ((own_below hto (below1 w2 _)).kept GM.out (own_not hto (fun k _ hk => by have := hk; omega)))
  have hld := load_run (w := W3) (g := w2.heap.size) (o := 2) (agg_outcome (w := W3)) (size_outcome (w := W3)) (cs := ocells (runS F inp fuel) vt) rfl (fun j v hj => RM.out.cell (ocells_at j v hj))
  generalize hX : (mcells fu (runS F inp fuel) vi vt vf vs).toArray = X at hst
  clear hX cr hb2 hto h1 h8 RN RM GM hW3 c0
  have hs2 := store_row (vs := ocells (runS F inp fuel) vt) (size_outcome (w := W3)) rfl rfl (ocells_one (own_oneCell hto3.out)) RZ3.out
  have R5 := hide (set_row_row (vs := ocells (runS F inp fuel) vt) RZ3.out)
  have G5 := hide (set_row_grown W3 (w.heap.size + 1) (ocells (runS F inp fuel) vt).toArray)
  generalize W3.setRow (w.heap.size + 1) (ocells (runS F inp fuel) vt).toArray = W5 at hs2 R5 G5
  have hld2 := load_row (agg_outcome (w := W5)) (size_outcome (w := W5)) rfl R5.out
  have HP : Hid (OutAt F inp fuel w (.returned (.tuple #[.agg (ocells (runS F inp fuel) vt).toArray, .int .i64 (runE F fuel)])) W5) := hide ⟨vt, rfl, own_zbase (hto3.out.kept G5.out (own_not hto3.out (fun k hk _ => by have := hsz.out; omega))) (by have := hsz.out; omega), B3.out.grown G5.out B3.out.size (fun k hk => by injection hk with hk; omega)⟩
  generalize hY : (ocells (runS F inp fuel) vt).toArray = Y at hld hs2 hld2 HP
  clear hY R5 G5 hto3 RZ3 B3
  go_wp2_with (first | (refine wpList_store_whole 69 (.tmp 8) (.tmp 15) rfl rfl _ _ rfl rfl hst ?_) | (refine wpList_load_whole 36 (.tmp 18) rfl rfl _ _ rfl hld ?_) | (refine wpList_store_whole 36 (.tmp 6) (.tmp 19) rfl rfl _ _ rfl rfl hs2 ?_) | fail)
  exact bodyPost_ret (v := .tuple #[.agg Y, .int .i64 (runE F fuel)]) (results_cell_tmp (fn := Tryd.f10) (t := 6) (u := 7) (T := 36) rfl _ W5 _ _ _ rfl hld2) rfl HP.out
end Go.Proofs.YtipjeihfhnilcaaDoor
end
