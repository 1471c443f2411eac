import Derived.Test.YtipjeihfhnilcaaDoorMZrun
set_option linter.unusedVariables false
set_option linter.unusedSimpArgs false
section
/-
  The contract of run (chapter 8), its loop. Conditions: those of the types; the table of shapes lies as it is laid.
-/
namespace Go.Proofs.YtipjeihfhnilcaaDoor
open Go.RowKit

/-- How far the loop of a run still may go. -/
def measC (m : Nat) : Option Value → Option Value → Nat
  | some (.int _ n), some (.bool b) => if b then 0 else m + 2 - n.toNat
  | _, _ => 0
theorem lo_zero : lo 0 = 0 := rfl
theorem hi_zero : hi 0 = 0 := rfl
theorem pre_cells (m : Nat) (inp : List Nat) (Ai A : Option Addr) (ni ci n c : Nat) : mcells m (preM inp) (.slice Ai ni ci) (.slice none 0 0) (.slice A n c) (.slice none 0 0) = [.slice Ai ni ci, .int .i64 (m : Int), .int .i64 0, .int .u64 0, .int .u64 0, .int .u64 0, .slice none 0 0, .int .i64 0, .int .u64 0, .int .u64 0, .int .u64 0, .int .u64 0, .int .u64 0, .int .u64 0, .int .u64 0, .int .u64 0, .int .u64 0, .int .u64 0, .int .u64 0, .int .u64 0, .int .u64 0, .int .u64 0, .int .u64 0, .int .u64 0, .bool false, .slice A n c, .slice none 0 0, .int .i64 0] := by
  simp [mcells, ccells, zrest, vcells, vcell, preM, Mch.co, lo_zero, hi_zero, List.replicate]
theorem meas_less {m a b : Nat} {x : Bool} (ha : a ≤ m) (hb : b = a + 1 ∨ x = true) : measC m (some (.int .i64 (b : Int))) (some (.bool x)) < measC m (some (.int .i64 (a : Int))) (some (.bool false)) := by
  cases x
  · simp [measC]; have : b = a + 1 := by simpa using hb
    omega
  · simp [measC]; omega
theorem run_done {F : Pg} {inp : List Nat} {m : Nat} {S : Mch} {w wr W5 : World} {g : Nat} {vi vt vf vs : Value} {zs : List Zn} (hE : runE F (m : Int) = 0) (hS : runS F inp (m : Int) = S) (H : MRaw wr g (w.heap.size + 2) m vi vt vf vs zs S) (hvf : vf.oneCell' = true) (hB : Below w.heap.size w W5) (hk : wr.grownBy W5 (some (w.heap.size + 1))) :
    RunPost F inp (m : Int) w (.returned (.tuple #[.agg (mcells m S vi vt vf vs).toArray, .int .i64 0])) W5 := by
  refine ⟨m, vi, vt, vf, vs, by rw [hS, hE], by rw [hS]; exact H.r8, mcells_one _ _ _ _ _ _ (in_oneCell H.core.inp) (own_oneCell H.core.tr) hvf (own_oneCell H.st), ?_, hB⟩
  rw [hS]
  exact own_zbase (H.core.tr.kept hk (by
    rcases ho : vt.ownBlock with _ | k
    · exact .inl rfl
    · refine .inr fun e => ?_
      injection e with e
      have := (H.core.tr.lt k ho).1
      omega)) (by omega)
/-- The relation of the loop of a run. -/
def RunRel (w : World) (F : Pg) (inp : List Nat) (m g : Nat) (vf : Value) (wr : World) : Prop :=
  ∃ S vi vt vs zs, MRaw wr g (w.heap.size + 2) m vi vt vf vs zs S ∧ LoopR F inp m S ∧ Below w.heap.size w wr ∧ Row wr (w.heap.size + 1) 69 (mcells 0 zeroM (.slice none 0 0) (.slice none 0 0) (.slice none 0 0) (.slice none 0 0))
set_option maxRecDepth 100000 in
set_option maxHeartbeats 8000000 in
theorem run_good (F : Pg) (inp : List Nat) (m : Nat) {lo n c : Nat} {A : Option Addr} {hs : List Hd} (Ai : Option Addr) (ni ci : Nat) (w : World) (hE : pgE F = 0) (him : Hid (ImmF F)) (hm : m ≤ 100000) (hI : Hid (InAt w w.heap.size (.slice Ai ni ci) inp)) (hIv : Hid (∀ v ∈ inp, v < 18446744073709551616)) (hPg : Hid (PgAt w lo w.heap.size A n c hs F)) (hSh : Hid (Shapes w)) :
    Calls Tryd.prog 22 #[gv A n c, .slice Ai ni ci, .int .i64 (m : Int)] w (RunPost F inp (m : Int) w) := by
  have hb0 := hide (below2 w (.cells #[.slice A n c] 26) (.cells (mcells 0 zeroM (.slice none 0 0) (.slice none 0 0) (.slice none 0 0) (.slice none 0 0)).toArray 69))
  obtain ⟨W1, hW1⟩ : ∃ W1, (w.alloc (.cells #[.slice A n c] 26)).alloc (.cells (mcells 0 zeroM (.slice none 0 0) (.slice none 0 0) (.slice none 0 0) (.slice none 0 0)).toArray 69) = W1 := ⟨_, rfl⟩
  rw [hW1] at hb0
  have cc := check_any A n c hs F lo w.heap.size W1 (hide (hPg.out.below hb0.out)) hb0.out.size (hide (hSh.out.below hb0.out))
  rw [hE] at cc
  have HE0 := hide hE
  have HE := hide (show runE F (m : Int) = 0 by unfold runE; rw [if_neg (by rw [hE]; decide), if_pos (by omega)])
  have HS := hide (show runS F inp (m : Int) = runM F inp m by unfold runS; rw [if_pos HE.out, Int.toNat_natCast])
  have HW1 := hide (show (w.alloc (.cells #[.slice A n c] 26)).alloc (.cells #[.slice none 0 0, .int .i64 0, .int .i64 0, .int .u64 0, .int .u64 0, .int .u64 0, .slice none 0 0, .int .i64 0, .int .u64 0, .int .u64 0, .int .u64 0, .int .u64 0, .int .u64 0, .int .u64 0, .int .u64 0, .int .u64 0, .int .u64 0, .int .u64 0, .int .u64 0, .int .u64 0, .int .u64 0, .int .u64 0, .int .u64 0, .int .u64 0, .bool false, .slice none 0 0, .slice none 0 0, .int .i64 0] 69) = W1 from hW1)
  clear hE hW1
  have hf0 : ¬ (m : Int) < 0 := by omega
  have hf1 : ¬ (100000 : Int) < (m : Int) := by omega
  go_enter Tryd.func22, Tryd.ntmps22
  go_upto_region 1 with (fail)
  rw [HW1.out]
  have RZ := hide (show Row W1 (w.heap.size + 1) 69 (mcells 0 zeroM (.slice none 0 0) (.slice none 0 0) (.slice none 0 0) (.slice none 0 0)) by
    rw [← HW1.out]
    have := Row.new (w.alloc (.cells #[.slice A n c] 26)) 69 (mcells 0 zeroM (.slice none 0 0) (.slice none 0 0) (.slice none 0 0) (.slice none 0 0))
    rw [show (w.alloc (.cells #[.slice A n c] 26)).heap.size = w.heap.size + 1 by simp] at this
    exact this)
  have RB := hide (show Row W1 w.heap.size 26 [.slice A n c] by rw [← HW1.out]; exact (Row.new w _ _).alloc _)
  have c0 := RB.out.cell (k := 0) rfl
  clear HW1
  go_wp2_with fail
  refine cc.mono ?_
  rintro e w2 ⟨rfl, hb2⟩
  have B2 := hide (hb0.out.trans (hb2.mono hb0.out.size))
  have R2 := hide (RZ.out.call hb2)
  have c0 := (RB.out.call hb2).cell (k := 0) rfl
  clear cc hb2
  have RN := hide (show Row (w2.alloc (.cells #[.slice none 0 0, .int .i64 0, .int .i64 0, .int .u64 0, .int .u64 0, .int .u64 0, .slice none 0 0, .int .i64 0, .int .u64 0, .int .u64 0, .int .u64 0, .int .u64 0, .int .u64 0, .int .u64 0, .int .u64 0, .int .u64 0, .int .u64 0, .int .u64 0, .int .u64 0, .int .u64 0, .int .u64 0, .int .u64 0, .int .u64 0, .int .u64 0, .bool false, .slice none 0 0, .slice none 0 0, .int .i64 0] 69)) w2.heap.size 69 (mcells 0 zeroM (.slice none 0 0) (.slice none 0 0) (.slice none 0 0) (.slice none 0 0)) from Row.new w2 69 (mcells 0 zeroM (.slice none 0 0) (.slice none 0 0) (.slice none 0 0) (.slice none 0 0)))
  have hst := store_row (vs := mcells m (preM inp) (.slice Ai ni ci) (.slice none 0 0) (.slice A n c) (.slice none 0 0)) (size_machine (w := w2.alloc (.cells #[.slice none 0 0, .int .i64 0, .int .i64 0, .int .u64 0, .int .u64 0, .int .u64 0, .slice none 0 0, .int .i64 0, .int .u64 0, .int .u64 0, .int .u64 0, .int .u64 0, .int .u64 0, .int .u64 0, .int .u64 0, .int .u64 0, .int .u64 0, .int .u64 0, .int .u64 0, .int .u64 0, .int .u64 0, .int .u64 0, .int .u64 0, .int .u64 0, .bool false, .slice none 0 0, .slice none 0 0, .int .i64 0] 69))) (mcells_len rfl) (mcells_len rfl) (mcells_one _ _ _ _ _ _ rfl rfl rfl rfl) RN.out
  have RM := hide (set_row_row (vs := mcells m (preM inp) (.slice Ai ni ci) (.slice none 0 0) (.slice A n c) (.slice none 0 0)) RN.out)
  have GM := hide (set_row_grown (w2.alloc (.cells #[.slice none 0 0, .int .i64 0, .int .i64 0, .int .u64 0, .int .u64 0, .int .u64 0, .slice none 0 0, .int .i64 0, .int .u64 0, .int .u64 0, .int .u64 0, .int .u64 0, .int .u64 0, .int .u64 0, .int .u64 0, .int .u64 0, .int .u64 0, .int .u64 0, .int .u64 0, .int .u64 0, .int .u64 0, .int .u64 0, .int .u64 0, .int .u64 0, .bool false, .slice none 0 0, .slice none 0 0, .int .i64 0] 69)) w2.heap.size (mcells m (preM inp) (.slice Ai ni ci) (.slice none 0 0) (.slice A n c) (.slice none 0 0)).toArray)
  obtain ⟨W3, hW3⟩ : ∃ W3, (w2.alloc (.cells #[.slice none 0 0, .int .i64 0, .int .i64 0, .int .u64 0, .int .u64 0, .int .u64 0, .slice none 0 0, .int .i64 0, .int .u64 0, .int .u64 0, .int .u64 0, .int .u64 0, .int .u64 0, .int .u64 0, .int .u64 0, .int .u64 0, .int .u64 0, .int .u64 0, .int .u64 0, .int .u64 0, .int .u64 0, .int .u64 0, .int .u64 0, .int .u64 0, .bool false, .slice none 0 0, .slice none 0 0, .int .i64 0] 69)).setRow w2.heap.size (mcells m (preM inp) (.slice Ai ni ci) (.slice none 0 0) (.slice A n c) (.slice none 0 0)).toArray = W3 := ⟨_, rfl⟩
  rw [hW3] at hst RM GM
  obtain ⟨g, hg⟩ : ∃ g, w2.heap.size = g := ⟨_, rfl⟩
  have hwg : w.heap.size ≤ g := by rw [← hg]; exact B2.out.size
  have hgN := hide (show g < (w2.alloc (.cells #[.slice none 0 0, .int .i64 0, .int .i64 0, .int .u64 0, .int .u64 0, .int .u64 0, .slice none 0 0, .int .i64 0, .int .u64 0, .int .u64 0, .int .u64 0, .int .u64 0, .int .u64 0, .int .u64 0, .int .u64 0, .int .u64 0, .int .u64 0, .int .u64 0, .int .u64 0, .int .u64 0, .int .u64 0, .int .u64 0, .int .u64 0, .int .u64 0, .bool false, .slice none 0 0, .slice none 0 0, .int .i64 0] 69)).heap.size by rw [← hg]; simp)
  have B3 := hide (show Below w.heap.size w W3 from (B2.out.alloc B2.out.size _).grown GM.out (by have := hgN.out; omega) (fun k hk => by injection hk with hk; omega))
  have RZ3 := hide (show Row W3 (w.heap.size + 1) 69 (mcells 0 zeroM (.slice none 0 0) (.slice none 0 0) (.slice none 0 0) (.slice none 0 0)) from (R2.out.alloc _).grown GM.out (fun e => by injection e with e; have := R2.out.lt; omega))
  have hZg : w.heap.size + 1 < g := by have := R2.out.lt; omega
  rw [hg] at RM
  have hg2 : w.heap.size + 2 ≤ g := by omega
  have H3 := hide (show MRaw W3 g (w.heap.size + 2) m (.slice Ai ni ci) (.slice none 0 0) (.slice A n c) (.slice none 0 0) [] (preM inp) from ⟨⟨RM.out, hg2, by decide, rfl, (hI.out.below B3.out).more (by omega), World.ownsRow_nil _ _ _ _⟩, World.ownsRow_nil _ _ _ _, rfl, List.Pairwise.nil, fun b hb => (by cases hb), fun z hz => (by cases hz)⟩)
  have HG := hide hg
  clear hg hW3
  rw [pre_cells] at hst
  have hst := hide hst
  go_upto_region 6 with fail
  have hst := hst.out
  go_upto_region 7 with (first | (refine wpList_store_whole 69 (.tmp 9) (.tmp 28) rfl rfl _ _ rfl rfl hst ?_) | fail)
  clear hst
  have ce := enter_any 0 W3 (by decide) (hide (show (preM inp).st.length ≤ 1000000 from Nat.zero_le _)) (hide (show (preM inp).depth ≤ 1000000 from Nat.zero_le _)) H3
  rw [pre_enter, show ((0 : Nat) : Int) = 0 from rfl] at ce
  clear RN RM GM hgN H3
  go_wp2_with fail
  rw [HG.out]
  refine ce.mono ?_
  rintro e w4 ⟨rfl, ⟨vs4, zs4, H4⟩, hb4⟩
  have HR := hide (show RunRel w F inp m g (.slice A n c) w4 from ⟨_, _, _, _, _, H4, LoopR.start HE0.out hIv.out m, B3.out.trans (hb4.mono (by omega)), RZ3.out.below hb4 (by omega)⟩)
  clear ce H4 hb4 B3 RZ3
  go_wp2_with fail
  go_loopw [] (fun wr => Hid (RunRel w F inp m g (.slice A n c) wr)) (fun wr => measC m (wr.cell? ⟨g, 7, none⟩) (wr.cell? ⟨g, 24, none⟩))
  case atStart => exact HR
  case round =>
    obtain ⟨S, vi, vt, vs, zs, H, hL, hB, hZ⟩ := hrel.out
    clear hrel
    have H := hide H
    have hL := hide hL
    have hB := hide hB
    have hZ := hide hZ
    have c7 : wr.cell? ⟨g, 7, none⟩ = some (.int .i64 (S.steps : Int)) := H.out.core.far 7 rfl
    have c24 : wr.cell? ⟨g, 24, none⟩ = some (.bool S.ended) := H.out.core.ended
    have hmost := hL.out.most
    have hm2 : m ≤ 1000000 := by omega
    have cg := coGoes_any wr (hide H.out.core) hm2 (show S.co.steps ≤ 1000000 from by show S.steps ≤ 1000000; omega)
    obtain ⟨hL2, hgo⟩ := asked_loop hL.out
    have hgs : S.steps ≤ (S.co.asked m).steps := by unfold Co.asked; split <;> exact Nat.le_refl _
    cases hen : (S.co.asked m).ended with
    | true =>
      rw [hen] at cg
      clear c7 c24 hgo
      go_wp2_with fail
      refine cg.mono ?_
      rintro e w2 ⟨rfl, h2, k2⟩
      have kw := k2.weak (base := w.heap.size + 2) H.out.core.tr
      have H2 := hide (H.out.cored h2 kw hgs)
      have hB2 := hide (hB.out.trans (kw.below hB.out.size (by have := H.out.gb; omega) (by omega)))
      have hZ2 := hide (kw.row hZ.out (by have := H.out.gb; omega) (.inl (by omega)))
      clear h2 k2 cg kw H hB hZ hgs
      obtain ⟨S2, hS2⟩ : ∃ S2, S.withCo (S.co.asked m) = S2 := ⟨_, rfl⟩
      have hen2 : S2.ended = true := by rw [← hS2]; exact hen
      rw [hS2] at H2 hL2
      clear hS2 hen
      have hS : runS F inp (m : Int) = S2 := by
        rw [HS.out]
        rcases hL2 with ⟨j, hj, e, h, hs, v⟩ | ⟨h, e⟩
        · rw [hen2] at h; cases h
        · exact e.symm
      have hld := load_row (agg_machine (w := w2)) (size_machine (w := w2)) (mcells_len H2.out.r8) H2.out.row
      have hst := store_row (vs := mcells m S2 vi vt (.slice A n c) vs) (size_machine (w := w2)) (mcells_len H2.out.r8) (mcells_len rfl) (mcells_one _ _ _ _ _ _ (in_oneCell H2.out.core.inp) (own_oneCell H2.out.core.tr) rfl (own_oneCell H2.out.st)) hZ2.out
      have R5 := hide (set_row_row (vs := mcells m S2 vi vt (.slice A n c) vs) hZ2.out)
      have G5 := hide (set_row_grown w2 (w.heap.size + 1) (mcells m S2 vi vt (.slice A n c) vs).toArray)
      generalize w2.setRow (w.heap.size + 1) (mcells m S2 vi vt (.slice A n c) vs).toArray = W5 at hst R5 G5
      have hld2 := load_row (agg_machine (w := W5)) (size_machine (w := W5)) (mcells_len H2.out.r8) R5.out
      have HP := hide (run_done HE.out hS H2.out rfl (hB2.out.grown G5.out hB2.out.size (fun k hk => by injection hk with hk; omega)) G5.out)
      have H8 := hide H2.out.r8
      clear H2 hZ2 hL hB2 hS R5 G5 hL2
      generalize hX : (mcells m S2 vi vt (.slice A n c) vs).toArray = X at hld hst hld2 HP
      clear hX
      go_wp2_with (first | (refine wpList_load_whole 69 (.tmp 9) rfl rfl _ _ rfl hld ?_) | (refine wpList_store_whole 69 (.tmp 6) (.tmp 33) rfl rfl _ _ rfl rfl hst ?_) | fail)
      exact bodyPost_ret (v := .tuple #[.agg X, .int .i64 0]) (results_cell_tmp (fn := Tryd.f22) (t := 6) (u := 7) (T := 69) rfl _ W5 _ _ _ rfl hld2) rfl HP.out
    | false =>
      obtain ⟨ha, he, hlt⟩ := hgo hen
      rw [hen] at cg
      rw [ha] at cg
      rw [he] at c24
      have hv : Hid (Vld F S) := by
        refine hide ?_
        rcases hL.out with ⟨j, hj, e, h, hs, v⟩ | ⟨h, e⟩
        · exact v
        · rw [he] at h; cases h
      have HL2 := hide (hL.out.step HE0.out him.out he hlt)
      have hs100 : S.steps ≤ 100000 := by omega
      clear hgo hL2 hen ha hgs
      go_wp2_with fail
      refine cg.mono ?_
      rintro e w2 ⟨rfl, h2, k2⟩
      have kw := k2.weak (base := w.heap.size + 2) H.out.core.tr
      have H2 : Hid (MRaw w2 g (w.heap.size + 2) m vi vt (.slice A n c) vs zs S) := hide (H.out.cored h2 kw (Nat.le_refl _))
      have hB2 := hide (hB.out.trans (kw.below hB.out.size (by have := H.out.gb; omega) (by omega)))
      have hZ2 := hide (kw.row hZ.out (by have := H.out.gb; omega) (.inl (by omega)))
      clear h2 k2 cg kw H hB hZ
      have cs := step_any (nF := n) (cF := c) w2 HE0.out him hv hs100 rfl (hide ((hPg.out.below hB2.out).more (by omega) (Nat.le_refl _))) H2
      go_wp2_with fail
      refine cs.mono ?_
      rintro e w6 ⟨rfl, ⟨vi6, vt6, vs6, zs6, H6⟩, hb6⟩
      have HR := hide (show RunRel w F inp m g (.slice A n c) w6 from ⟨_, _, _, _, _, H6, HL2.out.1, hB2.out.trans (hb6.mono (by omega)), hZ2.out.below hb6 (by omega)⟩)
      have d7 : Hid (w6.cell? ⟨g, 7, none⟩ = some (.int .i64 ((S.stepM F).steps : Int))) := hide (H6.core.far 7 rfl)
      have d24 : Hid (w6.cell? ⟨g, 24, none⟩ = some (.bool (S.stepM F).ended)) := hide H6.core.ended
      have h2 := HL2.out.2
      clear cs H6 hb6 H2 hZ2 hL hB2 HL2 hv
      go_wp2_with fail
      go_roundw
      case rel => exact HR
      case measure =>
        rw [d7.out, d24.out]
        try rw [c7, c24]
        exact meas_less hmost (Or.inl h2)
end Go.Proofs.YtipjeihfhnilcaaDoor
end
