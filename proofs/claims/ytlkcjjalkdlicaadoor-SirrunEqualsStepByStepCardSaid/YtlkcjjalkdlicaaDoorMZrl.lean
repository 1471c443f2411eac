import Derived.Test.YtlkcjjalkdlicaaDoorMZrg
set_option linter.unusedVariables false
set_option linter.unusedSimpArgs false
section
/-
  The contract of run (chapter 8), its loop. Conditions: those of the types; the table of shapes lies as it is laid.
-/
namespace Go.Proofs.YtlkcjjalkdlicaaDoor
open Go.RowKit

/-- How far the loop of a run still may go. -/
def measC (m : Nat) : Option Value → Option Value → Nat
  | some (.int _ n), some (.bool b) => if b then 0 else m + 2 - n.toNat
  | _, _ => 0
theorem lo_zero : lo 0 = 0 := rfl
theorem hi_zero : hi 0 = 0 := rfl
theorem pre_cells (inp : List Nat) (Ai A : Option Addr) (ni ci n c : Nat) : mcells (preM inp) (.slice Ai ni ci) (.slice none 0 0) (.slice A n c) (.slice none 0 0) = [.int .u64 0, .int .u64 0, .int .u64 0, .int .u64 0, .int .u64 0, .int .u64 0, .int .u64 0, .int .u64 0, .int .u64 0, .int .u64 0, .int .u64 0, .int .u64 0, .int .u64 0, .int .u64 0, .int .u64 0, .int .u64 0, .slice Ai ni ci, .int .i64 0, .int .u64 0, .int .u64 0, .int .u64 0, .slice none 0 0, .int .i64 0, .bool false, .slice A n c, .slice none 0 0, .int .i64 0] := by
  simp [mcells, mrest, vcells, vcell, preM, lo_zero, hi_zero, List.replicate]
theorem InAt.more {w : World} {B B' : Nat} {v : Value} {l : List Nat} (h : InAt w B v l) (hB : B ≤ B') : InAt w B' v l := by
  obtain ⟨A, n, c, h1, h2, h3, h4, h5, h6⟩ := h
  exact ⟨A, n, c, h1, h2, h3, h4, h5, h6.more hB⟩
theorem own_zbase {w : World} {base base' : Nat} {e : TypeId} {size n : Nat} {v : Value} {xs : List Value} (h : w.ownsRow base e size v n xs) (hb : base' ≤ base) : w.ownsRow base' e size v n xs := by
  refine ⟨h.1, ?_⟩
  rcases h.2 with h2 | ⟨g, cap, cur, hv, hg, hh, hr⟩
  · exact .inl h2
  · exact .inr ⟨g, cap, cur, hv, by omega, hh, hr⟩
theorem own_oneCell {w : World} {base : Nat} {e : TypeId} {size n : Nat} {v : Value} {xs : List Value} (h : w.ownsRow base e size v n xs) : v.oneCell' = true := by
  rcases h.2 with ⟨rfl, _⟩ | ⟨k, cap, cur, rfl, _⟩ <;> rfl
theorem in_oneCell {w : World} {B : Nat} {v : Value} {l : List Nat} (h : InAt w B v l) : v.oneCell' = true := by
  obtain ⟨A, n, c, rfl, _⟩ := h; rfl
theorem meas_less {m a b : Nat} {x : Bool} (ha : a ≤ m) (hb : b = a + 1 ∨ x = true) : measC m (some (.int .i64 (b : Int))) (some (.bool x)) < measC m (some (.int .i64 (a : Int))) (some (.bool false)) := by
  cases x
  · simp [measC]; have : b = a + 1 := by simpa using hb
    omega
  · simp [measC]; omega
theorem run_done {F : Pg} {inp : List Nat} {m : Nat} {S : Mch} {w wr W5 : World} {g : Nat} {vi vt vf vs : Value} {zs : List Zn} (hE : runE F (m : Int) = 0) (hS : runS F inp (m : Int) = S) (H : MRaw wr g (w.heap.size + 2) vi vt vf vs zs S) (hvf : vf.oneCell' = true) (hB : Below w.heap.size w W5) (hk : wr.grownBy W5 (some (w.heap.size + 1))) :
    RunPost F inp (m : Int) w (.returned (.tuple #[.agg (mcells S vi vt vf vs).toArray, .int .i64 0])) W5 := by
  refine ⟨vi, vt, vf, vs, by rw [hS, hE], by rw [hS]; exact H.r8, mcells_one _ _ _ _ _ (in_oneCell H.inp) (own_oneCell H.tr) hvf (own_oneCell H.st), ?_, hB⟩
  rw [hS]
  exact own_zbase (H.tr.kept hk (by
    rcases ho : vt.ownBlock with _ | k
    · exact .inl rfl
    · refine .inr fun e => ?_
      injection e with e
      have := (H.tr.lt k ho).1
      omega)) (by omega)
/-- The relation of the loop of a run. -/
def RunRel (w : World) (F : Pg) (inp : List Nat) (m g : Nat) (vf : Value) (wr : World) : Prop :=
  ∃ S vi vt vs zs, MRaw wr g (w.heap.size + 2) vi vt vf vs zs S ∧ LoopR F inp m S ∧ Below w.heap.size w wr ∧ Row wr (w.heap.size + 1) 79 (mcells zeroM (.slice none 0 0) (.slice none 0 0) (.slice none 0 0) (.slice none 0 0))
set_option maxRecDepth 100000 in
set_option maxHeartbeats 8000000 in
theorem run_good (F : Pg) (inp : List Nat) (m : Nat) {lo n c : Nat} {A : Option Addr} {hs : List Hd} (Ai : Option Addr) (ni ci : Nat) (w : World) (hE : pgE F = 0) (him : Hid (ImmF F)) (hm : m ≤ 100000) (hI : Hid (InAt w w.heap.size (.slice Ai ni ci) inp)) (hIv : Hid (∀ v ∈ inp, v < 18446744073709551616)) (hPg : Hid (PgAt w lo w.heap.size A n c hs F)) (hSh : Hid (Shapes w)) :
    Calls Tryd.prog 28 #[gv A n c, .slice Ai ni ci, .int .i64 (m : Int)] w (RunPost F inp (m : Int) w) := by
  have hb0 := hide (below2 w (.cells #[.slice A n c] 26) (.cells (mcells zeroM (.slice none 0 0) (.slice none 0 0) (.slice none 0 0) (.slice none 0 0)).toArray 79))
  obtain ⟨W1, hW1⟩ : ∃ W1, (w.alloc (.cells #[.slice A n c] 26)).alloc (.cells (mcells zeroM (.slice none 0 0) (.slice none 0 0) (.slice none 0 0) (.slice none 0 0)).toArray 79) = W1 := ⟨_, rfl⟩
  rw [hW1] at hb0
  have cc := check_any A n c hs F lo w.heap.size W1 (hide (hPg.out.below hb0.out)) hb0.out.size (hide (hSh.out.below hb0.out))
  rw [hE] at cc
  have HE0 := hide hE
  have HE := hide (show runE F (m : Int) = 0 by unfold runE; rw [if_neg (by rw [hE]; decide), if_pos (by omega)])
  have HS := hide (show runS F inp (m : Int) = runM F inp m by unfold runS; rw [if_pos HE.out, Int.toNat_natCast])
  have HW1 := hide (show (w.alloc (.cells #[.slice A n c] 26)).alloc (.cells #[.int .u64 0, .int .u64 0, .int .u64 0, .int .u64 0, .int .u64 0, .int .u64 0, .int .u64 0, .int .u64 0, .int .u64 0, .int .u64 0, .int .u64 0, .int .u64 0, .int .u64 0, .int .u64 0, .int .u64 0, .int .u64 0, .slice none 0 0, .int .i64 0, .int .u64 0, .int .u64 0, .int .u64 0, .slice none 0 0, .int .i64 0, .bool false, .slice none 0 0, .slice none 0 0, .int .i64 0] 79) = W1 from hW1)
  clear hE hW1
  have hf0 : ¬ (m : Int) < 0 := by omega
  have hf1 : ¬ (100000 : Int) < (m : Int) := by omega
  go_enter Tryd.func28, Tryd.ntmps28
  go_upto_region 1 with (fail)
  rw [HW1.out]
  have RZ := hide (show Row W1 (w.heap.size + 1) 79 (mcells zeroM (.slice none 0 0) (.slice none 0 0) (.slice none 0 0) (.slice none 0 0)) by
    rw [← HW1.out]
    have := Row.new (w.alloc (.cells #[.slice A n c] 26)) 79 (mcells zeroM (.slice none 0 0) (.slice none 0 0) (.slice none 0 0) (.slice none 0 0))
    rw [show (w.alloc (.cells #[.slice A n c] 26)).heap.size = w.heap.size + 1 by simp] at this
    exact this)
  have RB := hide (show Row W1 w.heap.size 26 [.slice A n c] by rw [← HW1.out]; exact (Row.new w _ _).alloc _)
  have c0 := RB.out.cell (k := 0) rfl
  clear HW1
  go_wp2_with fail
  refine cc.mono ?_
  rintro e w2 ⟨rfl, hb2⟩
  have B2 := hide (hb0.out.trans (hb2.mono hb0.out.size))
  have R2 := hide (RZ.out.call hb2)
  have c0 := (RB.out.call hb2).cell (k := 0) rfl
  clear cc hb2
  have RN := hide (show Row (w2.alloc (.cells #[.int .u64 0, .int .u64 0, .int .u64 0, .int .u64 0, .int .u64 0, .int .u64 0, .int .u64 0, .int .u64 0, .int .u64 0, .int .u64 0, .int .u64 0, .int .u64 0, .int .u64 0, .int .u64 0, .int .u64 0, .int .u64 0, .slice none 0 0, .int .i64 0, .int .u64 0, .int .u64 0, .int .u64 0, .slice none 0 0, .int .i64 0, .bool false, .slice none 0 0, .slice none 0 0, .int .i64 0] 79)) w2.heap.size 79 (mcells zeroM (.slice none 0 0) (.slice none 0 0) (.slice none 0 0) (.slice none 0 0)) from Row.new w2 79 (mcells zeroM (.slice none 0 0) (.slice none 0 0) (.slice none 0 0) (.slice none 0 0)))
  have hst := store_row (vs := mcells (preM inp) (.slice Ai ni ci) (.slice none 0 0) (.slice A n c) (.slice none 0 0)) (size_machine (w := w2.alloc (.cells #[.int .u64 0, .int .u64 0, .int .u64 0, .int .u64 0, .int .u64 0, .int .u64 0, .int .u64 0, .int .u64 0, .int .u64 0, .int .u64 0, .int .u64 0, .int .u64 0, .int .u64 0, .int .u64 0, .int .u64 0, .int .u64 0, .slice none 0 0, .int .i64 0, .int .u64 0, .int .u64 0, .int .u64 0, .slice none 0 0, .int .i64 0, .bool false, .slice none 0 0, .slice none 0 0, .int .i64 0] 79))) (mcells_len rfl) (mcells_len rfl) (mcells_one _ _ _ _ _ rfl rfl rfl rfl) RN.out
  have RM := hide (set_row_row (vs := mcells (preM inp) (.slice Ai ni ci) (.slice none 0 0) (.slice A n c) (.slice none 0 0)) RN.out)
  have GM := hide (set_row_grown (w2.alloc (.cells #[.int .u64 0, .int .u64 0, .int .u64 0, .int .u64 0, .int .u64 0, .int .u64 0, .int .u64 0, .int .u64 0, .int .u64 0, .int .u64 0, .int .u64 0, .int .u64 0, .int .u64 0, .int .u64 0, .int .u64 0, .int .u64 0, .slice none 0 0, .int .i64 0, .int .u64 0, .int .u64 0, .int .u64 0, .slice none 0 0, .int .i64 0, .bool false, .slice none 0 0, .slice none 0 0, .int .i64 0] 79)) w2.heap.size (mcells (preM inp) (.slice Ai ni ci) (.slice none 0 0) (.slice A n c) (.slice none 0 0)).toArray)
  obtain ⟨W3, hW3⟩ : ∃ W3, (w2.alloc (.cells #[.int .u64 0, .int .u64 0, .int .u64 0, .int .u64 0, .int .u64 0, .int .u64 0, .int .u64 0, .int .u64 0, .int .u64 0, .int .u64 0, .int .u64 0, .int .u64 0, .int .u64 0, .int .u64 0, .int .u64 0, .int .u64 0, .slice none 0 0, .int .i64 0, .int .u64 0, .int .u64 0, .int .u64 0, .slice none 0 0, .int .i64 0, .bool false, .slice none 0 0, .slice none 0 0, .int .i64 0] 79)).setRow w2.heap.size (mcells (preM inp) (.slice Ai ni ci) (.slice none 0 0) (.slice A n c) (.slice none 0 0)).toArray = W3 := ⟨_, rfl⟩
  rw [hW3] at hst RM GM
  obtain ⟨g, hg⟩ : ∃ g, w2.heap.size = g := ⟨_, rfl⟩
  have hwg : w.heap.size ≤ g := by rw [← hg]; exact B2.out.size
  have hgN := hide (show g < (w2.alloc (.cells #[.int .u64 0, .int .u64 0, .int .u64 0, .int .u64 0, .int .u64 0, .int .u64 0, .int .u64 0, .int .u64 0, .int .u64 0, .int .u64 0, .int .u64 0, .int .u64 0, .int .u64 0, .int .u64 0, .int .u64 0, .int .u64 0, .slice none 0 0, .int .i64 0, .int .u64 0, .int .u64 0, .int .u64 0, .slice none 0 0, .int .i64 0, .bool false, .slice none 0 0, .slice none 0 0, .int .i64 0] 79)).heap.size by rw [← hg]; simp)
  have B3 := hide (show Below w.heap.size w W3 from (B2.out.alloc B2.out.size _).grown GM.out (by have := hgN.out; omega) (fun k hk => by injection hk with hk; omega))
  have RZ3 := hide (show Row W3 (w.heap.size + 1) 79 (mcells zeroM (.slice none 0 0) (.slice none 0 0) (.slice none 0 0) (.slice none 0 0)) from (R2.out.alloc _).grown GM.out (fun e => by injection e with e; have := R2.out.lt; omega))
  have hZg : w.heap.size + 1 < g := by have := R2.out.lt; omega
  rw [hg] at RM
  have hg2 : w.heap.size + 2 ≤ g := by omega
  have H3 := hide (show MRaw W3 g (w.heap.size + 2) (.slice Ai ni ci) (.slice none 0 0) (.slice A n c) (.slice none 0 0) [] (preM inp) from ⟨RM.out, hg2, rfl, (hI.out.below B3.out).more (by omega), World.ownsRow_nil _ _ _ _, World.ownsRow_nil _ _ _ _, rfl, List.Pairwise.nil, fun b hb => (by cases hb), fun z hz => (by cases hz)⟩)
  have HG := hide hg
  clear hg hW3
  rw [pre_cells] at hst
  have hst := hide hst
  go_upto_region 6 with fail
  have hst := hst.out
  go_upto_region 7 with (first | (refine wpList_store_whole 79 (.tmp 9) (.tmp 27) rfl rfl _ _ rfl rfl hst ?_) | fail)
  clear hst
  have ce := enter_any 0 W3 (by decide) (hide (show (preM inp).st.length ≤ 1000000 from Nat.zero_le _)) (hide (show (preM inp).depth ≤ 1000000 from Nat.zero_le _)) H3
  rw [pre_enter, show ((0 : Nat) : Int) = 0 from rfl] at ce
  clear RN RM GM hgN H3
  go_wp2_with fail
  rw [HG.out]
  refine ce.mono ?_
  rintro e w4 ⟨rfl, ⟨vs4, zs4, H4⟩, hb4⟩
  have HR := hide (show RunRel w F inp m g (.slice A n c) w4 from ⟨_, _, _, _, _, H4, LoopR.start HE0.out hIv.out m, B3.out.trans (hb4.mono (by omega)), RZ3.out.below hb4 (by omega)⟩)
  clear ce H4 hb4 B3 RZ3
  go_wp2_with fail
  go_loopw [] (fun wr => Hid (RunRel w F inp m g (.slice A n c) wr)) (fun wr => measC m (wr.cell? ⟨g, 22, none⟩) (wr.cell? ⟨g, 23, none⟩))
  case atStart => exact HR
  case round =>
    obtain ⟨S, vi, vt, vs, zs, H, hL, hB, hZ⟩ := hrel.out
    clear hrel
    have H := hide H
    have hL := hide hL
    have hB := hide hB
    have hZ := hide hZ
    have c22 := H.out.far 6 rfl
    have c23 := H.out.far 7 rfl
    by_cases hen : S.ended = true
    · rw [hen] at c23
      have hS : runS F inp (m : Int) = S := by
        rw [HS.out]
        rcases hL.out with ⟨j, hj, e, h, hs, v⟩ | ⟨h, e⟩
        · rw [hen] at h; cases h
        · exact e.symm
      have hld := load_row (agg_machine (w := wr)) (size_machine (w := wr)) (mcells_len H.out.r8) H.out.row
      have hst := store_row (vs := mcells S vi vt (.slice A n c) vs) (size_machine (w := wr)) (mcells_len H.out.r8) (mcells_len rfl) (mcells_one _ _ _ _ _ (in_oneCell H.out.inp) (own_oneCell H.out.tr) rfl (own_oneCell H.out.st)) hZ.out
      have R5 := hide (set_row_row (vs := mcells S vi vt (.slice A n c) vs) hZ.out)
      have G5 := hide (set_row_grown wr (w.heap.size + 1) (mcells S vi vt (.slice A n c) vs).toArray)
      generalize wr.setRow (w.heap.size + 1) (mcells S vi vt (.slice A n c) vs).toArray = W5 at hst R5 G5
      have hld2 := load_row (agg_machine (w := W5)) (size_machine (w := W5)) (mcells_len H.out.r8) R5.out
      have HP := hide (run_done HE.out hS H.out rfl (hB.out.grown G5.out hB.out.size (fun k hk => by injection hk with hk; omega)) G5.out)
      have H8 := hide H.out.r8
      clear H hZ hL hB hS R5 G5
      generalize hX : (mcells S vi vt (.slice A n c) vs).toArray = X at hld hst hld2 HP
      clear hX
      go_wp2_with (first | (refine wpList_load_whole 79 (.tmp 9) rfl rfl _ _ rfl hld ?_) | (refine wpList_store_whole 79 (.tmp 6) (.tmp 42) rfl rfl _ _ rfl rfl hst ?_) | fail)
      exact bodyPost_ret (v := .tuple #[.agg X, .int .i64 0]) (results_cell_tmp (fn := Tryd.f28) (t := 6) (u := 7) (T := 79) rfl _ W5 _ _ _ rfl hld2) rfl HP.out
    · have hen : S.ended = false := by simpa using hen
      rw [hen] at c23
      have hjm : S.steps ≤ m := by
        rcases hL.out with ⟨j, hj, e, h, hs, v⟩ | ⟨h, e⟩
        · omega
        · rw [hen] at h; cases h
      by_cases hge : (m : Int) ≤ (S.steps : Int)
      · have cn := cend_any 4 wr H
        have HL2 := hide (hL.out.fuel hen (by omega))
        go_wp2_with fail
        refine cn.mono ?_
        rintro e w6 ⟨rfl, H6, hg6⟩
        have HR := hide (show RunRel w F inp m g (.slice A n c) w6 from ⟨_, _, _, _, _, H6, HL2.out, hB.out.grown hg6 hB.out.size (fun k hk => by injection hk with hk; omega), hZ.out.grown hg6 (fun e => by injection e with e; omega)⟩)
        have d22 := hide (H6.far 6 rfl)
        have d23 := hide (H6.far 7 rfl)
        clear cn H6 hg6 H hZ hL hB HL2
        go_wp2_with fail
        go_roundw
        case rel => exact HR
        case measure =>
          rw [d22.out, d23.out]
          try rw [c22, c23]
          exact meas_less hjm (Or.inr rfl)
      · have hv : Hid (Vld F S) := by
          refine hide ?_
          rcases hL.out with ⟨j, hj, e, h, hs, v⟩ | ⟨h, e⟩
          · exact v
          · rw [hen] at h; cases h
        have cs := step_any (nF := n) (cF := c) wr HE0.out him hv (by omega) rfl (hide ((hPg.out.below hB.out).more (by omega) (Nat.le_refl _))) H
        have HL2 := hide (hL.out.step HE0.out him.out hen (by omega))
        go_wp2_with fail
        refine cs.mono ?_
        rintro e w6 ⟨rfl, ⟨vi6, vt6, vs6, zs6, H6⟩, hb6⟩
        have HR := hide (show RunRel w F inp m g (.slice A n c) w6 from ⟨_, _, _, _, _, H6, HL2.out.1, hB.out.trans (hb6.mono (by omega)), hZ.out.below hb6 (by omega)⟩)
        have d22 := hide (H6.far 6 rfl)
        have d23 := hide (H6.far 7 rfl)
        have h2 := HL2.out.2
        clear cs H6 hb6 H hZ hL hB HL2 hv
        go_wp2_with fail
        go_roundw
        case rel => exact HR
        case measure =>
          rw [d22.out, d23.out]
          try rw [c22, c23]
          exact meas_less hjm (Or.inl h2)
end Go.Proofs.YtlkcjjalkdlicaaDoor
end
