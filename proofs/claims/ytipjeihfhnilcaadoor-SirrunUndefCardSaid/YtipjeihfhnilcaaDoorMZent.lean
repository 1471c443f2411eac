import Derived.Test.YtipjeihfhnilcaaDoorMNce
import Derived.Test.YtipjeihfhnilcaaDoorMVszo
set_option linter.unusedVariables false
set_option linter.unusedSimpArgs false
section
/-
  The contracts of the machine's enter and leave (chapter 8). Conditions: those of the types.
-/
namespace Go.Proofs.YtipjeihfhnilcaaDoor
open Go.RowKit

theorem Tryd.info88z : (Tryd.prog.info? 88).map (fun i => (i.zero, i.size, i.bytes)) = some (some (.agg #[.int .i64 0, .int .i64 0, .map none, .map none]), 4, 32) := by kernel_rfl
section
variable {g base fu : Nat} {vi vt vf vs : Value} {zs : List Zn} {s : Mch}
theorem acell_oneCell (z : Zn) : ∀ u ∈ acell z, u.oneCell' = true := by
  intro u hu
  simp [acell] at hu
  rcases hu with rfl | rfl | rfl | rfl <;> rfl
theorem lit_cells (w : World) (o p : Obj) (t : TypeId) (cs : List Value) (j : Nat) (u : Value) (hu : cs[j]? = some u) : (((w.alloc o).alloc p).alloc (.cells cs.toArray t)).cell? ((⟨w.heap.size + 1 + 1, 0, none⟩ : Addr).add j) = some u := by
  rw [show (⟨w.heap.size + 1 + 1, 0, none⟩ : Addr).add j = ⟨w.heap.size + 1 + 1, j, none⟩ by unfold Addr.add; split <;> simp_all]
  have := Row.new ((w.alloc o).alloc p) t cs
  rw [show ((w.alloc o).alloc p).heap.size = w.heap.size + 1 + 1 by simp] at this
  exact this.cell hu
theorem max_cast (a b : Nat) : ((max a b : Nat) : Int) = max (a : Int) (b : Int) := by omega
set_option maxRecDepth 100000 in
set_option maxHeartbeats 4000000 in
theorem enter_any (f : Nat) (w : World) (hf : f ≤ 1000000) (hl : Hid (s.st.length ≤ 1000000)) (hd : Hid (s.depth ≤ 1000000)) (h : Hid (MRaw w g base fu vi vt vf vs zs s)) :
    Calls Tryd.prog 30 #[.pointer (some ⟨g, 0, none⟩), .int .i64 (f : Int)] w fun e w' => e = .returned (.tuple #[]) ∧ (∃ vs' zs', MRaw w' g base fu vi vt vf vs' zs' (s.enter f)) ∧ Below base w w' := by
  obtain ⟨i0, ih, hz0, hz1, hz2⟩ := info_parts Tryd.info88z
  have hmm := @run_makeMap Tryd.prog
  have c0 : ∀ o p q : Obj, (((w.alloc o).alloc p).alloc q).cell? ⟨g, 26, none⟩ = some vs := fun o p q => (((h.out.alloc o).alloc p).alloc q).far 1 rfl
  have c1 := h.out.far 1 rfl
  have HM3 := hide (show s.st.length + 1 ≤ maxLen by have := hl.out; unfold maxLen; omega)
  have HM4 := hide (show (s.st.length + 1) * 32 ≤ 140737488355328 by have := hl.out; omega)
  have HBL := hide h.out.bl
  go_enter Tryd.func30, Tryd.ntmps30
  have h3 := fun (L : List Value) => ((h.out.alloc (.map #[] 0)).alloc (.map #[] 0)).alloc (.cells L.toArray 88)
  have cm1 : ∀ L : List Value, CellsAt (((w.alloc (.map #[] 0)).alloc (.map #[] 0)).alloc (.cells L.toArray 88)) w.heap.size 0 noC := fun L => ((CellsAt.new w).below (below2 _ _ _) (by simp)).mono (Nat.le_refl _)
  have cm2 : ∀ L : List Value, CellsAt (((w.alloc (.map #[] 0)).alloc (.map #[] 0)).alloc (.cells L.toArray 88)) (w.heap.size + 1) 0 noC := fun L => by
    have := (CellsAt.new (w.alloc (.map #[] 0))).below (below1 _ (.cells L.toArray 88)) (by simp)
    rwa [show (w.alloc (.map #[] 0)).heap.size = w.heap.size + 1 by simp] at this
  have H3 := hide h3
  have CM1 := hide cm1
  have CM2 := hide cm2
  have hb3 := hide (fun L : List Value => below3 w (.map #[] 0) (.map #[] 0) (.cells L.toArray 88))
  clear h3 cm1 cm2
  go_upto_region 1 with (at_builtin; refine wpList_append_own _ rfl (.tmp 8) (.tmp 13) 67 rfl base 88 i0 (.agg #[.int .i64 0, .int .i64 0, .map none, .map none]) 4 32 Tryd.underlying67 ih hz0 hz1 hz2 rfl (by decide) vs s.st.length (acells zs) rfl (((h.out.alloc _).alloc _).alloc _).st ⟨w.heap.size + 1 + 1, 0, none⟩ 1 1 (acell (⟨f, 0, noC, noC⟩, w.heap.size, w.heap.size + 1)) rfl rfl (lit_cells w _ _ _ _) (acell_oneCell _) HM3.out HM4.out (Nat.le_trans HBL.out (by simp; omega)) ?_; intro v2 w7 ho2 hg2 _; obtain ⟨A7, c7, rfl⟩ := own_shape ho2; have FIN := hide (h.out.entered (f := f) (Nat.le_refl _) (Nat.lt_succ_self _) (H3.out (acell (⟨f, 0, noC, noC⟩, w.heap.size, w.heap.size + 1))) (CM1.out _) (CM2.out _) hg2 ho2); have r1 := hide ((H3.out (acell (⟨f, 0, noC, noC⟩, w.heap.size, w.heap.size + 1))).st_row hg2).1; have p0 := r1.out.cell (k := 26) (v := vs) (by rw [show 26 = 24 + 2 from rfl, ccells_end h.out.core.r8]; rfl); have p1 := r1.out.free 26; clear hg2 ho2 c0 c1 hmm)
  obtain ⟨W8, hW8⟩ : ∃ W8, w7.setCell ⟨g, 26, none⟩ (.slice A7 (s.st.length + 1) c7) = W8 := ⟨_, rfl⟩
  rw [hW8] at FIN ⊢
  obtain ⟨f8, b8⟩ := FIN.out
  have H8 := hide f8
  have B8 := hide (((hb3.out (acell (⟨f, 0, noC, noC⟩, w.heap.size, w.heap.size + 1))).mono HBL.out).trans b8)
  have d0 := H8.out.far 2 rfl
  have d1 := H8.out.far 1 rfl
  have d2 := H8.out.row.free 27
  have hl0 := hl.out
  have hd0 := hd.out
  clear FIN f8 b8 hW8 p0 p1 H3 CM1 CM2 hb3
  have FIN := hide (H8.out.setRest 2 (.int .i64 ((max s.depth (s.st.length + 1) : Nat) : Int)) (s' := s.enter f) rfl rfl rfl)
  have hgb := hide h.out.gb
  have FX := hide (show ∀ X : Int, X = ((max s.depth (s.st.length + 1) : Nat) : Int) → MRaw (W8.setCell ⟨g, 27, none⟩ (.int .i64 X)) g base fu vi vt vf (.slice A7 (s.st.length + 1) c7) (zs ++ [(⟨f, 0, noC, noC⟩, w.heap.size, w.heap.size + 1)]) (s.enter f) from fun X e => by rw [e]; exact FIN.out)
  clear FIN
  go_wp2_with (first | go_region)
  all_goals
    go_end0
    exact ⟨rfl, ⟨_, _, (FX.out _ (by omega)).drewN 1⟩, below_draws (B8.out.trans ((Below.refl _ _).setCell (p := ⟨g, 27, none⟩) hgb.out _)) 1⟩
end
end Go.Proofs.YtipjeihfhnilcaaDoor
end

section
/-
  The contract of the machine's leave (chapter 8). Conditions: those of the types.
-/
namespace Go.Proofs.YtipjeihfhnilcaaDoor
open Go.RowKit

section
variable {g base fu : Nat} {vi vt vf vs : Value} {zs : List Zn} {s : Mch}
set_option maxHeartbeats 4000000 in
theorem leave_any (w : World) (hn : Hid (1 ≤ s.st.length)) (hl : Hid (s.st.length ≤ 1000000)) (h : Hid (MRaw w g base fu vi vt vf vs zs s)) :
    Calls Tryd.prog 41 #[.pointer (some ⟨g, 0, none⟩)] w fun e w' => e = .returned (.tuple #[]) ∧ (∃ vs' zs', MRaw w' g base fu vi vt vf vs' zs' s.leave) ∧ Below base w w' := by
  obtain ⟨G, c, k, z, ys, ht⟩ := h.out.topAt hn.out hl.out
  obtain ⟨rfl, rfl, hk, -, -, -, -, -, hkm⟩ := ht
  have hcap : k + 1 ≤ c ∧ c ≤ 9223372036854775807 := by
    rcases h.out.st.2 with ⟨e1, _⟩ | ⟨_, cap, _, hv, _, _, hn2, hm, _⟩
    · cases e1
    · injection hv with _ h2 h3
      subst h3
      have := h.out.len
      rw [List.length_append] at this
      simp only [List.length_cons, List.length_nil] at this
      exact ⟨by omega, hm⟩
  obtain ⟨hc1, hc2⟩ := hcap
  have hlen := hide (show s.st.length = k + 1 by have := h.out.len; rw [List.length_append, hk] at this; simp only [List.length_cons, List.length_nil] at this; omega)
  have c0 := h.out.far 1 rfl
  have c1 := h.out.row.free 26
  have H2 := hide (h.out.left_ hk)
  have H2 := hide (H2.out.drewN 1)
  obtain ⟨W2, hW2⟩ : ∃ W2, (w.setCell ⟨g, 26, none⟩ (.slice (some ⟨G, 0, none⟩) k c)).drewN 1 = W2 := ⟨_, rfl⟩
  rw [hW2] at H2
  have HW2 := hide (show (w.setCell ⟨g, 26, none⟩ (.slice (some ⟨G, 0, none⟩) k c)).drew = W2 from hW2)
  have B2 := hide (show Below base w W2 by rw [← hW2]; exact below_draws ((Below.refl _ _).setCell (p := ⟨g, 26, none⟩) h.out.gb _) 1)
  have hk0 : (0 : Int) ≤ (k : Int) := by omega
  have hkc : (k : Int) ≤ (c : Int) := by omega
  clear hW2
  go_enter Tryd.func41, Tryd.ntmps41
  go_upto_region 1 with (first | go_region)
  rw [HW2.out]
  have d0 := H2.out.far 1 rfl
  clear c0 c1 HW2
  by_cases hk0' : k = 0
  · subst hk0'
    clear hk
    have cr := coReturn_any W2 (hide H2.out.core)
    go_wp2_with fail
    refine cr.mono ?_
    rintro e w6 ⟨rfl, h6, k6⟩
    have H6 := hide (H2.out.cored h6 (k6.weak H2.out.core.tr) (Nat.le_refl _))
    have B6 := hide (B2.out.trans (H2.out.belowC (k6.weak H2.out.core.tr)))
    clear h6 k6 cr
    go_wp2_with fail
    go_end0
    refine ⟨rfl, ⟨.slice (some ⟨G, 0, none⟩) 0 c, ys, ?_⟩, B6.out⟩
    have q := H6.out
    unfold Mch.leave
    dsimp only
    rw [if_pos (by have := hlen.out; omega)]
    exact q
  · have hkz : ¬ ((k : Int) = 0) := by omega
    have hkb : ((k : Int) == 0) = false := by rw [beq_eq_false_iff_ne]; exact hkz
    go_wp2_with fail
    go_end0
    refine ⟨rfl, ⟨.slice (some ⟨G, 0, none⟩) k c, ys, ?_⟩, B2.out⟩
    unfold Mch.leave
    dsimp only
    rw [if_neg (by rw [hlen.out]; omega)]
    exact H2.out
end
end Go.Proofs.YtipjeihfhnilcaaDoor
end

section
/-
  The contract of value.Truncate: the lowest bytes, or 0. Conditions: those of the types.
-/
namespace Go.Proofs.YtipjeihfhnilcaaDoor
open Go.RowKit

set_option maxRecDepth 100000 in
set_option maxHeartbeats 400000 in
theorem trunc_1 (X : Nat) (w : World) : Calls Tryd.prog 52 #[vv X, .int .i64 1] w fun e w' => e = .returned (vv (X % 2 ^ 8)) ∧ Below w.heap.size w w' := by
  obtain ⟨l0, l1⟩ := lo_b X
  obtain ⟨e1, e2⟩ := mask_lo X 8 (by omega) 255 (by decide)
  have E1 := hide e1
  have E2 := hide e2
  clear e1 e2
  obtain ⟨V, hV⟩ : ∃ V, V = X % 2 ^ 8 := ⟨_, rfl⟩
  rw [← hV] at E1 E2 ⊢
  clear hV
  go_enter Tryd.func52, Tryd.ntmps52
  go_wp2_with fail
  refine (vsz_1 _).mono ?_
  rintro e w' ⟨rfl, rfl⟩
  go_wp2_with fail
  rw [E1.out]
  exact bodyPost_ret (v := vv V) (by simp [results, Tryd.results52, go_sem, E2.out]) rfl ⟨rfl, below2 _ _ _⟩
set_option maxRecDepth 100000 in
set_option maxHeartbeats 400000 in
theorem trunc_2 (X : Nat) (w : World) : Calls Tryd.prog 52 #[vv X, .int .i64 2] w fun e w' => e = .returned (vv (X % 2 ^ 16)) ∧ Below w.heap.size w w' := by
  obtain ⟨l0, l1⟩ := lo_b X
  obtain ⟨e1, e2⟩ := mask_lo X 16 (by omega) 65535 (by decide)
  have E1 := hide e1
  have E2 := hide e2
  clear e1 e2
  obtain ⟨V, hV⟩ : ∃ V, V = X % 2 ^ 16 := ⟨_, rfl⟩
  rw [← hV] at E1 E2 ⊢
  clear hV
  go_enter Tryd.func52, Tryd.ntmps52
  go_wp2_with fail
  refine (vsz_2 _).mono ?_
  rintro e w' ⟨rfl, rfl⟩
  go_wp2_with fail
  rw [E1.out]
  exact bodyPost_ret (v := vv V) (by simp [results, Tryd.results52, go_sem, E2.out]) rfl ⟨rfl, below2 _ _ _⟩
set_option maxRecDepth 100000 in
set_option maxHeartbeats 400000 in
theorem trunc_4 (X : Nat) (w : World) : Calls Tryd.prog 52 #[vv X, .int .i64 4] w fun e w' => e = .returned (vv (X % 2 ^ 32)) ∧ Below w.heap.size w w' := by
  obtain ⟨l0, l1⟩ := lo_b X
  obtain ⟨e1, e2⟩ := mask_lo X 32 (by omega) 4294967295 (by decide)
  have E1 := hide e1
  have E2 := hide e2
  clear e1 e2
  obtain ⟨V, hV⟩ : ∃ V, V = X % 2 ^ 32 := ⟨_, rfl⟩
  rw [← hV] at E1 E2 ⊢
  clear hV
  go_enter Tryd.func52, Tryd.ntmps52
  go_wp2_with fail
  refine (vsz_4 _).mono ?_
  rintro e w' ⟨rfl, rfl⟩
  go_wp2_with fail
  rw [E1.out]
  exact bodyPost_ret (v := vv V) (by simp [results, Tryd.results52, go_sem, E2.out]) rfl ⟨rfl, below2 _ _ _⟩
set_option maxRecDepth 100000 in
set_option maxHeartbeats 400000 in
theorem trunc_8 (X : Nat) (w : World) : Calls Tryd.prog 52 #[vv X, .int .i64 8] w fun e w' => e = .returned (vv (X % 2 ^ 64)) ∧ Below w.heap.size w w' := by
  obtain ⟨l0, l1⟩ := lo_b X
  obtain ⟨e1, e2⟩ := mask_lo X 64 (by omega) (IntKind.u64.wrap (IntKind.u64.wrap 18446744073709551616 - 1)) (by decide)
  have E1 := hide e1
  have E2 := hide e2
  clear e1 e2
  obtain ⟨V, hV⟩ : ∃ V, V = X % 2 ^ 64 := ⟨_, rfl⟩
  rw [← hV] at E1 E2 ⊢
  clear hV
  go_enter Tryd.func52, Tryd.ntmps52
  go_wp2_with fail
  refine (vsz_8 _).mono ?_
  rintro e w' ⟨rfl, rfl⟩
  go_wp2_with fail
  rw [E1.out]
  exact bodyPost_ret (v := vv V) (by simp [results, Tryd.results52, go_sem, E2.out]) rfl ⟨rfl, below2 _ _ _⟩
set_option maxRecDepth 100000 in
set_option maxHeartbeats 400000 in
theorem trunc_16b (X : Nat) (w : World) : Calls Tryd.prog 52 #[vv X, .int .i64 16] w fun e w' => e = .returned (vv X) ∧ Below w.heap.size w w' := by
  go_enter Tryd.func52, Tryd.ntmps52
  go_wp2_with fail
  refine (vsz_16 _).mono ?_
  rintro e w' ⟨rfl, rfl⟩
  go_wp2_with fail
  exact bodyPost_ret (v := vv X) (by simp [results, Tryd.results52, go_sem]) rfl ⟨rfl, below2 _ _ _⟩
set_option maxRecDepth 100000 in
set_option maxHeartbeats 400000 in
theorem trunc_none (X : Nat) (n : Int) (w : World) (h : szB n = false) : Calls Tryd.prog 52 #[vv X, .int .i64 n] w fun e w' => e = .returned (vv 0) ∧ Below w.heap.size w w' := by
  go_enter Tryd.func52, Tryd.ntmps52
  go_wp2_with fail
  refine (vsz_any n _).mono ?_
  rw [h]
  rintro e w' ⟨rfl, rfl⟩
  go_wp2_with fail
  exact bodyPost_ret (v := vv 0) (by simp [results, Tryd.results52, go_sem, vv_zero]) rfl ⟨rfl, below2 _ _ _⟩

theorem trunc_any (X : Nat) (n : Int) (w : World) (hX : X < two128) : Calls Tryd.prog 52 #[vv X, .int .i64 n] w fun e w' => e = .returned (vv (truncV X n)) ∧ Below w.heap.size w w' := by
  by_cases h : szB n = true
  · have hn := of_decide_eq_true h
    rcases hn with rfl | rfl | rfl | rfl | rfl
    · exact trunc_1 X w
    · exact trunc_2 X w
    · exact trunc_4 X w
    · exact trunc_8 X w
    · have e : truncV X 16 = X := trunc_16 X hX
      rw [e]; exact trunc_16b X w
  · have h : szB n = false := by simpa using h
    have e : truncV X n = 0 := by unfold truncV; rw [szN_no h]; simp [Nat.mod_one]
    rw [e]; exact trunc_none X n w h
end Go.Proofs.YtipjeihfhnilcaaDoor
end
