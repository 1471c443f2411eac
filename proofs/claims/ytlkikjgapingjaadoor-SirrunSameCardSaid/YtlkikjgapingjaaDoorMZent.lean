import Derived.Test.YtlkikjgapingjaaDoorMZdef
set_option linter.unusedVariables false
set_option linter.unusedSimpArgs false
section
/-
  The contracts of the machine's enter and leave (chapter 8). Conditions: those of the types.
-/
namespace Go.Proofs.YtlkikjgapingjaaDoor
open Go.RowKit

theorem Tryd.info81z : (Tryd.prog.info? 81).map (fun i => (i.zero, i.size, i.bytes)) = some (some (.agg #[.int .i64 0, .int .i64 0, .map none, .map none]), 4, 32) := by kernel_rfl
section
variable {g base : Nat} {vi vt vf vs : Value} {zs : List Zn} {s : Mch}
theorem blocksZ_app (l m : List Zn) : blocksZ (l ++ m) = blocksZ l ++ blocksZ m := by simp [blocksZ]
theorem MRaw.block_lt {w : World} (h : MRaw w g base vi vt vf vs zs s) : ∀ b ∈ blocksZ zs, b < w.heap.size := fun b hb => by
  unfold blocksZ at hb
  obtain ⟨z, hz, hb⟩ := List.mem_flatMap.1 hb
  simp only [List.mem_cons, List.not_mem_nil, or_false] at hb
  rcases hb with rfl | rfl
  · exact (h.maps z hz).1.lt
  · exact (h.maps z hz).2.lt
theorem MRaw.st_row {w w7 : World} (h : MRaw w g base vi vt vf vs zs s) (hg : w.grownBy w7 vs.ownBlock) : Row w7 g 62 (mcells s vi vt vf vs) ∧ w7.ownsRow base 33 2 vt s.trace.length (vcells s.trace) ∧ (∀ b K m, CellsAt w b K m → CellsAt w7 b K m) := by
  rcases h.st.2 with ⟨rfl, _⟩ | ⟨k, cap, cur, rfl, _, hh, _⟩
  · refine ⟨h.row.grown hg (fun e => by cases e), h.tr.kept hg ?_, fun b K m hc => hc.kept hg (fun e => by cases e)⟩
    cases hv : vt.ownBlock with
    | none => exact .inl rfl
    | some k => exact .inr (fun e => by cases e)
  · obtain ⟨a1, a2, _, _⟩ := h.off_grown (row := some k) rfl hh hg
    exact ⟨a1 (by decide), a2 (by decide), fun b K m hc => hc.kept hg (fun e => by injection e with e; exact hc.not_row hh e)⟩
/-- An activation more. -/
theorem MRaw.entered {w w3 w7 : World} {v' : Value} {f M1 M2 : Nat} (h : MRaw w g base vi vt vf vs zs s) (hM1 : w.heap.size ≤ M1) (hM2 : M1 < M2) (h3 : MRaw w3 g base vi vt vf vs zs s) (c1 : CellsAt w3 M1 0 noC) (c2 : CellsAt w3 M2 0 noC) (hg : w3.grownBy w7 vs.ownBlock)
    (ho : w7.ownsRow base 81 4 v' (s.st.length + 1) (acells zs ++ acell (⟨f, 0, noC, noC⟩, M1, M2))) :
    MRaw (w7.setCell ⟨g, 25, none⟩ v') g base vi vt vf v' (zs ++ [(⟨f, 0, noC, noC⟩, M1, M2)]) { s with st := s.st ++ [⟨f, 0, noC, noC⟩] } ∧ Below base w3 (w7.setCell ⟨g, 25, none⟩ v') := by
  have hB : Below base w3 w7 := (Below.refl _ _).grown hg h3.bl (fun k hk => (h3.st.lt k hk).1)
  obtain ⟨r1, r2, r3⟩ := h3.st_row hg
  have hg2 : w7.grownBy (w7.setCell ⟨g, 25, none⟩ v') (some g) := put_grown w7 g 25 v'
  have hB2 : Below base w7 (w7.setCell ⟨g, 25, none⟩ v') := (Below.refl _ _).setCell h.gb _
  have far : ∀ b K m, CellsAt w3 b K m → CellsAt (w7.setCell ⟨g, 25, none⟩ v') b K m := fun b K m hc => (r3 b K m hc).setCell ⟨g, 25, none⟩ ((r3 b K m hc).not_row r1) _
  refine ⟨⟨?_, h.gb, h.r8, (h3.inp.below hB).below hB2, r2.kept hg2 (own_off r2 r1 (by decide)), ?_, ?_, ?_, ?_, fun z hz => ?_⟩, hB.trans hB2⟩
  · have := r1.set_ 25 v'
    rwa [mcells_set h.r8 9] at this
  · show World.ownsRow _ base _ 4 v' (s.st ++ [_]).length (acells (zs ++ [_]))
    rw [List.length_append, acells_app]
    exact ho.kept hg2 (own_off ho r1 (by decide))
  · rw [List.map_append, h.eq]; rfl
  · rw [blocksZ_app, List.pairwise_append]
    refine ⟨h.asc, ?_, fun a ha b hb => ?_⟩
    · show [M1, M2].Pairwise (· < ·)
      simp [hM2]
    · have := h.block_lt a ha
      have hb : b = M1 ∨ b = M2 := by simpa [blocksZ] using hb
      rcases hb with rfl | rfl <;> omega
  · intro b hb
    rw [blocksZ_app, List.mem_append] at hb
    rcases hb with hb | hb
    · exact h.low b hb
    · have hb : b = M1 ∨ b = M2 := by simpa [blocksZ] using hb
      have := h.bl
      rcases hb with rfl | rfl <;> omega
  · rcases List.mem_append.1 hz with hz | hz
    · exact ⟨far _ _ _ (h3.maps z hz).1, far _ _ _ (h3.maps z hz).2⟩
    · obtain rfl : z = (⟨f, 0, noC, noC⟩, M1, M2) := by simpa using hz
      exact ⟨(far _ _ _ c1).mono (Nat.zero_le _), (far _ _ _ c2).mono (Nat.zero_le _)⟩
theorem acell_oneCell (z : Zn) : ∀ u ∈ acell z, u.oneCell' = true := by
  intro u hu
  simp [acell] at hu
  rcases hu with rfl | rfl | rfl | rfl <;> rfl
theorem lit_cells (w : World) (o p : Obj) (t : TypeId) (cs : List Value) (j : Nat) (u : Value) (hu : cs[j]? = some u) : (((w.alloc o).alloc p).alloc (.cells cs.toArray t)).cell? ((⟨w.heap.size + 1 + 1, 0, none⟩ : Addr).add j) = some u := by
  rw [show (⟨w.heap.size + 1 + 1, 0, none⟩ : Addr).add j = ⟨w.heap.size + 1 + 1, j, none⟩ by unfold Addr.add; split <;> simp_all]
  have := Row.new ((w.alloc o).alloc p) t cs
  rw [show ((w.alloc o).alloc p).heap.size = w.heap.size + 1 + 1 by simp] at this
  exact this.cell hu
theorem max_cast (a b : Nat) : ((max a b : Nat) : Int) = max (a : Int) (b : Int) := by omega
set_option maxRecDepth 100000 in
set_option maxHeartbeats 4000000 in
theorem enter_any (f : Nat) (w : World) (hf : f ≤ 1000000) (hl : Hid (s.st.length ≤ 1000000)) (hd : Hid (s.depth ≤ 1000000)) (h : Hid (MRaw w g base vi vt vf vs zs s)) :
    Calls Tryd.prog 27 #[.pointer (some ⟨g, 0, none⟩), .int .i64 (f : Int)] w fun e w' => e = .returned (.tuple #[]) ∧ (∃ vs' zs', MRaw w' g base vi vt vf vs' zs' (s.enter f)) ∧ Below base w w' := by
  obtain ⟨i0, ih, hz0, hz1, hz2⟩ := info_parts Tryd.info81z
  have hmm := @run_makeMap Tryd.prog
  have c0 : ∀ o p q : Obj, (((w.alloc o).alloc p).alloc q).cell? ⟨g, 25, none⟩ = some vs := fun o p q => (((h.out.alloc o).alloc p).alloc q).far 9 rfl
  have c1 := h.out.far 9 rfl
  have HM3 := hide (show s.st.length + 1 ≤ maxLen by have := hl.out; unfold maxLen; omega)
  have HM4 := hide (show (s.st.length + 1) * 32 ≤ 140737488355328 by have := hl.out; omega)
  have HBL := hide h.out.bl
  go_enter Tryd.func27, Tryd.ntmps27
  have h3 := fun (L : List Value) => ((h.out.alloc (.map #[] 0)).alloc (.map #[] 0)).alloc (.cells L.toArray 81)
  have cm1 : ∀ L : List Value, CellsAt (((w.alloc (.map #[] 0)).alloc (.map #[] 0)).alloc (.cells L.toArray 81)) w.heap.size 0 noC := fun L => ((CellsAt.new w).below (below2 _ _ _) (by simp)).mono (Nat.le_refl _)
  have cm2 : ∀ L : List Value, CellsAt (((w.alloc (.map #[] 0)).alloc (.map #[] 0)).alloc (.cells L.toArray 81)) (w.heap.size + 1) 0 noC := fun L => by
    have := (CellsAt.new (w.alloc (.map #[] 0))).below (below1 _ (.cells L.toArray 81)) (by simp)
    rwa [show (w.alloc (.map #[] 0)).heap.size = w.heap.size + 1 by simp] at this
  have H3 := hide h3
  have CM1 := hide cm1
  have CM2 := hide cm2
  have hb3 := hide (fun L : List Value => below3 w (.map #[] 0) (.map #[] 0) (.cells L.toArray 81))
  clear h3 cm1 cm2
  go_upto_region 1 with (at_builtin; refine wpList_append_own _ rfl (.tmp 8) (.tmp 13) 60 rfl base 81 i0 (.agg #[.int .i64 0, .int .i64 0, .map none, .map none]) 4 32 Tryd.underlying60 ih hz0 hz1 hz2 rfl (by decide) vs s.st.length (acells zs) rfl (((h.out.alloc _).alloc _).alloc _).st ⟨w.heap.size + 1 + 1, 0, none⟩ 1 1 (acell (⟨f, 0, noC, noC⟩, w.heap.size, w.heap.size + 1)) rfl rfl (lit_cells w _ _ _ _) (acell_oneCell _) HM3.out HM4.out (Nat.le_trans HBL.out (by simp; omega)) ?_; intro v2 w7 ho2 hg2 _; obtain ⟨A7, c7, rfl⟩ := own_shape ho2; have FIN := hide (h.out.entered (f := f) (Nat.le_refl _) (Nat.lt_succ_self _) (H3.out (acell (⟨f, 0, noC, noC⟩, w.heap.size, w.heap.size + 1))) (CM1.out _) (CM2.out _) hg2 ho2); have r1 := hide ((H3.out (acell (⟨f, 0, noC, noC⟩, w.heap.size, w.heap.size + 1))).st_row hg2).1; have p0 := r1.out.cell (k := 25) (show (mcells s vi vt vf vs)[25]? = some vs from mcells_hi h.out.r8 9); have p1 := r1.out.free 25; clear hg2 ho2 c0 c1 hmm)
  obtain ⟨W8, hW8⟩ : ∃ W8, w7.setCell ⟨g, 25, none⟩ (.slice A7 (s.st.length + 1) c7) = W8 := ⟨_, rfl⟩
  rw [hW8] at FIN ⊢
  obtain ⟨f8, b8⟩ := FIN.out
  have H8 := hide f8
  have B8 := hide (((hb3.out (acell (⟨f, 0, noC, noC⟩, w.heap.size, w.heap.size + 1))).mono HBL.out).trans b8)
  have d0 := H8.out.far 10 rfl
  have d1 := H8.out.far 9 rfl
  have d2 := H8.out.row.free 26
  have hl0 := hl.out
  have hd0 := hd.out
  clear FIN f8 b8 hW8 p0 p1 H3 CM1 CM2 hb3
  have FIN := hide (H8.out.store 26 (.int .i64 ((max s.depth (s.st.length + 1) : Nat) : Int)) (s' := s.enter f) (mcells_set H8.out.r8 10 _) H8.out.inp rfl rfl (Nat.le_refl _) H8.out.r8)
  have hgb := hide h.out.gb
  have FX := hide (show ∀ X : Int, X = ((max s.depth (s.st.length + 1) : Nat) : Int) → MRaw (W8.setCell ⟨g, 26, none⟩ (.int .i64 X)) g base vi vt vf (.slice A7 (s.st.length + 1) c7) (zs ++ [(⟨f, 0, noC, noC⟩, w.heap.size, w.heap.size + 1)]) (s.enter f) from fun X e => by rw [e]; exact FIN.out)
  clear FIN
  go_wp2_with (first | go_region)
  all_goals
    go_end0
    exact ⟨rfl, ⟨_, _, (FX.out _ (by omega)).drewN 1⟩, below_draws (B8.out.trans ((Below.refl _ _).setCell (p := ⟨g, 26, none⟩) hgb.out _)) 1⟩
end
end Go.Proofs.YtlkikjgapingjaaDoor
end
