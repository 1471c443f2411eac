import Derived.Test.YtlkcjjalkdlicaaDoorMZcm2
import Derived.Test.YtlkcjjalkdlicaaDoorMDraw
set_option linter.unusedVariables false
set_option linter.unusedSimpArgs false
section
/-
  The contracts of the machine's apply, and of compute at input, output, Add to Equal (chapter 8). Conditions: those of the types.
-/
namespace Go.Proofs.YtlkcjjalkdlicaaDoor
open Go.RowKit

theorem Tryd.info33z : (Tryd.prog.info? 33).map (fun i => (i.zero, i.size, i.bytes)) = some (some (.agg #[.int .u64 0, .int .u64 0]), 2, 16) := by kernel_rfl
section
variable {g base : Nat} {vi vt vf vs : Value} {zs : List Zn} {s : Mch}
theorem MRaw.off_grown {w w7 : World} {row : Option Nat} {k : Nat} {t : TypeId} {cs : Array Value} {fr : Nat × Nat} (h : MRaw w g base vi vt vf vs zs s) (hk : row = some k) (hh : w.heap[k]? = some (.cells cs t fr)) (hg : w.grownBy w7 row) :
    (t ≠ 79 → Row w7 g 79 (mcells s vi vt vf vs)) ∧ (t ≠ 33 → w7.ownsRow base 33 2 vt s.trace.length (vcells s.trace)) ∧ (t ≠ 137 → w7.ownsRow base 137 4 vs s.st.length (acells zs)) ∧ (∀ z ∈ zs, CellsAt w7 z.2.1 s.steps z.1.sl ∧ CellsAt w7 z.2.2 s.steps z.1.ar) := by
  subst hk
  refine ⟨fun ht => h.row.grown hg (fun e => ?_), fun ht => h.tr.kept hg (own_off h.tr hh ht), fun ht => h.st.kept hg (own_off h.st hh ht), fun z hz => ⟨(h.maps z hz).1.kept hg (fun e => ?_), (h.maps z hz).2.kept hg (fun e => ?_)⟩⟩
  · injection e with e
    have := h.row
    unfold Row at this
    rw [e, hh] at this
    injection this with this
    injection this with _ e3
    exact ht e3
  · injection e with e
    exact (h.maps z hz).1.not_row hh e
  · injection e with e
    exact (h.maps z hz).2.not_row hh e
theorem own_shape {w : World} {e size n : Nat} {v : Value} {xs : List Value} (h : w.ownsRow base e size v n xs) : ∃ A c, v = .slice A n c := by
  rcases h.2 with ⟨rfl, rfl⟩ | ⟨k, cap, cur, rfl, _⟩
  · exact ⟨_, _, rfl⟩
  · exact ⟨_, _, rfl⟩
theorem MRaw.tr_row {w w7 : World} (h : MRaw w g base vi vt vf vs zs s) (hg : w.grownBy w7 vt.ownBlock) : Row w7 g 79 (mcells s vi vt vf vs) := by
  rcases h.tr.2 with ⟨rfl, _⟩ | ⟨k, cap, cur, rfl, _, hh, _⟩
  · exact h.row.grown hg (fun e => by cases e)
  · exact (h.off_grown (row := some k) rfl hh hg).1 (by decide)
/-- A value more in the output. -/
theorem MRaw.outed {w w7 : World} {v' : Value} {V : Nat} (h : MRaw w g base vi vt vf vs zs s) (hg : w.grownBy w7 vt.ownBlock) (ho : w7.ownsRow base 33 2 v' (s.trace.length + 1) (vcells s.trace ++ vcell V)) :
    MRaw (w7.setCell ⟨g, 21, none⟩ v') g base vi v' vf vs zs { s with trace := s.trace ++ [V] } ∧ Below base w (w7.setCell ⟨g, 21, none⟩ v') := by
  have hB : Below base w w7 := (Below.refl _ _).grown hg h.bl (fun k hk => (h.tr.lt k hk).1)
  have hall : Row w7 g 79 (mcells s vi vt vf vs) ∧ w7.ownsRow base 137 4 vs s.st.length (acells zs) ∧ (∀ z ∈ zs, CellsAt w7 z.2.1 s.steps z.1.sl ∧ CellsAt w7 z.2.2 s.steps z.1.ar) := by
    rcases h.tr.2 with ⟨rfl, _⟩ | ⟨k, cap, cur, rfl, _, hh, _⟩
    · exact ⟨h.row.grown hg (fun e => by cases e), h.st.kept hg (by
        cases hv : vs.ownBlock with
        | none => exact .inl rfl
        | some k => exact .inr (fun e => by cases e)), fun z hz => ⟨(h.maps z hz).1.kept hg (fun e => by cases e), (h.maps z hz).2.kept hg (fun e => by cases e)⟩⟩
    · obtain ⟨a1, _, a3, a4⟩ := h.off_grown (row := some k) rfl hh hg
      exact ⟨a1 (by decide), a3 (by decide), a4⟩
  obtain ⟨r1, r2, r3⟩ := hall
  have hg2 : w7.grownBy (w7.setCell ⟨g, 21, none⟩ v') (some g) := ⟨rfl, rfl, rfl, by simp [World.setCell], fun i _ hi => Below.heap_setCell w7 ⟨g, 21, none⟩ v' i (fun e => hi (by rw [e]))⟩
  have hB2 : Below base w7 (w7.setCell ⟨g, 21, none⟩ v') := (Below.refl _ _).setCell h.gb _
  refine ⟨⟨?_, h.gb, h.r8, (h.inp.below hB).below hB2, ?_, ?_, h.eq, h.asc, h.low, fun z hz => ?_⟩, hB.trans hB2⟩
  · have := r1.set_ 21 v'
    rwa [mcells_set h.r8 5] at this
  · show World.ownsRow _ base _ 2 v' (s.trace ++ [V]).length (vcells (s.trace ++ [V]))
    rw [List.length_append, vcells_app]
    exact ho.kept hg2 (own_off ho r1 (by decide))
  · exact r2.kept hg2 (own_off r2 r1 (by decide))
  · exact ⟨(r3 z hz).1.setCell ⟨g, 21, none⟩ ((r3 z hz).1.not_row r1) _, (r3 z hz).2.setCell ⟨g, 21, none⟩ ((r3 z hz).2.not_row r1) _⟩
theorem vcell_oneCell (V : Nat) : ∀ u ∈ vcell V, u.oneCell' = true := by
  intro u hu
  simp [vcell] at hu
  rcases hu with rfl | rfl <;> rfl

set_option maxHeartbeats 4000000 in
theorem compute_13 (a V : Nat) (w : World) (ha : a < 8) (hV : Hid (s.inp.headD 0 = V)) (hV2 : Hid (V < 18446744073709551616)) (h : Hid (MRaw w g base vi vt vf vs zs s)) :
    Calls Tryd.prog 83 #[.pointer (some ⟨g, 0, none⟩), iv 13 (a : Int) 0 0 0] w fun e w' => e = .returned (.tuple #[]) ∧ (∃ vi', MRaw w' g base vi' vt vf vs zs (({ s with inp := s.inp.tail } : Mch).setR (a : Int) V)) ∧ Below base w w' := by
  have hgl := h.out.gl
  go_enter Tryd.func83, Tryd.ntmps83
  obtain ⟨X, hX⟩ : ∃ X, w.heap.size = X := ⟨_, rfl⟩
  obtain ⟨W1, hW1⟩ : ∃ W1, w.alloc (.cells #[.int .i64 13, .int .i64 (a : Int), .int .i64 0, .int .i64 0, .int .u64 0] 65) = W1 := ⟨_, rfl⟩
  have R1 := hide (show Row W1 X 65 [.int .i64 13, .int .i64 (a : Int), .int .i64 0, .int .i64 0, .int .u64 0] by rw [← hW1, ← hX]; exact Row.new w _ _)
  have H1 := hide (show MRaw W1 g base vi vt vf vs zs s by rw [← hW1]; exact h.out.alloc _)
  have B1 := hide (show Below base w W1 by rw [← hW1]; exact (Below.refl _ _).alloc h.out.bl _)
  have hgX : g ≠ X := by omega
  have HX := hide hX
  have HW1 := hide hW1
  clear hX hW1
  go_upto_region 1 with (fail)
  rw [HW1.out, HX.out]
  have x0 := R1.out.cell (k := 0) rfl
  have x1 := R1.out.cell (k := 1) rfl
  have cr := fun q => cread_any (W1.drewN q) (hide (H1.out.drewN q))
  rw [hV.out] at cr
  have E1 := hide (show ((V : Nat) : Int) = lo V by unfold lo; have := hV2.out; omega)
  have E2 := hide (show (0 : Int) = hi V by unfold hi; have := hV2.out; omega)
  have ha0 : (0 : Int) ≤ (a : Int) := by omega
  have ha1 : (a : Int) < 8 := by omega
  go_upto_region 12 with (fail)
  go_region_held3 (fun w' => w'.cell? ⟨X, 1, none⟩ = some (.int .i64 (a : Int))) (first | go_keep | exact m5)
    (first | (go_at_call 114; refine (cr _).mono ?_; rintro e w5 ⟨rfl, ⟨vi5, h5⟩, hb5⟩; have H5 := hide h5; have B5 := hide (B1.out.trans (Below.trans (below_draws (Below.refl _ _) _) ((H1.out.drewN _).gB hb5))); have m5 := ((R1.out.drewN _).grown hb5 (fun e => hgX (by injection e with e; exact e.symm))).cell (k := 1) rfl; obtain ⟨r0, r1⟩ := h5.reg ha; have z0 := h5.row.free (a * 2); have z1 := h5.row.free (a * 2 + 1); clear h5 hb5))
  all_goals
    have q := H5.out.setReg ha V
    have qb := H5.out.setRegB a (.int .u64 (lo V)) (.int .u64 (hi V))
    rw [← E1.out, ← E2.out] at q qb
    go_wp2_with fail
    go_end0
    exact ⟨rfl, ⟨_, q⟩, B5.out.trans qb⟩
set_option maxHeartbeats 4000000 in
theorem compute_14 (a V : Nat) (w : World) (ha : a < 8) (hV : Hid (s.regs.getD a 0 = V)) (hm : Hid (s.trace.length ≤ 1000000)) (h : Hid (MRaw w g base vi vt vf vs zs s)) :
    Calls Tryd.prog 83 #[.pointer (some ⟨g, 0, none⟩), iv 14 (a : Int) 0 0 0] w fun e w' => e = .returned (.tuple #[]) ∧ (∃ vt', MRaw w' g base vi vt' vf vs zs { s with trace := s.trace ++ [V] }) ∧ Below base w w' := by
  obtain ⟨i0, ih, hz0, hz1, hz2⟩ := info_parts Tryd.info33z
  have hgl := h.out.gl
  go_enter Tryd.func83, Tryd.ntmps83
  obtain ⟨X, hX⟩ : ∃ X, w.heap.size = X := ⟨_, rfl⟩
  obtain ⟨W1, hW1⟩ : ∃ W1, w.alloc (.cells #[.int .i64 14, .int .i64 (a : Int), .int .i64 0, .int .i64 0, .int .u64 0] 65) = W1 := ⟨_, rfl⟩
  have R1 := hide (show Row W1 X 65 [.int .i64 14, .int .i64 (a : Int), .int .i64 0, .int .i64 0, .int .u64 0] by rw [← hW1, ← hX]; exact Row.new w _ _)
  have H1 := hide (show MRaw W1 g base vi vt vf vs zs s by rw [← hW1]; exact h.out.alloc _)
  have B1 := hide (show Below base w W1 by rw [← hW1]; exact (Below.refl _ _).alloc h.out.bl _)
  have hgX : g ≠ X := by omega
  have HX := hide hX
  have HW1 := hide hW1
  clear hX hW1
  go_upto_region 1 with (fail)
  rw [HW1.out, HX.out]
  have x0 := R1.out.cell (k := 0) rfl
  have x1 := R1.out.cell (k := 1) rfl
  obtain ⟨q0, q1⟩ := H1.out.reg ha
  rw [hV.out] at q0 q1
  have t0 := H1.out.far 5 rfl
  have ha0 : (0 : Int) ≤ (a : Int) := by omega
  have ha1 : (a : Int) < 8 := by omega
  have HM3 := hide (show s.trace.length + 1 ≤ maxLen by have := hm.out; unfold maxLen; omega)
  have HM4 := hide (show (s.trace.length + 1) * 16 ≤ 140737488355328 by have := hm.out; omega)
  have HBL := hide (show base ≤ W1.heap.size from H1.out.bl)
  have t1 : ∀ o : Obj, (W1.alloc o).cell? ⟨g, 21, none⟩ = some vt := fun o => (H1.out.alloc o).far 5 rfl
  have x1' : ∀ o : Obj, (W1.alloc o).cell? ⟨X, 1, none⟩ = some (.int .i64 (a : Int)) := fun o => (R1.out.alloc o).cell (k := 1) rfl
  have qa0 : ∀ o : Obj, (W1.alloc o).cell? ⟨g, a * 2, none⟩ = some (.int .u64 (lo V)) := fun o => by have := ((H1.out.alloc o).reg ha).1; rwa [hV.out] at this
  have qa1 : ∀ o : Obj, (W1.alloc o).cell? ⟨g, a * 2 + 1, none⟩ = some (.int .u64 (hi V)) := fun o => by have := ((H1.out.alloc o).reg ha).2; rwa [hV.out] at this
  go_upto_region 14 with (fail)
  go_region_law
    (refine wp_append_own _ (.tmp 92) (.tmp 100) 34 rfl base 33 i0 (.agg #[.int .u64 0, .int .u64 0]) 2 16 Tryd.underlying34 ih hz0 hz1 hz2 rfl (by decide) vt s.trace.length (vcells s.trace) rfl (((H1.out.drewN _).alloc _).tr) ⟨W1.heap.size, 0, none⟩ 1 1 (vcell V) rfl rfl (fun j u hu => by rw [WideShapes.add_plain, Nat.zero_add]; exact (Row.new W1 33 (vcell V)).cell hu) (vcell_oneCell V) HM3.out HM4.out (Nat.le_trans HBL.out (by simp)) ?_; intro v2 w7 ho2 hg2 _; obtain ⟨A7, c7, rfl⟩ := own_shape ho2; have FIN := hide (H1.out.outed (((grown_draws (World.grownBy.refl W1 _) 1).trans (World.grownBy_alloc _ _ _)).trans hg2) ho2); have HG7 : Hid (W1.grownBy w7 vt.ownBlock) := hide (((grown_draws (World.grownBy.refl W1 _) 1).trans (World.grownBy_alloc _ _ _)).trans hg2); have p0 := (H1.out.tr_row HG7.out).cell (k := 21) (show (mcells s vi vt vf vs)[21]? = some vt from mcells_hi H1.out.r8 5); have p1 := (H1.out.tr_row HG7.out).free 21)
  all_goals
    go_wp2_with fail
    go_end0
    exact ⟨rfl, ⟨_, FIN.out.1⟩, B1.out.trans FIN.out.2⟩
end
end Go.Proofs.YtlkcjjalkdlicaaDoor
end
