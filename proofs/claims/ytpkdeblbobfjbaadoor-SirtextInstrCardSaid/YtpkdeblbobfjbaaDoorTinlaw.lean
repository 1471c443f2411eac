/-
  The walk of the law SirtextInstr: for every instruction and every byte it returns true, and what was in memory before the call is as it was. Conditions: the tables of the names and of the powers of ten lie as they are laid.
-/
import Derived.Test.YtpkdeblbobfjbaaDoorTinst2
namespace Go.Proofs.YtpkdeblbobfjbaaDoor
open Go.RowKit
attribute [local go_sem ↓] Go.wp_at_zero Go.wp_at_succ

set_option maxHeartbeats 4000000 in
set_option maxRecDepth 100000 in
theorem inlaw_walk (x : Ins) (hx : InsB x) (op : Int) (h0 : 0 ≤ op) (h255 : op ≤ 255) (w : World) (hT : Hid (Lib.TabBelow Tryd.prog w.heap.size w "internal/strconv.uint64pow10" .u64 Lib.pow10Tab)) (hS : Hid (Synt w)) :
    Calls Tryd.prog 3 #[iv x.op x.a x.b x.c x.imm, .int .u8 op] w fun e w' => e = .returned (.bool true) ∧ Below w.heap.size w w' := by
  obtain ⟨W0, hW0, hb0, hB0, hsz⟩ : ∃ W, w.alloc (.cells (icell x).toArray 24) = W ∧ Below w.heap.size w W ∧ Row W w.heap.size 24 (icell x) ∧ w.heap.size + 1 = W.heap.size := ⟨_, rfl, (Below.refl _ _).alloc (Nat.le_refl _) _, Row.new _ _ _, by simp⟩
  have ha := awake_any W0 (hT.out.on hb0).here (hide (hS.out.below hb0))
  obtain ⟨m, em⟩ : ∃ m, m = op.tmod 26 := ⟨_, rfl⟩
  have hm : 0 ≤ m ∧ m < 26 := by
    rw [em, Int.tmod_eq_emod_of_nonneg h0]; omega
  have hy : InsB ⟨m, x.a, x.b, x.c, x.imm⟩ := ⟨by dsimp only; omega, by dsimp only; omega, hx.a0, hx.a1, hx.b0, hx.b1, hx.c0, hx.c1, hx.m0, hx.m1⟩
  have HX := hide hx; have HY := hide hy; have HA := hide ha; have HW := hide hW0; have HB0 := hide hb0; have HR := hide hB0; have HSZ := hide hsz
  have em' := em.symm
  clear hx hy ha hW0 hb0 hB0 hsz hm em
  obtain ⟨zo, za, zb, zc, zm⟩ := x
  dsimp only at *
  go_enter Tryd.func3, Tryd.ntmps3
  go_upto_region 1 with (fail)
  rw [show w.alloc (.cells #[.int .i64 zo, .int .i64 za, .int .i64 zb, .int .i64 zc, .int .u64 zm] 24) = W0 from HW.out]
  go_wp2_with fail
  refine HA.out.mono ?_
  rintro e w1 ⟨rfl, hb1⟩
  have R1 := HR.out.call hb1
  have c0 := R1.cell (k := 0) rfl
  have c1 := R1.cell (k := 1) rfl
  have c2 := R1.cell (k := 2) rfl
  have c3 := R1.cell (k := 3) rfl
  have c4 := R1.cell (k := 4) rfl
  have hsz1 := hb1.size
  go_upto_region 5 with (fail)
  obtain ⟨W5, hW5⟩ : ∃ W5, W5 = w1.alloc (.cells #[.int .i64 m, .int .i64 za, .int .i64 zb, .int .i64 zc, .int .u64 zm] 24) := ⟨_, rfl⟩
  rw [← hW5]
  have hb5 : Below w1.heap.size w1 W5 := by rw [hW5]; exact below1 _ _
  have R2 : Row W5 w1.heap.size 24 (icell ⟨m, za, zb, zc, zm⟩) := by rw [hW5]; exact Row.new _ _ _
  have R1' := R1.call hb5
  have hbw : Below w.heap.size w W5 := (HB0.out.trans (hb1.mono (by have := HSZ.out; omega))).trans (hb5.mono (by have := HSZ.out; omega))
  have f0 := after_cell (R1'.cell (k := 0) rfl)
  have f1 := after_cell (R1'.cell (k := 1) rfl)
  have f2 := after_cell (R1'.cell (k := 2) rfl)
  have f3 := after_cell (R1'.cell (k := 3) rfl)
  have f4 := after_cell (R1'.cell (k := 4) rfl)
  have g0 := after_cell (R2.cell (k := 0) rfl)
  have g1 := after_cell (R2.cell (k := 1) rfl)
  have g2 := after_cell (R2.cell (k := 2) rfl)
  have g3 := after_cell (R2.cell (k := 3) rfl)
  have g4 := after_cell (R2.cell (k := 4) rfl)
  have hsz5 : w.heap.size ≤ W5.heap.size := hbw.size
  have hp : ∀ p : After W5, Below w.heap.size w p.w := fun p => hbw.trans (p.b.mono hsz5)
  have k1 := fun p : After W5 => dinstr_any ⟨zo, za, zb, zc, zm⟩ HX.out p.w (hT.out.on (hp p)).here (hide (hS.out.below (hp p)))
  have k2 := fun p : After W5 => rinstr_any ⟨zo, za, zb, zc, zm⟩ HX.out p.w
  have k3 := fun p : After W5 => dinstr_any ⟨m, za, zb, zc, zm⟩ HY.out p.w (hT.out.on (hp p)).here (hide (hS.out.below (hp p)))
  have k4 := fun p : After W5 => rinstr_any ⟨m, za, zb, zc, zm⟩ HY.out p.w
  dsimp only at k1 k2 k3 k4
  generalize insT ⟨zo, za, zb, zc, zm⟩ = t1 at k1 k2
  generalize insT ⟨m, za, zb, zc, zm⟩ = t2 at k3 k4
  have hbw' := hide hbw
  have K1 := hide k1; have K2 := hide k2; have K3 := hide k3; have K4 := hide k4
  clear hW5 hb5 R2 R1' hbw hsz5 hp k1 k2 k3 k4 R1 c0 c1 c2 c3 c4 hb1 hsz1
  refine wp_region_after (by kernel_rfl) (by kernel_rfl) ?_
  repeat (go_big_quiet_step ((first
    | (go_at_call 6; with_reducible exact after_of (K1.out _))
    | (go_at_call 6; with_reducible exact after_of (K3.out _))
    | (go_at_call 7; with_reducible exact after_of (K2.out _))
    | (go_at_call 7; with_reducible exact after_of (K4.out _)))))
  refine wpQuiet_nil ?_
  intro _ hw'
  obtain ⟨p1, hw''⟩ := hw'
  subst hw''
  go_wp2_with fail
  go_ret
  exact ⟨rfl, below_call hbw'.out p1.b⟩
end Go.Proofs.YtpkdeblbobfjbaaDoor
