import Derived.Test.YtlkcjjalkdlicaaDoorMRct
import Derived.Test.YtlkcjjalkdlicaaDoorMVapply
import Derived.Test.YtlkcjjalkdlicaaDoorMVszo
import Derived.Deep.RegionHeld3
set_option linter.unusedVariables false
set_option linter.unusedSimpArgs false
section
/-
  The contracts of the machine's read, apply and compute (chapter 8). Conditions: those of the types.
-/
namespace Go.Proofs.YtlkcjjalkdlicaaDoor
open Go.RowKit

section
variable {g base : Nat} {vi vt vf vs : Value} {zs : List Zn} {s : Mch}
theorem lo_small {v : Int} (h : 0 ≤ v ∧ v ≤ 18446744073709551615) : v = lo v.toNat ∧ (0 : Int) = hi v.toNat := by
  unfold lo hi
  omega
theorem MRaw.setRegB {w : World} (h : MRaw w g base vi vt vf vs zs s) (i : Nat) (u v : Value) : Below base w ((w.setCell ⟨g, i * 2, none⟩ u).setCell ⟨g, i * 2 + 1, none⟩ v) :=
  ((Below.refl _ _).setCell (p := ⟨g, i * 2, none⟩) h.gb _).setCell (p := ⟨g, i * 2 + 1, none⟩) h.gb _
theorem reg_nat (s : Mch) (i : Nat) : s.reg (i : Int) = s.regs.getD i 0 := by unfold Mch.reg; rw [Int.toNat_natCast]

set_option maxHeartbeats 4000000 in
theorem compute_0 (a : Nat) (imm : Int) (w : World) (ha : a < 8) (hm : 0 ≤ imm ∧ imm ≤ 18446744073709551615) (h : Hid (MRaw w g base vi vt vf vs zs s)) :
    Calls Tryd.prog 83 #[.pointer (some ⟨g, 0, none⟩), iv 0 (a : Int) 0 0 imm] w fun e w' => e = .returned (.tuple #[]) ∧ MRaw w' g base vi vt vf vs zs (s.setR (a : Int) imm.toNat) ∧ Below base w w' := by
  obtain ⟨e1, e2⟩ := lo_small hm
  have E1 := hide e1
  have E2 := hide e2
  clear e1 e2
  have hgl := h.out.gl
  go_enter Tryd.func83, Tryd.ntmps83
  obtain ⟨X, hX⟩ : ∃ X, w.heap.size = X := ⟨_, rfl⟩
  obtain ⟨W1, hW1⟩ : ∃ W1, w.alloc (.cells #[.int .i64 0, .int .i64 (a : Int), .int .i64 0, .int .i64 0, .int .u64 imm] 65) = W1 := ⟨_, rfl⟩
  have R1 := hide (show Row W1 X 65 [.int .i64 0, .int .i64 (a : Int), .int .i64 0, .int .i64 0, .int .u64 imm] by rw [← hW1, ← hX]; exact Row.new w _ _)
  have H1 := hide (show MRaw W1 g base vi vt vf vs zs s by rw [← hW1]; exact h.out.alloc _)
  have B1 := hide (show Below base w W1 by rw [← hW1]; exact (Below.refl _ _).alloc h.out.bl _)
  have hgX : g ≠ X := by omega
  have HX := hide hX
  have HW1 := hide hW1
  clear hX hW1
  go_upto_region 1 with (fail)
  rw [HW1.out, HX.out]
  have x0 := R1.out.cell (k := 0) rfl
  have x1 := R1.out.cell (k := 1) rfl
  have x4 := R1.out.cell (k := 4) rfl
  obtain ⟨r0, r1⟩ := H1.out.reg ha
  have z0 := H1.out.row.free (a * 2)
  have z1 := H1.out.row.free (a * 2 + 1)
  go_wp2_with (first | go_region)
  go_end0
  have q := (H1.out.setReg ha imm.toNat).drewN 1
  rw [← E1.out, ← E2.out] at q
  exact ⟨rfl, q, below_draws (B1.out.trans (H1.out.setRegB a _ _)) 1⟩
set_option maxHeartbeats 4000000 in
theorem compute_1 (a b V : Nat) (w : World) (ha : a < 8) (hb : b < 8) (hV : Hid (s.regs.getD b 0 = V)) (h : Hid (MRaw w g base vi vt vf vs zs s)) :
    Calls Tryd.prog 83 #[.pointer (some ⟨g, 0, none⟩), iv 1 (a : Int) (b : Int) 0 0] w fun e w' => e = .returned (.tuple #[]) ∧ MRaw w' g base vi vt vf vs zs (s.setR (a : Int) V) ∧ Below base w w' := by
  have hgl := h.out.gl
  go_enter Tryd.func83, Tryd.ntmps83
  obtain ⟨X, hX⟩ : ∃ X, w.heap.size = X := ⟨_, rfl⟩
  obtain ⟨W1, hW1⟩ : ∃ W1, w.alloc (.cells #[.int .i64 1, .int .i64 (a : Int), .int .i64 (b : Int), .int .i64 0, .int .u64 0] 65) = W1 := ⟨_, rfl⟩
  have R1 := hide (show Row W1 X 65 [.int .i64 1, .int .i64 (a : Int), .int .i64 (b : Int), .int .i64 0, .int .u64 0] by rw [← hW1, ← hX]; exact Row.new w _ _)
  have H1 := hide (show MRaw W1 g base vi vt vf vs zs s by rw [← hW1]; exact h.out.alloc _)
  have B1 := hide (show Below base w W1 by rw [← hW1]; exact (Below.refl _ _).alloc h.out.bl _)
  have hgX : g ≠ X := by omega
  have HX := hide hX
  have HW1 := hide hW1
  clear hX hW1
  go_upto_region 1 with (fail)
  rw [HW1.out, HX.out]
  have x0 := R1.out.cell (k := 0) rfl
  have x1 := R1.out.cell (k := 1) rfl
  have x2 := R1.out.cell (k := 2) rfl
  obtain ⟨r0, r1⟩ := H1.out.reg ha
  obtain ⟨q0, q1⟩ := H1.out.reg hb
  have z0 := H1.out.row.free (a * 2)
  have z1 := H1.out.row.free (a * 2 + 1)
  rw [hV.out] at q0 q1
  go_wp2_with (first | go_region)
  go_end0
  exact ⟨rfl, (H1.out.setReg ha V).drewN 1, below_draws (B1.out.trans (H1.out.setRegB a _ _)) 1⟩
set_option maxHeartbeats 4000000 in
theorem compute_11 (a b c V U : Nat) (w : World) (ha : a < 8) (hb : b < 8) (hV : Hid (s.regs.getD b 0 = V)) (hc : c < 8) (hU : Hid (s.regs.getD c 0 = U)) (h : Hid (MRaw w g base vi vt vf vs zs s)) :
    Calls Tryd.prog 83 #[.pointer (some ⟨g, 0, none⟩), iv 11 (a : Int) (b : Int) (c : Int) 0] w fun e w' => e = .returned (.tuple #[]) ∧ MRaw w' g base vi vt vf vs zs (s.setR (a : Int) (pairV V U)) ∧ Below base w w' := by
  have hgl := h.out.gl
  go_enter Tryd.func83, Tryd.ntmps83
  obtain ⟨X, hX⟩ : ∃ X, w.heap.size = X := ⟨_, rfl⟩
  obtain ⟨W1, hW1⟩ : ∃ W1, w.alloc (.cells #[.int .i64 11, .int .i64 (a : Int), .int .i64 (b : Int), .int .i64 (c : Int), .int .u64 0] 65) = W1 := ⟨_, rfl⟩
  have R1 := hide (show Row W1 X 65 [.int .i64 11, .int .i64 (a : Int), .int .i64 (b : Int), .int .i64 (c : Int), .int .u64 0] by rw [← hW1, ← hX]; exact Row.new w _ _)
  have H1 := hide (show MRaw W1 g base vi vt vf vs zs s by rw [← hW1]; exact h.out.alloc _)
  have B1 := hide (show Below base w W1 by rw [← hW1]; exact (Below.refl _ _).alloc h.out.bl _)
  have hgX : g ≠ X := by omega
  have HX := hide hX
  have HW1 := hide hW1
  clear hX hW1
  go_upto_region 1 with (fail)
  rw [HW1.out, HX.out]
  have x0 := R1.out.cell (k := 0) rfl
  have x1 := R1.out.cell (k := 1) rfl
  have x2 := R1.out.cell (k := 2) rfl
  obtain ⟨q0, q1⟩ := H1.out.reg hb
  rw [hV.out] at q0 q1
  have x3 := R1.out.cell (k := 3) rfl
  obtain ⟨p0, p1⟩ := H1.out.reg hc
  rw [hU.out] at p0 p1
  go_upto_region 8 with (fail)
  have z0 := H1.out.row.free (a * 2)
  have z1 := H1.out.row.free (a * 2 + 1)
  obtain ⟨r0, r1⟩ := H1.out.reg ha
  have cf := fun q => pair_any V U (W1.drewN q)
  have key : ∀ w5 : World, Below W1.heap.size W1 w5 → MRaw ((w5.setCell ⟨g, a * 2, none⟩ (.int .u64 (lo (pairV V U)))).setCell ⟨g, a * 2 + 1, none⟩ (.int .u64 (hi (pairV V U)))) g base vi vt vf vs zs (s.setR (a : Int) (pairV V U)) ∧ Below base w ((w5.setCell ⟨g, a * 2, none⟩ (.int .u64 (lo (pairV V U)))).setCell ⟨g, a * 2 + 1, none⟩ (.int .u64 (hi (pairV V U)))) := fun w5 hb5 =>
    ⟨(H1.out.call hb5).setReg ha (pairV V U), (B1.out.trans (hb5.mono H1.out.bl)).trans ((H1.out.call hb5).setRegB a _ _)⟩
  have KEY := hide key
  clear key
  have y1 := fun p : After W1 => after_cell x1 p
  have y2 := fun p : After W1 => after_cell x2 p
  have y3 := fun p : After W1 => after_cell x3 p
  have y4 := fun p : After W1 => after_cell q0 p
  have y5 := fun p : After W1 => after_cell q1 p
  have y6 := fun p : After W1 => after_cell p0 p
  have y7 := fun p : After W1 => after_cell p1 p
  refine wp_region_last 21 (by kernel_rfl) rfl rfl (by kernel_rfl) (by kernel_rfl) (by kernel_rfl) (C := fun w' => ∃ p : After W1, w' = p.w) ⟨⟨W1.drew, (Below.refl _ _).drew⟩, rfl⟩ ?_
  dsimp only [List.take_succ_cons, List.take_zero]
  repeat (go_big_quiet_step ((first | (go_at_call 112; with_reducible exact after_of (pair_any V U _)))))
  refine wpQuiet_nil ?_
  intro _ hw'
  obtain ⟨p1, hw''⟩ := hw'
  subst hw''
  obtain ⟨r0, r1⟩ := (H1.out.call p1.b).reg ha
  have z0 := (H1.out.call p1.b).row.free (a * 2)
  have z1 := (H1.out.call p1.b).row.free (a * 2 + 1)
  go_wp2_with fail
  go_end0
  exact ⟨rfl, KEY.out _ p1.b⟩
set_option maxHeartbeats 4000000 in
theorem compute_12 (a b V : Nat) (w : World) (ha : a < 8) (hb : b < 8) (hV : Hid (s.regs.getD b 0 = V)) (h : Hid (MRaw w g base vi vt vf vs zs s)) :
    Calls Tryd.prog 83 #[.pointer (some ⟨g, 0, none⟩), iv 12 (a : Int) (b : Int) 0 0] w fun e w' => e = .returned (.tuple #[]) ∧ MRaw w' g base vi vt vf vs zs (s.setR (a : Int) (highV V)) ∧ Below base w w' := by
  have hgl := h.out.gl
  go_enter Tryd.func83, Tryd.ntmps83
  obtain ⟨X, hX⟩ : ∃ X, w.heap.size = X := ⟨_, rfl⟩
  obtain ⟨W1, hW1⟩ : ∃ W1, w.alloc (.cells #[.int .i64 12, .int .i64 (a : Int), .int .i64 (b : Int), .int .i64 0, .int .u64 0] 65) = W1 := ⟨_, rfl⟩
  have R1 := hide (show Row W1 X 65 [.int .i64 12, .int .i64 (a : Int), .int .i64 (b : Int), .int .i64 0, .int .u64 0] by rw [← hW1, ← hX]; exact Row.new w _ _)
  have H1 := hide (show MRaw W1 g base vi vt vf vs zs s by rw [← hW1]; exact h.out.alloc _)
  have B1 := hide (show Below base w W1 by rw [← hW1]; exact (Below.refl _ _).alloc h.out.bl _)
  have hgX : g ≠ X := by omega
  have HX := hide hX
  have HW1 := hide hW1
  clear hX hW1
  go_upto_region 1 with (fail)
  rw [HW1.out, HX.out]
  have x0 := R1.out.cell (k := 0) rfl
  have x1 := R1.out.cell (k := 1) rfl
  have x2 := R1.out.cell (k := 2) rfl
  obtain ⟨q0, q1⟩ := H1.out.reg hb
  rw [hV.out] at q0 q1
  go_upto_region 10 with (fail)
  have z0 := H1.out.row.free (a * 2)
  have z1 := H1.out.row.free (a * 2 + 1)
  obtain ⟨r0, r1⟩ := H1.out.reg ha
  have cf := fun q => high_any V (W1.drewN q)
  have key : ∀ w5 : World, Below W1.heap.size W1 w5 → MRaw ((w5.setCell ⟨g, a * 2, none⟩ (.int .u64 (lo (highV V)))).setCell ⟨g, a * 2 + 1, none⟩ (.int .u64 (hi (highV V)))) g base vi vt vf vs zs (s.setR (a : Int) (highV V)) ∧ Below base w ((w5.setCell ⟨g, a * 2, none⟩ (.int .u64 (lo (highV V)))).setCell ⟨g, a * 2 + 1, none⟩ (.int .u64 (hi (highV V)))) := fun w5 hb5 =>
    ⟨(H1.out.call hb5).setReg ha (highV V), (B1.out.trans (hb5.mono H1.out.bl)).trans ((H1.out.call hb5).setRegB a _ _)⟩
  have KEY := hide key
  clear key
  have y1 := fun p : After W1 => after_cell x1 p
  have y2 := fun p : After W1 => after_cell x2 p
  clear r0 r1
  have y4 := fun p : After W1 => after_cell q0 p
  have y5 := fun p : After W1 => after_cell q1 p
  clear z0
  clear z1
  refine wp_region_last 14 (by kernel_rfl) rfl rfl (by kernel_rfl) (by kernel_rfl) (by kernel_rfl) (C := fun w' => ∃ p : After W1, w' = p.w) ⟨⟨W1.drew, (Below.refl _ _).drew⟩, rfl⟩ ?_
  dsimp only [List.take_succ_cons, List.take_zero]
  repeat (go_big_quiet_step ((first | (go_at_call 113; with_reducible exact after_of (high_any V _)))))
  refine wpQuiet_nil ?_
  intro _ hw'
  obtain ⟨p1, hw''⟩ := hw'
  subst hw''
  obtain ⟨r0, r1⟩ := (H1.out.call p1.b).reg ha
  have z0 := (H1.out.call p1.b).row.free (a * 2)
  have z1 := (H1.out.call p1.b).row.free (a * 2 + 1)
  go_wp2_with fail
  go_end0
  exact ⟨rfl, KEY.out _ p1.b⟩
end
end Go.Proofs.YtlkcjjalkdlicaaDoor
end
