import Derived.Test.YtipjeihfhnilcaaDoorMLast
import Derived.Test.YtipjeihfhnilcaaDoorMVszo
set_option linter.unusedVariables false
set_option linter.unusedSimpArgs false
section
/-
  The contracts of the core's Execute at Const, Copy, Pair and High. Conditions: those of the types.
-/
namespace Go.Proofs.YtipjeihfhnilcaaDoor
open Go.RowKit

section
variable {g base fu : Nat} {T : TypeId} {vi vt : Value} {rest : List Value} {c : Co}
/-- Where Execute's instruction lies. -/
theorem exec_box (w : World) (op a b d m : Int) (h : Hid (CoAt w g base T fu vi vt rest c)) : ∃ W1, w.alloc (.cells #[.int .i64 op, .int .i64 a, .int .i64 b, .int .i64 d, .int .u64 m] 48) = W1 ∧ Hid (Row W1 w.heap.size 48 [.int .i64 op, .int .i64 a, .int .i64 b, .int .i64 d, .int .u64 m]) ∧ Hid (CoAt W1 g base T fu vi vt rest c) ∧ Hid (JKp w W1 g vt vt) :=
  ⟨_, rfl, hide (Row.new w _ _), hide (h.out.alloc _), hide (JKp.of_below (below1 w _) g vt)⟩

set_option maxRecDepth 100000 in
set_option maxHeartbeats 4000000 in
theorem exec_0 (a b d m : Int) (w : World) (hm : 0 ≤ m ∧ m ≤ 18446744073709551615) (h : Hid (CoAt w g base T fu vi vt rest c)) :
    Calls Tryd.prog 42 #[.pointer (some ⟨g, 0, none⟩), iv 0 a b d m] w fun e w' => e = .returned (.tuple #[]) ∧ CoAt w' g base T fu vi vt rest (c.setR a m.toNat) ∧ JKp w w' g vt vt := by
  obtain ⟨W1, hW1, R1, H1, K1⟩ := exec_box w 0 a b d m h
  have HW1 := hide hW1
  clear hW1
  have x0 := R1.out.cell (k := 0) rfl
  have x1 := R1.out.cell (k := 1) rfl
  have x2 := R1.out.cell (k := 2) rfl
  have x3 := R1.out.cell (k := 3) rfl
  have x4 := R1.out.cell (k := 4) rfl
  obtain ⟨e1, e2⟩ := lo_small hm
  obtain ⟨V, hV⟩ : ∃ V, m.toNat = V := ⟨_, rfl⟩
  rw [hV] at e1 e2 ⊢
  have cs := coSet_any a V W1 H1
  rw [show vv V = .agg #[.int .u64 m, .int .u64 0] by rw [e2]; conv => rhs; rw [e1]] at cs
  clear hV e1 e2 hm
  go_enter Tryd.func42, Tryd.ntmps42
  go_upto_region 1 with (fail)
  rw [HW1.out]
  clear HW1
  go_wp2_with fail
  refine cs.mono ?_
  rintro e w5 ⟨rfl, h5, k5⟩
  have H5 := hide h5
  have K5 := hide k5
  clear h5 k5 cs
  go_wp2_with fail
  go_end0
  exact ⟨rfl, H5.out, K1.out.trans K5.out⟩
set_option maxRecDepth 100000 in
set_option maxHeartbeats 4000000 in
theorem exec_1 (a b d m : Int) (w : World) (h : Hid (CoAt w g base T fu vi vt rest c)) :
    Calls Tryd.prog 42 #[.pointer (some ⟨g, 0, none⟩), iv 1 a b d m] w fun e w' => e = .returned (.tuple #[]) ∧ CoAt w' g base T fu vi vt rest (c.setR a (c.reg b)) ∧ JKp w w' g vt vt := by
  obtain ⟨W1, hW1, R1, H1, K1⟩ := exec_box w 1 a b d m h
  have HW1 := hide hW1
  clear hW1
  have x0 := R1.out.cell (k := 0) rfl
  have x1 := R1.out.cell (k := 1) rfl
  have x2 := R1.out.cell (k := 2) rfl
  have x3 := R1.out.cell (k := 3) rfl
  have x4 := R1.out.cell (k := 4) rfl
  obtain ⟨V, hV⟩ : ∃ V, c.reg b = V := ⟨_, rfl⟩
  rw [hV]
  have rV : ∀ p : After W1, Calls Tryd.prog 49 #[.pointer (some ⟨g, 0, none⟩), .int .i64 b] p.w fun e w' => e = .returned (vv V) ∧ Below p.w.heap.size p.w w' := fun p => by rw [← hV]; exact coReg_any b p.w (hide (H1.out.call p.b))
  have rVh := hide rV
  clear rV hV
  go_enter Tryd.func42, Tryd.ntmps42
  go_upto_region 1 with (fail)
  rw [HW1.out]
  clear HW1
  go_upto_region 6 with (fail)
  have y1 := fun p : After W1 => after_cell x1 p
  have y2 := fun p : After W1 => after_cell x2 p
  have y3 := fun p : After W1 => after_cell x3 p
  clear x0 x4
  refine wp_region_last 7 (by kernel_rfl) rfl rfl (by kernel_rfl) (by kernel_rfl) (by kernel_rfl) (C := fun w' => ∃ p : After W1, w' = p.w) ⟨⟨W1.drew, (Below.refl _ _).drew⟩, rfl⟩ ?_
  dsimp only [List.take_succ_cons, List.take_zero]
  repeat (go_big_quiet_step ((first | (go_at_call 49; with_reducible exact after_of (rVh.out _)))))
  refine wpQuiet_nil ?_
  intro _ hw'
  obtain ⟨p1, hw''⟩ := hw'
  subst hw''
  have cs := coSet_any a (V) p1.w (hide (H1.out.call p1.b))
  go_wp2_with fail
  refine cs.mono ?_
  rintro e w5 ⟨rfl, h5, k5⟩
  have H5 := hide h5
  have K5 := hide k5
  clear h5 k5 cs
  go_wp2_with fail
  go_end0
  exact ⟨rfl, H5.out, (K1.out.trans (JKp.of_below p1.b g vt)).trans K5.out⟩
set_option maxRecDepth 100000 in
set_option maxHeartbeats 4000000 in
theorem exec_11 (a b d m : Int) (w : World) (h : Hid (CoAt w g base T fu vi vt rest c)) :
    Calls Tryd.prog 42 #[.pointer (some ⟨g, 0, none⟩), iv 11 a b d m] w fun e w' => e = .returned (.tuple #[]) ∧ CoAt w' g base T fu vi vt rest (c.setR a (pairV (c.reg b) (c.reg d))) ∧ JKp w w' g vt vt := by
  obtain ⟨W1, hW1, R1, H1, K1⟩ := exec_box w 11 a b d m h
  have HW1 := hide hW1
  clear hW1
  have x0 := R1.out.cell (k := 0) rfl
  have x1 := R1.out.cell (k := 1) rfl
  have x2 := R1.out.cell (k := 2) rfl
  have x3 := R1.out.cell (k := 3) rfl
  have x4 := R1.out.cell (k := 4) rfl
  obtain ⟨V, hV⟩ : ∃ V, c.reg b = V := ⟨_, rfl⟩
  obtain ⟨U, hU⟩ : ∃ V, c.reg d = V := ⟨_, rfl⟩
  rw [hV]
  rw [hU]
  have rV : ∀ p : After W1, Calls Tryd.prog 49 #[.pointer (some ⟨g, 0, none⟩), .int .i64 b] p.w fun e w' => e = .returned (vv V) ∧ Below p.w.heap.size p.w w' := fun p => by rw [← hV]; exact coReg_any b p.w (hide (H1.out.call p.b))
  have rVh := hide rV
  clear rV hV
  have rU : ∀ p : After W1, Calls Tryd.prog 49 #[.pointer (some ⟨g, 0, none⟩), .int .i64 d] p.w fun e w' => e = .returned (vv U) ∧ Below p.w.heap.size p.w w' := fun p => by rw [← hU]; exact coReg_any d p.w (hide (H1.out.call p.b))
  have rUh := hide rU
  clear rU hU
  go_enter Tryd.func42, Tryd.ntmps42
  go_upto_region 1 with (fail)
  rw [HW1.out]
  clear HW1
  go_upto_region 8 with (fail)
  have y1 := fun p : After W1 => after_cell x1 p
  have y2 := fun p : After W1 => after_cell x2 p
  have y3 := fun p : After W1 => after_cell x3 p
  clear x0 x4
  refine wp_region_last 12 (by kernel_rfl) rfl rfl (by kernel_rfl) (by kernel_rfl) (by kernel_rfl) (C := fun w' => ∃ p : After W1, w' = p.w) ⟨⟨W1.drew, (Below.refl _ _).drew⟩, rfl⟩ ?_
  dsimp only [List.take_succ_cons, List.take_zero]
  repeat (go_big_quiet_step ((first | (go_at_call 49; with_reducible exact after_of (rVh.out _)) | (go_at_call 49; with_reducible exact after_of (rUh.out _)) | (go_at_call 54; with_reducible exact after_of (pair_any V U _)))))
  refine wpQuiet_nil ?_
  intro _ hw'
  obtain ⟨p1, hw''⟩ := hw'
  subst hw''
  have cs := coSet_any a (pairV V U) p1.w (hide (H1.out.call p1.b))
  go_wp2_with fail
  refine cs.mono ?_
  rintro e w5 ⟨rfl, h5, k5⟩
  have H5 := hide h5
  have K5 := hide k5
  clear h5 k5 cs
  go_wp2_with fail
  go_end0
  exact ⟨rfl, H5.out, (K1.out.trans (JKp.of_below p1.b g vt)).trans K5.out⟩
set_option maxRecDepth 100000 in
set_option maxHeartbeats 4000000 in
theorem exec_12 (a b d m : Int) (w : World) (h : Hid (CoAt w g base T fu vi vt rest c)) :
    Calls Tryd.prog 42 #[.pointer (some ⟨g, 0, none⟩), iv 12 a b d m] w fun e w' => e = .returned (.tuple #[]) ∧ CoAt w' g base T fu vi vt rest (c.setR a (highV (c.reg b))) ∧ JKp w w' g vt vt := by
  obtain ⟨W1, hW1, R1, H1, K1⟩ := exec_box w 12 a b d m h
  have HW1 := hide hW1
  clear hW1
  have x0 := R1.out.cell (k := 0) rfl
  have x1 := R1.out.cell (k := 1) rfl
  have x2 := R1.out.cell (k := 2) rfl
  have x3 := R1.out.cell (k := 3) rfl
  have x4 := R1.out.cell (k := 4) rfl
  obtain ⟨V, hV⟩ : ∃ V, c.reg b = V := ⟨_, rfl⟩
  rw [hV]
  have rV : ∀ p : After W1, Calls Tryd.prog 49 #[.pointer (some ⟨g, 0, none⟩), .int .i64 b] p.w fun e w' => e = .returned (vv V) ∧ Below p.w.heap.size p.w w' := fun p => by rw [← hV]; exact coReg_any b p.w (hide (H1.out.call p.b))
  have rVh := hide rV
  clear rV hV
  go_enter Tryd.func42, Tryd.ntmps42
  go_upto_region 1 with (fail)
  rw [HW1.out]
  clear HW1
  go_upto_region 10 with (fail)
  have y1 := fun p : After W1 => after_cell x1 p
  have y2 := fun p : After W1 => after_cell x2 p
  have y3 := fun p : After W1 => after_cell x3 p
  clear x0 x4
  refine wp_region_last 8 (by kernel_rfl) rfl rfl (by kernel_rfl) (by kernel_rfl) (by kernel_rfl) (C := fun w' => ∃ p : After W1, w' = p.w) ⟨⟨W1.drew, (Below.refl _ _).drew⟩, rfl⟩ ?_
  dsimp only [List.take_succ_cons, List.take_zero]
  repeat (go_big_quiet_step ((first | (go_at_call 49; with_reducible exact after_of (rVh.out _)) | (go_at_call 55; with_reducible exact after_of (high_any V _)))))
  refine wpQuiet_nil ?_
  intro _ hw'
  obtain ⟨p1, hw''⟩ := hw'
  subst hw''
  have cs := coSet_any a (highV V) p1.w (hide (H1.out.call p1.b))
  go_wp2_with fail
  refine cs.mono ?_
  rintro e w5 ⟨rfl, h5, k5⟩
  have H5 := hide h5
  have K5 := hide k5
  clear h5 k5 cs
  go_wp2_with fail
  go_end0
  exact ⟨rfl, H5.out, (K1.out.trans (JKp.of_below p1.b g vt)).trans K5.out⟩
end
end Go.Proofs.YtipjeihfhnilcaaDoor
end
