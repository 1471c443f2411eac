import Derived.Test.YtlcmcmocjbeocaaGreatDoorMPmem
import Derived.Test.YtlcmcmocjbeocaaGreatDoorMBitsm
import Derived.Test.YtlcmcmocjbeocaaGreatDoorMRct
import Derived.Deep.DeepCutAuto
import Derived.Outline
import Derived.Deep.RegionHeld3
import Derived.Deep.DrawnRows
import Derived.BigQuiet
set_option linter.unusedVariables false
set_option linter.unusedSimpArgs false
section
/-
  The contracts of mach.Reads and Writes: what an instruction reads and writes. Conditions: those of the types.
-/
namespace Go.Proofs.YtlcmcmocjbeocaaGreatDoor
open Go.RowKit

set_option maxHeartbeats 400000 in
theorem reads_any (P S : Int) (A : Option Addr) (n cp : Nat) (o a b c m : Int) (w : World) :
    Calls Tryz.prog 188 #[mv P S A n cp, iv o a b c m] w fun e w' => e = .returned (.tuple #[pv (rdI ⟨o, a, b, c, m⟩).1 (rdI ⟨o, a, b, c, m⟩).2, .bool (rdB o)]) ∧ Below w.heap.size w w' := by
  by_cases h1 : o = 15
  · subst h1
    obtain ⟨W, hW, hbW, hsW, r0, r1, r2⟩ := boxes3 w [.int .i64 P, .int .i64 S, .slice A n cp] [.int .i64 15, .int .i64 a, .int .i64 b, .int .i64 c, .int .u64 m] [.int .i64 0, .int .i64 0] 90 64 167
    have HW := hide hW
    have HB := hide hbW
    have HS := hide hsW
    have R := hide r2
    have x0 := r1.cell (k := 0) rfl
    have x1 := r1.cell (k := 1) rfl
    have x2 := r1.cell (k := 2) rfl
    have x3 := r1.cell (k := 3) rfl
    have y0 := r2.free 0
    have y1 := r2.free 1
    have z0 := r2.cell (k := 0) rfl
    have z1 := r2.cell (k := 1) rfl
    clear hW hbW hsW r0 r1 r2
    go_enter Tryz.func188, Tryz.ntmps188
    go_upto_region 1 with (fail)
    rw [HW.out]
    clear HW
    go_wp2_with fail
    obtain ⟨W7, hW7⟩ : ∃ V, (W.setCell ⟨w.heap.size + 1 + 1, 0, none⟩ (.int .i64 b)).setCell ⟨w.heap.size + 1 + 1, 1, none⟩ (.int .i64 c) = V := ⟨_, rfl⟩
    have R7 : Row W7 (w.heap.size + 1 + 1) 167 [.int .i64 b, .int .i64 c] := by rw [← hW7]; exact (R.out.set_ 0 _).set_ 1 _
    have B7 : Below w.heap.size w W7 := by rw [← hW7]; exact (HB.out.setCell (p := ⟨w.heap.size + 1 + 1, 0, none⟩) (by simp; omega) _).setCell (p := ⟨w.heap.size + 1 + 1, 1, none⟩) (by simp; omega) _
    rw [hW7]
    have u0 := R7.cell (k := 0) rfl
    have u1 := R7.cell (k := 1) rfl
    refine bodyPost_ret (v := .tuple #[pv b c, .bool true]) (by simp [results, Tryz.results188, go_sem, u0, u1]) rfl ?_
    exact ⟨rfl, B7⟩
  · by_cases h2 : o = 17
    · subst h2
      obtain ⟨W, hW, hbW, hsW, r0, r1, r2⟩ := boxes3 w [.int .i64 P, .int .i64 S, .slice A n cp] [.int .i64 17, .int .i64 a, .int .i64 b, .int .i64 c, .int .u64 m] [.int .i64 0, .int .i64 0] 90 64 167
      have HW := hide hW
      have HB := hide hbW
      have HS := hide hsW
      have R := hide r2
      have x0 := r1.cell (k := 0) rfl
      have x1 := r1.cell (k := 1) rfl
      have x2 := r1.cell (k := 2) rfl
      have x3 := r1.cell (k := 3) rfl
      have y0 := r2.free 0
      have y1 := r2.free 1
      have z0 := r2.cell (k := 0) rfl
      have z1 := r2.cell (k := 1) rfl
      clear hW hbW hsW r0 r1 r2
      go_enter Tryz.func188, Tryz.ntmps188
      go_upto_region 1 with (fail)
      rw [HW.out]
      clear HW
      go_wp2_with fail
      obtain ⟨W7, hW7⟩ : ∃ V, (W.setCell ⟨w.heap.size + 1 + 1, 0, none⟩ (.int .i64 b)).setCell ⟨w.heap.size + 1 + 1, 1, none⟩ (.int .i64 c) = V := ⟨_, rfl⟩
      have R7 : Row W7 (w.heap.size + 1 + 1) 167 [.int .i64 b, .int .i64 c] := by rw [← hW7]; exact (R.out.set_ 0 _).set_ 1 _
      have B7 : Below w.heap.size w W7 := by rw [← hW7]; exact (HB.out.setCell (p := ⟨w.heap.size + 1 + 1, 0, none⟩) (by simp; omega) _).setCell (p := ⟨w.heap.size + 1 + 1, 1, none⟩) (by simp; omega) _
      rw [hW7]
      have u0 := R7.cell (k := 0) rfl
      have u1 := R7.cell (k := 1) rfl
      refine bodyPost_ret (v := .tuple #[pv b c, .bool true]) (by simp [results, Tryz.results188, go_sem, u0, u1]) rfl ?_
      exact ⟨rfl, B7⟩
    · have b1 : (o == 15) = false := by simpa using h1
      have b2 : (o == 17) = false := by simpa using h2
      have d1 : (o != 15) = true := by simpa using h1
      have d2 : (o != 17) = true := by simpa using h2
      have e := hide (show rdB o = false by simp [rdB, h1, h2])
      have e2 := hide (show rdI ⟨o, a, b, c, m⟩ = (0, 0) by unfold rdI; rw [show rdB (Ins.op ⟨o, a, b, c, m⟩) = false from e.out]; rfl)
      clear h1 h2
      obtain ⟨W, hW, hbW, hsW, r0, r1, r2⟩ := boxes3 w [.int .i64 P, .int .i64 S, .slice A n cp] [.int .i64 o, .int .i64 a, .int .i64 b, .int .i64 c, .int .u64 m] [.int .i64 0, .int .i64 0] 90 64 167
      have HW := hide hW
      have HB := hide hbW
      have HS := hide hsW
      have R := hide r2
      have x0 := r1.cell (k := 0) rfl
      have x1 := r1.cell (k := 1) rfl
      have x2 := r1.cell (k := 2) rfl
      have x3 := r1.cell (k := 3) rfl
      have y0 := r2.free 0
      have y1 := r2.free 1
      have z0 := r2.cell (k := 0) rfl
      have z1 := r2.cell (k := 1) rfl
      clear hW hbW hsW r0 r1 r2
      go_enter Tryz.func188, Tryz.ntmps188
      go_upto_region 1 with (fail)
      rw [HW.out]
      clear HW
      go_wp2_with fail
      obtain ⟨W7, hW7⟩ : ∃ V, (W.setCell ⟨w.heap.size + 1 + 1, 0, none⟩ (.int .i64 0)).setCell ⟨w.heap.size + 1 + 1, 1, none⟩ (.int .i64 0) = V := ⟨_, rfl⟩
      have R7 : Row W7 (w.heap.size + 1 + 1) 167 [.int .i64 0, .int .i64 0] := by rw [← hW7]; exact (R.out.set_ 0 _).set_ 1 _
      have B7 : Below w.heap.size w W7 := by rw [← hW7]; exact (HB.out.setCell (p := ⟨w.heap.size + 1 + 1, 0, none⟩) (by simp; omega) _).setCell (p := ⟨w.heap.size + 1 + 1, 1, none⟩) (by simp; omega) _
      rw [hW7]
      have u0 := R7.cell (k := 0) rfl
      have u1 := R7.cell (k := 1) rfl
      refine bodyPost_ret (v := .tuple #[pv 0 0, .bool false]) (by simp [results, Tryz.results188, go_sem, u0, u1]) rfl ?_
      exact ⟨by rw [e.out, e2.out], B7⟩
set_option maxHeartbeats 400000 in
theorem writes_any (P S : Int) (A : Option Addr) (n cp : Nat) (o a b c m : Int) (w : World) :
    Calls Tryz.prog 189 #[mv P S A n cp, iv o a b c m] w fun e w' => e = .returned (.tuple #[pv (wrI ⟨o, a, b, c, m⟩).1 (wrI ⟨o, a, b, c, m⟩).2, .bool (wrB o)]) ∧ Below w.heap.size w w' := by
  by_cases h1 : o = 16
  · subst h1
    obtain ⟨W, hW, hbW, hsW, r0, r1, r2⟩ := boxes3 w [.int .i64 P, .int .i64 S, .slice A n cp] [.int .i64 16, .int .i64 a, .int .i64 b, .int .i64 c, .int .u64 m] [.int .i64 0, .int .i64 0] 90 64 167
    have HW := hide hW
    have HB := hide hbW
    have HS := hide hsW
    have R := hide r2
    have x0 := r1.cell (k := 0) rfl
    have x1 := r1.cell (k := 1) rfl
    have x2 := r1.cell (k := 2) rfl
    have x3 := r1.cell (k := 3) rfl
    have y0 := r2.free 0
    have y1 := r2.free 1
    have z0 := r2.cell (k := 0) rfl
    have z1 := r2.cell (k := 1) rfl
    clear hW hbW hsW r0 r1 r2
    go_enter Tryz.func189, Tryz.ntmps189
    go_upto_region 1 with (fail)
    rw [HW.out]
    clear HW
    go_wp2_with fail
    obtain ⟨W7, hW7⟩ : ∃ V, (W.setCell ⟨w.heap.size + 1 + 1, 0, none⟩ (.int .i64 a)).setCell ⟨w.heap.size + 1 + 1, 1, none⟩ (.int .i64 c) = V := ⟨_, rfl⟩
    have R7 : Row W7 (w.heap.size + 1 + 1) 167 [.int .i64 a, .int .i64 c] := by rw [← hW7]; exact (R.out.set_ 0 _).set_ 1 _
    have B7 : Below w.heap.size w W7 := by rw [← hW7]; exact (HB.out.setCell (p := ⟨w.heap.size + 1 + 1, 0, none⟩) (by simp; omega) _).setCell (p := ⟨w.heap.size + 1 + 1, 1, none⟩) (by simp; omega) _
    rw [hW7]
    have u0 := R7.cell (k := 0) rfl
    have u1 := R7.cell (k := 1) rfl
    refine bodyPost_ret (v := .tuple #[pv a c, .bool true]) (by simp [results, Tryz.results189, go_sem, u0, u1]) rfl ?_
    exact ⟨rfl, B7⟩
  · by_cases h2 : o = 17
    · subst h2
      obtain ⟨W, hW, hbW, hsW, r0, r1, r2⟩ := boxes3 w [.int .i64 P, .int .i64 S, .slice A n cp] [.int .i64 17, .int .i64 a, .int .i64 b, .int .i64 c, .int .u64 m] [.int .i64 0, .int .i64 0] 90 64 167
      have HW := hide hW
      have HB := hide hbW
      have HS := hide hsW
      have R := hide r2
      have x0 := r1.cell (k := 0) rfl
      have x1 := r1.cell (k := 1) rfl
      have x2 := r1.cell (k := 2) rfl
      have x3 := r1.cell (k := 3) rfl
      have y0 := r2.free 0
      have y1 := r2.free 1
      have z0 := r2.cell (k := 0) rfl
      have z1 := r2.cell (k := 1) rfl
      clear hW hbW hsW r0 r1 r2
      go_enter Tryz.func189, Tryz.ntmps189
      go_upto_region 1 with (fail)
      rw [HW.out]
      clear HW
      go_wp2_with fail
      obtain ⟨W7, hW7⟩ : ∃ V, (W.setCell ⟨w.heap.size + 1 + 1, 0, none⟩ (.int .i64 a)).setCell ⟨w.heap.size + 1 + 1, 1, none⟩ (.int .i64 c) = V := ⟨_, rfl⟩
      have R7 : Row W7 (w.heap.size + 1 + 1) 167 [.int .i64 a, .int .i64 c] := by rw [← hW7]; exact (R.out.set_ 0 _).set_ 1 _
      have B7 : Below w.heap.size w W7 := by rw [← hW7]; exact (HB.out.setCell (p := ⟨w.heap.size + 1 + 1, 0, none⟩) (by simp; omega) _).setCell (p := ⟨w.heap.size + 1 + 1, 1, none⟩) (by simp; omega) _
      rw [hW7]
      have u0 := R7.cell (k := 0) rfl
      have u1 := R7.cell (k := 1) rfl
      refine bodyPost_ret (v := .tuple #[pv a c, .bool true]) (by simp [results, Tryz.results189, go_sem, u0, u1]) rfl ?_
      exact ⟨rfl, B7⟩
    · have b1 : (o == 16) = false := by simpa using h1
      have b2 : (o == 17) = false := by simpa using h2
      have d1 : (o != 16) = true := by simpa using h1
      have d2 : (o != 17) = true := by simpa using h2
      have e := hide (show wrB o = false by simp [wrB, h1, h2])
      have e2 := hide (show wrI ⟨o, a, b, c, m⟩ = (0, 0) by unfold wrI; rw [show wrB (Ins.op ⟨o, a, b, c, m⟩) = false from e.out]; rfl)
      clear h1 h2
      obtain ⟨W, hW, hbW, hsW, r0, r1, r2⟩ := boxes3 w [.int .i64 P, .int .i64 S, .slice A n cp] [.int .i64 o, .int .i64 a, .int .i64 b, .int .i64 c, .int .u64 m] [.int .i64 0, .int .i64 0] 90 64 167
      have HW := hide hW
      have HB := hide hbW
      have HS := hide hsW
      have R := hide r2
      have x0 := r1.cell (k := 0) rfl
      have x1 := r1.cell (k := 1) rfl
      have x2 := r1.cell (k := 2) rfl
      have x3 := r1.cell (k := 3) rfl
      have y0 := r2.free 0
      have y1 := r2.free 1
      have z0 := r2.cell (k := 0) rfl
      have z1 := r2.cell (k := 1) rfl
      clear hW hbW hsW r0 r1 r2
      go_enter Tryz.func189, Tryz.ntmps189
      go_upto_region 1 with (fail)
      rw [HW.out]
      clear HW
      go_wp2_with fail
      obtain ⟨W7, hW7⟩ : ∃ V, (W.setCell ⟨w.heap.size + 1 + 1, 0, none⟩ (.int .i64 0)).setCell ⟨w.heap.size + 1 + 1, 1, none⟩ (.int .i64 0) = V := ⟨_, rfl⟩
      have R7 : Row W7 (w.heap.size + 1 + 1) 167 [.int .i64 0, .int .i64 0] := by rw [← hW7]; exact (R.out.set_ 0 _).set_ 1 _
      have B7 : Below w.heap.size w W7 := by rw [← hW7]; exact (HB.out.setCell (p := ⟨w.heap.size + 1 + 1, 0, none⟩) (by simp; omega) _).setCell (p := ⟨w.heap.size + 1 + 1, 1, none⟩) (by simp; omega) _
      rw [hW7]
      have u0 := R7.cell (k := 0) rfl
      have u1 := R7.cell (k := 1) rfl
      refine bodyPost_ret (v := .tuple #[pv 0 0, .bool false]) (by simp [results, Tryz.results189, go_sem, u0, u1]) rfl ?_
      exact ⟨by rw [e.out, e2.out], B7⟩
end Go.Proofs.YtlcmcmocjbeocaaGreatDoor
end

section
/-
  The contracts of extent.bound and Add. Conditions: those of the types.
-/
namespace Go.Proofs.YtlcmcmocjbeocaaGreatDoor
open Go.RowKit

theorem bound_any (n : Int) (w : World) : Calls Tryz.prog 96 #[.int .i64 n] w fun e w' => e = .returned (.bool (bndB n)) ∧ w = w' := by
  go_enter Tryz.func96, Tryz.ntmps96
  by_cases h : 0 ≤ n
  · go_wp2
    go_ret
    exact ⟨ret_bool (by simp [bndB, h]), rfl⟩
  · go_wp2
    go_ret
    exact ⟨ret_bool (by simp [bndB]; omega), rfl⟩

set_option maxHeartbeats 400000 in
theorem add_any (x y : Int) (w : World) : Calls Tryz.prog 64 #[.int .i64 x, .int .i64 y] w fun e w' => e = .returned (.tuple #[.int .i64 (addV x y), .int .i64 (addE x y)]) ∧ w = w' := by
  have cx := bound_any x
  have cy := bound_any y
  cases hx : bndB x with
  | false =>
    obtain ⟨hv, he⟩ := add_bad (x := x) (y := y) (by rw [hx]; rfl)
    rw [hx] at cx
    have Hv := hide hv
    have He := hide he
    clear hx hv he
    go_enter Tryz.func64, Tryz.ntmps64
    go_wp2_with (go_at_call 96; refine (cx _).mono ?_; rintro e w' ⟨rfl, rfl⟩)
    go_ret2
    exact ⟨ret_two Hv.out.symm He.out.symm, rfl⟩
  | true =>
    cases hy : bndB y with
    | false =>
      obtain ⟨hv, he⟩ := add_bad (x := x) (y := y) (by rw [hx, hy]; rfl)
      rw [hx] at cx
      rw [hy] at cy
      have Hv := hide hv
      have He := hide he
      clear hx hy hv he
      go_enter Tryz.func64, Tryz.ntmps64
      go_wp2_with fail
      refine (cx _).mono ?_
      rintro e w' ⟨rfl, rfl⟩
      go_wp2_with fail
      refine (cy _).mono ?_
      rintro e w' ⟨rfl, rfl⟩
      go_wp2_with fail
      go_ret2
      exact ⟨ret_two Hv.out.symm He.out.symm, rfl⟩
    | true =>
      obtain ⟨x0, x1⟩ := bndB_iff.1 hx
      obtain ⟨y0, y1⟩ := bndB_iff.1 hy
      rw [hx] at cx
      rw [hy] at cy
      by_cases hs : x + y ≤ 2147483647
      · obtain ⟨hv, he⟩ := add_ok hx hy hs
        have Hv := hide hv
        have He := hide he
        clear hx hy hv he
        have hg : ¬ (2147483647 - y < x) := by omega
        go_enter Tryz.func64, Tryz.ntmps64
        go_wp2_with fail
        refine (cx _).mono ?_
        rintro e w' ⟨rfl, rfl⟩
        go_wp2_with fail
        refine (cy _).mono ?_
        rintro e w' ⟨rfl, rfl⟩
        go_wp2_with fail
        go_ret2
        exact ⟨ret_two Hv.out.symm He.out.symm, rfl⟩
      · obtain ⟨hv, he⟩ := add_great hx hy (by omega)
        have Hv := hide hv
        have He := hide he
        clear hx hy hv he
        have hg : 2147483647 - y < x := by omega
        go_enter Tryz.func64, Tryz.ntmps64
        go_wp2_with fail
        refine (cx _).mono ?_
        rintro e w' ⟨rfl, rfl⟩
        go_wp2_with fail
        refine (cy _).mono ?_
        rintro e w' ⟨rfl, rfl⟩
        go_wp2_with fail
        go_ret2
        exact ⟨ret_two Hv.out.symm He.out.symm, rfl⟩
end Go.Proofs.YtlcmcmocjbeocaaGreatDoor
end

section
/-
  The contracts of the functions on intervals: extent.right, end, Inside. Conditions: those of the types.
-/
namespace Go.Proofs.YtlcmcmocjbeocaaGreatDoor
open Go.RowKit
attribute [local go_sem ↓] Go.wp_at_zero Go.wp_at_succ

set_option maxHeartbeats 400000 in
theorem right_any (o s : Int) (w : World) : Calls Tryz.prog 196 #[pv o s] w fun e w' => e = .returned (.bool (rightB o s)) ∧ Below w.heap.size w w' := by
  have c := add_any o s
  have hr := hide (rightB_add o s)
  generalize addV o s = v at c
  generalize addE o s = x at c hr
  go_enter Tryz.func196, Tryz.ntmps196
  go_wp2_with fail
  refine (c _).mono ?_
  rintro e w' ⟨rfl, rfl⟩
  go_wp2_with fail
  go_ret
  exact ⟨ret_bool (by rw [← hr.out]; first | rfl | (by_cases h : x = 0 <;> simp [h])), below1 _ _⟩

theorem end_any (o s : Int) (w : World) (h0 : -9223372036854775808 ≤ o + s) (h1 : o + s ≤ 9223372036854775807) : Calls Tryz.prog 197 #[pv o s] w fun e w' => e = .returned (.int .i64 (o + s)) ∧ Below w.heap.size w w' := by
  go_enter Tryz.func197, Tryz.ntmps197
  go_wp2_with fail
  go_ret
  exact ⟨rfl, below1 _ _⟩

theorem inside_any (o s n : Int) (w : World) : Calls Tryz.prog 190 #[pv o s, .int .i64 n] w fun e w' => e = .returned (.bool (insB o s n)) ∧ Below w.heap.size w w' := by
  have c := right_any o s
  have r1 := Row.new w 167 [.int .i64 o, .int .i64 s]
  have f1 := r1.cell (k := 0) rfl
  have f2 := r1.cell (k := 1) rfl
  cases hr : rightB o s with
  | false =>
    rw [hr] at c
    have ho := hide (show insB o s n = false by simp [insB, hr])
    clear hr r1
    go_enter Tryz.func190, Tryz.ntmps190
    go_wp2_with fail
    refine (c _).mono ?_
    rintro e w1 ⟨rfl, hb1⟩
    go_wp2_with fail
    go_ret
    exact ⟨ret_bool ho.out.symm, below_call (below1 _ _) hb1⟩
  | true =>
    rw [hr] at c
    have ho := hide (show insB o s n = decide (o + s ≤ n) by simp [insB, hr])
    obtain ⟨b3, b4, b5⟩ := rightB_iff.1 hr
    clear hr r1
    go_enter Tryz.func190, Tryz.ntmps190
    go_wp2_with fail
    refine (c _).mono ?_
    rintro e w1 ⟨rfl, hb1⟩
    have g1 := keep_cellB hb1 f1
    have g2 := keep_cellB hb1 f2
    go_wp2_with fail
    refine (end_any o s _ (by omega) (by omega)).mono ?_
    rintro e w2 ⟨rfl, hb2⟩
    go_wp2_with fail
    go_ret
    exact ⟨ret_bool ho.out.symm, below_call (below_call (below1 _ _) hb1) hb2⟩

end Go.Proofs.YtlcmcmocjbeocaaGreatDoor
end

section
/-
  The contract of mach's method covers: whether an instruction reads and writes where it may. Condition: the frame's shape is right.
-/
namespace Go.Proofs.YtlcmcmocjbeocaaGreatDoor
open Go.RowKit

set_option maxHeartbeats 1000000 in
theorem covers_any (P S : Int) (A : Option Addr) (n cp : Nat) (N : Int) (o a b d m : Int) (w : World) (hP : 0 ≤ P ∧ P ≤ 8) (hS : 0 ≤ S ∧ S ≤ 2147483519) :
    Calls Tryz.prog 170 #[xv P S A n cp N, iv o a b d m] w fun e w' => e = .returned (.bool (covB P S ⟨o, a, b, d, m⟩)) ∧ Below w.heap.size w w' := by
  obtain ⟨p0, p1⟩ := hP
  obtain ⟨q0, q1⟩ := hS
  obtain ⟨W2, hW2, hb2, hs2, r0, r1⟩ := boxes2q w [.int .i64 P, .int .i64 S, .slice A n cp, .int .i64 N] [.int .i64 o, .int .i64 a, .int .i64 b, .int .i64 d, .int .u64 m] 187 64
  have HC := hide (show covB P S ⟨o, a, b, d, m⟩ = (insB (rdI ⟨o, a, b, d, m⟩).1 (rdI ⟨o, a, b, d, m⟩).2 (S + 16 * P) && insB (wrI ⟨o, a, b, d, m⟩).1 (wrI ⟨o, a, b, d, m⟩).2 S) from rfl)
  have c1 := reads_any P S A n cp o a b d m W2
  have c2 := fun W => writes_any P S A n cp o a b d m W
  obtain ⟨p, hp1⟩ : ∃ p, rdI ⟨o, a, b, d, m⟩ = p := ⟨_, rfl⟩
  obtain ⟨q, hp2⟩ : ∃ p, wrI ⟨o, a, b, d, m⟩ = p := ⟨_, rfl⟩
  rw [hp1] at c1 HC
  rw [hp2] at c2 HC
  obtain ⟨s1, s2⟩ := p
  obtain ⟨t1, t2⟩ := q
  generalize rdB o = br at c1
  generalize wrB o = bw at c2
  obtain ⟨cv, hcv⟩ : ∃ v, covB P S ⟨o, a, b, d, m⟩ = v := ⟨_, rfl⟩
  rw [hcv] at HC ⊢
  have HW2 := hide hW2
  have HB2 := hide hb2
  have HS2 := hide hs2
  have R0 := hide r0
  have R1 := hide r1
  have C2 := hide c2
  have x0 := r0.cell (k := 0) rfl
  have x1 := r0.cell (k := 1) rfl
  have x2 := r0.cell (k := 2) rfl
  have z0 := r1.cell (k := 0) rfl
  have z1 := r1.cell (k := 1) rfl
  have z2 := r1.cell (k := 2) rfl
  have z3 := r1.cell (k := 3) rfl
  have z4 := r1.cell (k := 4) rfl
  clear hW2 hb2 hs2 r0 r1 hp1 hp2 c2 hcv
  go_enter Tryz.func170, Tryz.ntmps170
  go_upto_region 1 with (fail)
  rw [HW2.out]
  clear HW2
  go_upto_region 2 with (go_at_call 188; refine c1.mono ?_; rintro e V1 ⟨rfl, hb0⟩)
  obtain ⟨X1, hN⟩ : ∃ V, V1.alloc (.cells #[.int .i64 s1, .int .i64 s2] 167) = V := ⟨_, rfl⟩
  have R3 := hide (show Row X1 w.heap.size 187 [.int .i64 P, .int .i64 S, .slice A n cp, .int .i64 N] by rw [← hN]; exact (R0.out.call hb0).alloc _)
  have R4 := hide (show Row X1 (w.heap.size + 1) 64 [.int .i64 o, .int .i64 a, .int .i64 b, .int .i64 d, .int .u64 m] by rw [← hN]; exact (R1.out.call hb0).alloc _)
  have R5 := hide (show Row X1 V1.heap.size 167 [.int .i64 s1, .int .i64 s2] by rw [← hN]; exact Row.new V1 _ _)
  have HB3 := hide (show Below w.heap.size w X1 by rw [← hN]; have h := below_call HB2.out hb0; exact h.alloc h.size _)
  rw [hN]
  obtain ⟨g, hg⟩ : ∃ g, V1.heap.size = g := ⟨_, rfl⟩
  rw [hg] at R5 ⊢
  clear hN hg hb0 c1 x0 x1 x2 z0 z1 z2 z3 z4 R0 R1 HB2 HS2
  have x0 := R3.out.cell (k := 0) rfl
  have x1 := R3.out.cell (k := 1) rfl
  have x2 := R3.out.cell (k := 2) rfl
  have z0 := R4.out.cell (k := 0) rfl
  have z1 := R4.out.cell (k := 1) rfl
  have z2 := R4.out.cell (k := 2) rfl
  have z3 := R4.out.cell (k := 3) rfl
  have z4 := R4.out.cell (k := 4) rfl
  go_upto_region 3 with (go_at_call 189; refine (C2.out _).mono ?_; rintro e V2 ⟨rfl, hb0⟩)
  obtain ⟨X2, hN⟩ : ∃ V, V2.alloc (.cells #[.int .i64 t1, .int .i64 t2] 167) = V := ⟨_, rfl⟩
  have R6 := hide (show Row X2 w.heap.size 187 [.int .i64 P, .int .i64 S, .slice A n cp, .int .i64 N] by rw [← hN]; exact (R3.out.call hb0).alloc _)
  have R7 := hide (show Row X2 g 167 [.int .i64 s1, .int .i64 s2] by rw [← hN]; exact (R5.out.call hb0).alloc _)
  have R8 := hide (show Row X2 V2.heap.size 167 [.int .i64 t1, .int .i64 t2] by rw [← hN]; exact Row.new V2 _ _)
  have HB4 := hide (show Below w.heap.size w X2 by rw [← hN]; have h := below_call HB3.out hb0; exact h.alloc h.size _)
  rw [hN]
  obtain ⟨g2, hg⟩ : ∃ g, V2.heap.size = g := ⟨_, rfl⟩
  rw [hg] at R8 ⊢
  clear hN hg hb0 x0 x1 x2 z0 z1 z2 z3 z4 R3 R4 R5 HB3
  have x0 := R6.out.cell (k := 0) rfl
  have x1 := R6.out.cell (k := 1) rfl
  have u0 := R7.out.cell (k := 0) rfl
  have u1 := R7.out.cell (k := 1) rfl
  have c3 := inside_any s1 s2 (S + 16 * P) X2
  have c4 := fun W => inside_any t1 t2 S W
  obtain ⟨b1, hb1⟩ : ∃ v, insB s1 s2 (S + 16 * P) = v := ⟨_, rfl⟩
  obtain ⟨b2, hb2⟩ : ∃ v, insB t1 t2 S = v := ⟨_, rfl⟩
  have HV := hide (show cv = (b1 && b2) by rw [HC.out, ← hb1, ← hb2])
  rw [hb1] at c3
  rw [hb2] at c4
  have C4 := hide c4
  clear hb1 hb2 HC c4
  cases b1 with
  | false =>
    go_wp2_with fail
    refine c3.mono ?_
    rintro e V3 ⟨rfl, hb3⟩
    go_wp2_with fail
    go_ret
    exact ⟨ret_bool HV.out.symm, below_call HB4.out hb3⟩
  | true =>
    go_wp2_with fail
    refine c3.mono ?_
    rintro e V3 ⟨rfl, hb3⟩
    have R9 := R6.out.call hb3
    have R10 := R8.out.call hb3
    have HB5 := hide (below_call HB4.out hb3)
    clear hb3 x0 x1 u0 u1 c3 R6 R7 R8 HB4
    have x1 := R9.cell (k := 1) rfl
    have u0 := R10.cell (k := 0) rfl
    have u1 := R10.cell (k := 1) rfl
    clear R9 R10
    go_wp2_with fail
    refine (C4.out _).mono ?_
    rintro e V4 ⟨rfl, hb4⟩
    go_wp2_with fail
    go_ret
    exact ⟨ret_bool (by rw [HV.out]; cases b2 <;> rfl), below_call HB5.out hb4⟩
end Go.Proofs.YtlcmcmocjbeocaaGreatDoor
end
