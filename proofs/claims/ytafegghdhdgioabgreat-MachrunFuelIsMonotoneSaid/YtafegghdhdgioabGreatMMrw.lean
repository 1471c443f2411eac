import Derived.Test.YtafegghdhdgioabGreatMNce
import Derived.Test.YtafegghdhdgioabGreatMBx
import Derived.Test.YtafegghdhdgioabGreatMEadd
import Derived.Test.YtafegghdhdgioabGreatMPcon
import Derived.Deep.DeepCutAuto
import Derived.Outline
set_option linter.unusedVariables false
set_option linter.unusedSimpArgs false
section
/-
  The contracts of mach.Reads and Writes: what an instruction reads and writes. Conditions: those of the types.
-/
namespace Go.Proofs.YtafegghdhdgioabGreat
open Go.RowKit

set_option maxHeartbeats 400000 in
theorem reads_any (P S : Int) (A : Option Addr) (n cp : Nat) (o a b c m : Int) (w : World) :
    Calls Tryz.prog 125 #[mv P S A n cp, iv o a b c m] w fun e w' => e = .returned (.tuple #[pv (rdI ⟨o, a, b, c, m⟩).1 (rdI ⟨o, a, b, c, m⟩).2, .bool (rdB o)]) ∧ Below w.heap.size w w' := by
  by_cases h1 : o = 15
  · subst h1
    obtain ⟨W, hW, hbW, hsW, r0, r1, r2⟩ := boxes3 w [.int .i64 P, .int .i64 S, .slice A n cp] [.int .i64 15, .int .i64 a, .int .i64 b, .int .i64 c, .int .u64 m] [.int .i64 0, .int .i64 0] 55 52 128
    have HW := hide hW
    have HB := hide hbW
    have HS := hide hsW
    have R := hide r2
    have x0 := r1.cell (k := 0) rfl
    have x1 := r1.cell (k := 1) rfl
    have x2 := r1.cell (k := 2) rfl
    have x3 := r1.cell (k := 3) rfl
    have y0 := r2.free 0
    have y1 := r2.free 1
    have z0 := r2.cell (k := 0) rfl
    have z1 := r2.cell (k := 1) rfl
    clear hW hbW hsW r0 r1 r2
    go_enter Tryz.func125, Tryz.ntmps125
    go_upto_region 1 with (fail)
    rw [HW.out]
    clear HW
    go_wp2_with fail
    obtain ⟨W7, hW7⟩ : ∃ V, (W.setCell ⟨w.heap.size + 1 + 1, 0, none⟩ (.int .i64 b)).setCell ⟨w.heap.size + 1 + 1, 1, none⟩ (.int .i64 c) = V := ⟨_, rfl⟩
    have R7 : Row W7 (w.heap.size + 1 + 1) 128 [.int .i64 b, .int .i64 c] := by rw [← hW7]; exact (R.out.set_ 0 _).set_ 1 _
    have B7 : Below w.heap.size w W7 := by rw [← hW7]; exact (HB.out.setCell (p := ⟨w.heap.size + 1 + 1, 0, none⟩) (by simp; omega) _).setCell (p := ⟨w.heap.size + 1 + 1, 1, none⟩) (by simp; omega) _
    rw [hW7]
    have u0 := R7.cell (k := 0) rfl
    have u1 := R7.cell (k := 1) rfl
    refine bodyPost_ret (v := .tuple #[pv b c, .bool true]) (by simp [results, Tryz.results125, go_sem, u0, u1]) rfl ?_
    exact ⟨rfl, B7⟩
  · by_cases h2 : o = 17
    · subst h2
      obtain ⟨W, hW, hbW, hsW, r0, r1, r2⟩ := boxes3 w [.int .i64 P, .int .i64 S, .slice A n cp] [.int .i64 17, .int .i64 a, .int .i64 b, .int .i64 c, .int .u64 m] [.int .i64 0, .int .i64 0] 55 52 128
      have HW := hide hW
      have HB := hide hbW
      have HS := hide hsW
      have R := hide r2
      have x0 := r1.cell (k := 0) rfl
      have x1 := r1.cell (k := 1) rfl
      have x2 := r1.cell (k := 2) rfl
      have x3 := r1.cell (k := 3) rfl
      have y0 := r2.free 0
      have y1 := r2.free 1
      have z0 := r2.cell (k := 0) rfl
      have z1 := r2.cell (k := 1) rfl
      clear hW hbW hsW r0 r1 r2
      go_enter Tryz.func125, Tryz.ntmps125
      go_upto_region 1 with (fail)
      rw [HW.out]
      clear HW
      go_wp2_with fail
      obtain ⟨W7, hW7⟩ : ∃ V, (W.setCell ⟨w.heap.size + 1 + 1, 0, none⟩ (.int .i64 b)).setCell ⟨w.heap.size + 1 + 1, 1, none⟩ (.int .i64 c) = V := ⟨_, rfl⟩
      have R7 : Row W7 (w.heap.size + 1 + 1) 128 [.int .i64 b, .int .i64 c] := by rw [← hW7]; exact (R.out.set_ 0 _).set_ 1 _
      have B7 : Below w.heap.size w W7 := by rw [← hW7]; exact (HB.out.setCell (p := ⟨w.heap.size + 1 + 1, 0, none⟩) (by simp; omega) _).setCell (p := ⟨w.heap.size + 1 + 1, 1, none⟩) (by simp; omega) _
      rw [hW7]
      have u0 := R7.cell (k := 0) rfl
      have u1 := R7.cell (k := 1) rfl
      refine bodyPost_ret (v := .tuple #[pv b c, .bool true]) (by simp [results, Tryz.results125, go_sem, u0, u1]) rfl ?_
      exact ⟨rfl, B7⟩
    · have b1 : (o == 15) = false := by simpa using h1
      have b2 : (o == 17) = false := by simpa using h2
      have d1 : (o != 15) = true := by simpa using h1
      have d2 : (o != 17) = true := by simpa using h2
      have e := hide (show rdB o = false by simp [rdB, h1, h2])
      have e2 := hide (show rdI ⟨o, a, b, c, m⟩ = (0, 0) by unfold rdI; rw [show rdB (Ins.op ⟨o, a, b, c, m⟩) = false from e.out]; rfl)
      clear h1 h2
      obtain ⟨W, hW, hbW, hsW, r0, r1, r2⟩ := boxes3 w [.int .i64 P, .int .i64 S, .slice A n cp] [.int .i64 o, .int .i64 a, .int .i64 b, .int .i64 c, .int .u64 m] [.int .i64 0, .int .i64 0] 55 52 128
      have HW := hide hW
      have HB := hide hbW
      have HS := hide hsW
      have R := hide r2
      have x0 := r1.cell (k := 0) rfl
      have x1 := r1.cell (k := 1) rfl
      have x2 := r1.cell (k := 2) rfl
      have x3 := r1.cell (k := 3) rfl
      have y0 := r2.free 0
      have y1 := r2.free 1
      have z0 := r2.cell (k := 0) rfl
      have z1 := r2.cell (k := 1) rfl
      clear hW hbW hsW r0 r1 r2
      go_enter Tryz.func125, Tryz.ntmps125
      go_upto_region 1 with (fail)
      rw [HW.out]
      clear HW
      go_wp2_with fail
      obtain ⟨W7, hW7⟩ : ∃ V, (W.setCell ⟨w.heap.size + 1 + 1, 0, none⟩ (.int .i64 0)).setCell ⟨w.heap.size + 1 + 1, 1, none⟩ (.int .i64 0) = V := ⟨_, rfl⟩
      have R7 : Row W7 (w.heap.size + 1 + 1) 128 [.int .i64 0, .int .i64 0] := by rw [← hW7]; exact (R.out.set_ 0 _).set_ 1 _
      have B7 : Below w.heap.size w W7 := by rw [← hW7]; exact (HB.out.setCell (p := ⟨w.heap.size + 1 + 1, 0, none⟩) (by simp; omega) _).setCell (p := ⟨w.heap.size + 1 + 1, 1, none⟩) (by simp; omega) _
      rw [hW7]
      have u0 := R7.cell (k := 0) rfl
      have u1 := R7.cell (k := 1) rfl
      refine bodyPost_ret (v := .tuple #[pv 0 0, .bool false]) (by simp [results, Tryz.results125, go_sem, u0, u1]) rfl ?_
      exact ⟨by rw [e.out, e2.out], B7⟩
set_option maxHeartbeats 400000 in
theorem writes_any (P S : Int) (A : Option Addr) (n cp : Nat) (o a b c m : Int) (w : World) :
    Calls Tryz.prog 126 #[mv P S A n cp, iv o a b c m] w fun e w' => e = .returned (.tuple #[pv (wrI ⟨o, a, b, c, m⟩).1 (wrI ⟨o, a, b, c, m⟩).2, .bool (wrB o)]) ∧ Below w.heap.size w w' := by
  by_cases h1 : o = 16
  · subst h1
    obtain ⟨W, hW, hbW, hsW, r0, r1, r2⟩ := boxes3 w [.int .i64 P, .int .i64 S, .slice A n cp] [.int .i64 16, .int .i64 a, .int .i64 b, .int .i64 c, .int .u64 m] [.int .i64 0, .int .i64 0] 55 52 128
    have HW := hide hW
    have HB := hide hbW
    have HS := hide hsW
    have R := hide r2
    have x0 := r1.cell (k := 0) rfl
    have x1 := r1.cell (k := 1) rfl
    have x2 := r1.cell (k := 2) rfl
    have x3 := r1.cell (k := 3) rfl
    have y0 := r2.free 0
    have y1 := r2.free 1
    have z0 := r2.cell (k := 0) rfl
    have z1 := r2.cell (k := 1) rfl
    clear hW hbW hsW r0 r1 r2
    go_enter Tryz.func126, Tryz.ntmps126
    go_upto_region 1 with (fail)
    rw [HW.out]
    clear HW
    go_wp2_with fail
    obtain ⟨W7, hW7⟩ : ∃ V, (W.setCell ⟨w.heap.size + 1 + 1, 0, none⟩ (.int .i64 a)).setCell ⟨w.heap.size + 1 + 1, 1, none⟩ (.int .i64 c) = V := ⟨_, rfl⟩
    have R7 : Row W7 (w.heap.size + 1 + 1) 128 [.int .i64 a, .int .i64 c] := by rw [← hW7]; exact (R.out.set_ 0 _).set_ 1 _
    have B7 : Below w.heap.size w W7 := by rw [← hW7]; exact (HB.out.setCell (p := ⟨w.heap.size + 1 + 1, 0, none⟩) (by simp; omega) _).setCell (p := ⟨w.heap.size + 1 + 1, 1, none⟩) (by simp; omega) _
    rw [hW7]
    have u0 := R7.cell (k := 0) rfl
    have u1 := R7.cell (k := 1) rfl
    refine bodyPost_ret (v := .tuple #[pv a c, .bool true]) (by simp [results, Tryz.results126, go_sem, u0, u1]) rfl ?_
    exact ⟨rfl, B7⟩
  · by_cases h2 : o = 17
    · subst h2
      obtain ⟨W, hW, hbW, hsW, r0, r1, r2⟩ := boxes3 w [.int .i64 P, .int .i64 S, .slice A n cp] [.int .i64 17, .int .i64 a, .int .i64 b, .int .i64 c, .int .u64 m] [.int .i64 0, .int .i64 0] 55 52 128
      have HW := hide hW
      have HB := hide hbW
      have HS := hide hsW
      have R := hide r2
      have x0 := r1.cell (k := 0) rfl
      have x1 := r1.cell (k := 1) rfl
      have x2 := r1.cell (k := 2) rfl
      have x3 := r1.cell (k := 3) rfl
      have y0 := r2.free 0
      have y1 := r2.free 1
      have z0 := r2.cell (k := 0) rfl
      have z1 := r2.cell (k := 1) rfl
      clear hW hbW hsW r0 r1 r2
      go_enter Tryz.func126, Tryz.ntmps126
      go_upto_region 1 with (fail)
      rw [HW.out]
      clear HW
      go_wp2_with fail
      obtain ⟨W7, hW7⟩ : ∃ V, (W.setCell ⟨w.heap.size + 1 + 1, 0, none⟩ (.int .i64 a)).setCell ⟨w.heap.size + 1 + 1, 1, none⟩ (.int .i64 c) = V := ⟨_, rfl⟩
      have R7 : Row W7 (w.heap.size + 1 + 1) 128 [.int .i64 a, .int .i64 c] := by rw [← hW7]; exact (R.out.set_ 0 _).set_ 1 _
      have B7 : Below w.heap.size w W7 := by rw [← hW7]; exact (HB.out.setCell (p := ⟨w.heap.size + 1 + 1, 0, none⟩) (by simp; omega) _).setCell (p := ⟨w.heap.size + 1 + 1, 1, none⟩) (by simp; omega) _
      rw [hW7]
      have u0 := R7.cell (k := 0) rfl
      have u1 := R7.cell (k := 1) rfl
      refine bodyPost_ret (v := .tuple #[pv a c, .bool true]) (by simp [results, Tryz.results126, go_sem, u0, u1]) rfl ?_
      exact ⟨rfl, B7⟩
    · have b1 : (o == 16) = false := by simpa using h1
      have b2 : (o == 17) = false := by simpa using h2
      have d1 : (o != 16) = true := by simpa using h1
      have d2 : (o != 17) = true := by simpa using h2
      have e := hide (show wrB o = false by simp [wrB, h1, h2])
      have e2 := hide (show wrI ⟨o, a, b, c, m⟩ = (0, 0) by unfold wrI; rw [show wrB (Ins.op ⟨o, a, b, c, m⟩) = false from e.out]; rfl)
      clear h1 h2
      obtain ⟨W, hW, hbW, hsW, r0, r1, r2⟩ := boxes3 w [.int .i64 P, .int .i64 S, .slice A n cp] [.int .i64 o, .int .i64 a, .int .i64 b, .int .i64 c, .int .u64 m] [.int .i64 0, .int .i64 0] 55 52 128
      have HW := hide hW
      have HB := hide hbW
      have HS := hide hsW
      have R := hide r2
      have x0 := r1.cell (k := 0) rfl
      have x1 := r1.cell (k := 1) rfl
      have x2 := r1.cell (k := 2) rfl
      have x3 := r1.cell (k := 3) rfl
      have y0 := r2.free 0
      have y1 := r2.free 1
      have z0 := r2.cell (k := 0) rfl
      have z1 := r2.cell (k := 1) rfl
      clear hW hbW hsW r0 r1 r2
      go_enter Tryz.func126, Tryz.ntmps126
      go_upto_region 1 with (fail)
      rw [HW.out]
      clear HW
      go_wp2_with fail
      obtain ⟨W7, hW7⟩ : ∃ V, (W.setCell ⟨w.heap.size + 1 + 1, 0, none⟩ (.int .i64 0)).setCell ⟨w.heap.size + 1 + 1, 1, none⟩ (.int .i64 0) = V := ⟨_, rfl⟩
      have R7 : Row W7 (w.heap.size + 1 + 1) 128 [.int .i64 0, .int .i64 0] := by rw [← hW7]; exact (R.out.set_ 0 _).set_ 1 _
      have B7 : Below w.heap.size w W7 := by rw [← hW7]; exact (HB.out.setCell (p := ⟨w.heap.size + 1 + 1, 0, none⟩) (by simp; omega) _).setCell (p := ⟨w.heap.size + 1 + 1, 1, none⟩) (by simp; omega) _
      rw [hW7]
      have u0 := R7.cell (k := 0) rfl
      have u1 := R7.cell (k := 1) rfl
      refine bodyPost_ret (v := .tuple #[pv 0 0, .bool false]) (by simp [results, Tryz.results126, go_sem, u0, u1]) rfl ?_
      exact ⟨by rw [e.out, e2.out], B7⟩
end Go.Proofs.YtafegghdhdgioabGreat
end

section
/-
  The contract of mach's method covers: whether an instruction reads and writes where it may. Condition: the frame's shape is right.
-/
namespace Go.Proofs.YtafegghdhdgioabGreat
open Go.RowKit

set_option maxHeartbeats 1000000 in
theorem covers_any (P S : Int) (A : Option Addr) (n cp : Nat) (N : Int) (o a b d m : Int) (w : World) (hP : 0 ≤ P ∧ P ≤ 8) (hS : 0 ≤ S ∧ S ≤ 2147483519) :
    Calls Tryz.prog 92 #[xv P S A n cp N, iv o a b d m] w fun e w' => e = .returned (.bool (covB P S ⟨o, a, b, d, m⟩)) ∧ Below w.heap.size w w' := by
  obtain ⟨p0, p1⟩ := hP
  obtain ⟨q0, q1⟩ := hS
  obtain ⟨W2, hW2, hb2, hs2, r0, r1⟩ := boxes2q w [.int .i64 P, .int .i64 S, .slice A n cp, .int .i64 N] [.int .i64 o, .int .i64 a, .int .i64 b, .int .i64 d, .int .u64 m] 131 52
  have HC := hide (show covB P S ⟨o, a, b, d, m⟩ = (insB (rdI ⟨o, a, b, d, m⟩).1 (rdI ⟨o, a, b, d, m⟩).2 (S + 16 * P) && insB (wrI ⟨o, a, b, d, m⟩).1 (wrI ⟨o, a, b, d, m⟩).2 S) from rfl)
  have c1 := reads_any P S A n cp o a b d m W2
  have c2 := fun W => writes_any P S A n cp o a b d m W
  obtain ⟨p, hp1⟩ : ∃ p, rdI ⟨o, a, b, d, m⟩ = p := ⟨_, rfl⟩
  obtain ⟨q, hp2⟩ : ∃ p, wrI ⟨o, a, b, d, m⟩ = p := ⟨_, rfl⟩
  rw [hp1] at c1 HC
  rw [hp2] at c2 HC
  obtain ⟨s1, s2⟩ := p
  obtain ⟨t1, t2⟩ := q
  generalize rdB o = br at c1
  generalize wrB o = bw at c2
  obtain ⟨cv, hcv⟩ : ∃ v, covB P S ⟨o, a, b, d, m⟩ = v := ⟨_, rfl⟩
  rw [hcv] at HC ⊢
  have HW2 := hide hW2
  have HB2 := hide hb2
  have HS2 := hide hs2
  have R0 := hide r0
  have R1 := hide r1
  have C2 := hide c2
  have x0 := r0.cell (k := 0) rfl
  have x1 := r0.cell (k := 1) rfl
  have x2 := r0.cell (k := 2) rfl
  have z0 := r1.cell (k := 0) rfl
  have z1 := r1.cell (k := 1) rfl
  have z2 := r1.cell (k := 2) rfl
  have z3 := r1.cell (k := 3) rfl
  have z4 := r1.cell (k := 4) rfl
  clear hW2 hb2 hs2 r0 r1 hp1 hp2 c2 hcv
  go_enter Tryz.func92, Tryz.ntmps92
  go_upto_region 1 with (fail)
  rw [HW2.out]
  clear HW2
  go_upto_region 2 with (go_at_call 125; refine c1.mono ?_; rintro e V1 ⟨rfl, hb0⟩)
  obtain ⟨X1, hN⟩ : ∃ V, V1.alloc (.cells #[.int .i64 s1, .int .i64 s2] 128) = V := ⟨_, rfl⟩
  have R3 := hide (show Row X1 w.heap.size 131 [.int .i64 P, .int .i64 S, .slice A n cp, .int .i64 N] by rw [← hN]; exact (R0.out.call hb0).alloc _)
  have R4 := hide (show Row X1 (w.heap.size + 1) 52 [.int .i64 o, .int .i64 a, .int .i64 b, .int .i64 d, .int .u64 m] by rw [← hN]; exact (R1.out.call hb0).alloc _)
  have R5 := hide (show Row X1 V1.heap.size 128 [.int .i64 s1, .int .i64 s2] by rw [← hN]; exact Row.new V1 _ _)
  have HB3 := hide (show Below w.heap.size w X1 by rw [← hN]; have h := below_call HB2.out hb0; exact h.alloc h.size _)
  rw [hN]
  obtain ⟨g, hg⟩ : ∃ g, V1.heap.size = g := ⟨_, rfl⟩
  rw [hg] at R5 ⊢
  clear hN hg hb0 c1 x0 x1 x2 z0 z1 z2 z3 z4 R0 R1 HB2 HS2
  have x0 := R3.out.cell (k := 0) rfl
  have x1 := R3.out.cell (k := 1) rfl
  have x2 := R3.out.cell (k := 2) rfl
  have z0 := R4.out.cell (k := 0) rfl
  have z1 := R4.out.cell (k := 1) rfl
  have z2 := R4.out.cell (k := 2) rfl
  have z3 := R4.out.cell (k := 3) rfl
  have z4 := R4.out.cell (k := 4) rfl
  go_upto_region 3 with (go_at_call 126; refine (C2.out _).mono ?_; rintro e V2 ⟨rfl, hb0⟩)
  obtain ⟨X2, hN⟩ : ∃ V, V2.alloc (.cells #[.int .i64 t1, .int .i64 t2] 128) = V := ⟨_, rfl⟩
  have R6 := hide (show Row X2 w.heap.size 131 [.int .i64 P, .int .i64 S, .slice A n cp, .int .i64 N] by rw [← hN]; exact (R3.out.call hb0).alloc _)
  have R7 := hide (show Row X2 g 128 [.int .i64 s1, .int .i64 s2] by rw [← hN]; exact (R5.out.call hb0).alloc _)
  have R8 := hide (show Row X2 V2.heap.size 128 [.int .i64 t1, .int .i64 t2] by rw [← hN]; exact Row.new V2 _ _)
  have HB4 := hide (show Below w.heap.size w X2 by rw [← hN]; have h := below_call HB3.out hb0; exact h.alloc h.size _)
  rw [hN]
  obtain ⟨g2, hg⟩ : ∃ g, V2.heap.size = g := ⟨_, rfl⟩
  rw [hg] at R8 ⊢
  clear hN hg hb0 x0 x1 x2 z0 z1 z2 z3 z4 R3 R4 R5 HB3
  have x0 := R6.out.cell (k := 0) rfl
  have x1 := R6.out.cell (k := 1) rfl
  have u0 := R7.out.cell (k := 0) rfl
  have u1 := R7.out.cell (k := 1) rfl
  have c3 := inside_any s1 s2 (S + 16 * P) X2
  have c4 := fun W => inside_any t1 t2 S W
  obtain ⟨b1, hb1⟩ : ∃ v, insB s1 s2 (S + 16 * P) = v := ⟨_, rfl⟩
  obtain ⟨b2, hb2⟩ : ∃ v, insB t1 t2 S = v := ⟨_, rfl⟩
  have HV := hide (show cv = (b1 && b2) by rw [HC.out, ← hb1, ← hb2])
  rw [hb1] at c3
  rw [hb2] at c4
  have C4 := hide c4
  clear hb1 hb2 HC c4
  cases b1 with
  | false =>
    go_wp2_with fail
    refine c3.mono ?_
    rintro e V3 ⟨rfl, hb3⟩
    go_wp2_with fail
    go_ret
    exact ⟨ret_bool HV.out.symm, below_call HB4.out hb3⟩
  | true =>
    go_wp2_with fail
    refine c3.mono ?_
    rintro e V3 ⟨rfl, hb3⟩
    have R9 := R6.out.call hb3
    have R10 := R8.out.call hb3
    have HB5 := hide (below_call HB4.out hb3)
    clear hb3 x0 x1 u0 u1 c3 R6 R7 R8 HB4
    have x1 := R9.cell (k := 1) rfl
    have u0 := R10.cell (k := 0) rfl
    have u1 := R10.cell (k := 1) rfl
    clear R9 R10
    go_wp2_with fail
    refine (C4.out _).mono ?_
    rintro e V4 ⟨rfl, hb4⟩
    go_wp2_with fail
    go_ret
    exact ⟨ret_bool (by rw [HV.out]; cases b2 <;> rfl), below_call HB5.out hb4⟩
end Go.Proofs.YtafegghdhdgioabGreat
end

section
/-
  The contract of mach's method checkInstr: the first error of an instruction. Condition: the frame's shape is right.
-/
namespace Go.Proofs.YtafegghdhdgioabGreat
open Go.RowKit

theorem minsE_out {N : Nat} {f : Fm} {x : Ins} (h : exB x.op = false) : minsE N f x = 4 := by unfold minsE; rw [if_pos h]
theorem minsE_in {N : Nat} {f : Fm} {x : Ins} (h : exB x.op = true) : minsE N f x = mrank (mfound N f.code.length x) (covB f.params f.size x) := by unfold minsE; rw [if_neg (by simp [h])]
theorem exB_b {o : Int} (h : exB o = true) : 0 ≤ o ∧ o < 25 := by
  unfold exB at h
  simp only [Bool.and_eq_true] at h
  exact withB_true.1 h.1
theorem mfound_len (N C : Int) (x : Ins) : (mfound N C x).length ≤ 4 := by unfold mfound foundE; split <;> simp
set_option maxHeartbeats 1000000 in
theorem chkinsm_any (P S : Int) (A : Option Addr) (n cp : Nat) (N : Nat) (o a b d m : Int) (w : World) (f : Fm) (hf : Hid (f.params = P ∧ f.size = S ∧ f.code.length = n)) (hP : 0 ≤ P ∧ P ≤ 8) (hS : 0 ≤ S ∧ S ≤ 2147483519) :
    Calls Tryz.prog 62 #[xv P S A n cp N, iv o a b d m] w fun e w' => e = .returned (.int .i64 (minsE N f ⟨o, a, b, d, m⟩)) ∧ Below w.heap.size w w' := by
  obtain ⟨W2, hW2, hb2, hs2, r0, r1⟩ := boxes2q w [.int .i64 P, .int .i64 S, .slice A n cp, .int .i64 N] [.int .i64 o, .int .i64 a, .int .i64 b, .int .i64 d, .int .u64 m] 131 52
  have ce := mexists_any o
  have HW2 := hide hW2
  have HB2 := hide hb2
  have R0 := hide r0
  have R1 := hide r1
  have x0 := r0.cell (k := 0) rfl
  have x1 := r0.cell (k := 1) rfl
  have x2 := r0.cell (k := 2) rfl
  have x3 := r0.cell (k := 3) rfl
  have z0 := r1.cell (k := 0) rfl
  have z1 := r1.cell (k := 1) rfl
  have z2 := r1.cell (k := 2) rfl
  have z3 := r1.cell (k := 3) rfl
  have z4 := r1.cell (k := 4) rfl
  clear hW2 hb2 hs2 r0 r1
  cases he : exB o with
  | false =>
    rw [he] at ce
    have HR := hide (minsE_out (N := N) (f := f) (x := ⟨o, a, b, d, m⟩) he)
    clear he
    go_enter Tryz.func62, Tryz.ntmps62
    go_upto_region 1 with (fail)
    rw [HW2.out]
    go_wp2_with fail
    refine (ce _).mono ?_
    rintro e w' ⟨rfl, rfl⟩
    go_wp2_with fail
    go_ret
    exact ⟨ret_int HR.out.symm, HB2.out⟩
  | true =>
    rw [he] at ce
    have ho := exB_b he
    have HR0 := hide (minsE_in (N := N) (f := f) (x := ⟨o, a, b, d, m⟩) he)
    have HR : Hid (minsE N f ⟨o, a, b, d, m⟩ = mrank (mfound N n ⟨o, a, b, d, m⟩) (covB P S ⟨o, a, b, d, m⟩)) := by
      show minsE N f ⟨o, a, b, d, m⟩ = _
      rw [HR0.out, hf.out.1, hf.out.2.1, hf.out.2.2]
    have HL := hide (mfound_len N n ⟨o, a, b, d, m⟩)
    clear he HR0
    have co := operrm_any P S A n cp N o a b d m W2 ho.1 ho.2
    have cc := fun W => covers_any P S A n cp N o a b d m W hP hS
    obtain ⟨es, hes⟩ : ∃ es, mfound N n ⟨o, a, b, d, m⟩ = es := ⟨_, rfl⟩
    obtain ⟨cv, hcv⟩ : ∃ v, covB P S ⟨o, a, b, d, m⟩ = v := ⟨_, rfl⟩
    rw [hes] at co HR HL
    rw [hcv] at cc HR
    have CC := hide cc
    clear hes hcv cc ho
    go_enter Tryz.func62, Tryz.ntmps62
    go_upto_region 1 with (fail)
    rw [HW2.out]
    clear HW2
    go_wp2_with fail
    refine (ce _).mono ?_
    rintro e w' ⟨rfl, rfl⟩
    go_wp2_with fail
    refine co.mono ?_
    rintro e w3 ⟨A', c', rfl, hsee, hb3⟩
    have R3 := R0.out.call hb3
    have R4 := R1.out.call hb3
    have HB3 := hide (below_call HB2.out hb3)
    clear hb3 co ce x0 x1 x2 x3 z0 z1 z2 z3 z4 R0 R1 HB2
    have x0 := R3.cell (k := 0) rfl
    have x1 := R3.cell (k := 1) rfl
    have x2 := R3.cell (k := 2) rfl
    have x3 := R3.cell (k := 3) rfl
    have z0 := R4.cell (k := 0) rfl
    have z1 := R4.cell (k := 1) rfl
    have z2 := R4.cell (k := 2) rfl
    have z3 := R4.cell (k := 3) rfl
    have z4 := R4.cell (k := 4) rfl
    have hel : es.length ≤ 4611686018427387904 := by have := HL.out; omega
    have k2 := econt_any A' es.length c' es 2 _ w3 (hide rfl) hel (hide hsee)
    have k4 := econt_any A' es.length c' es 4 _ w3 (hide rfl) hel (hide hsee)
    have k5 := econt_any A' es.length c' es 5 _ w3 (hide rfl) hel (hide hsee)
    have k6 := fun W (h : Below w3.heap.size w3 W) => econt_any A' es.length c' es 6 _ W (hide rfl) hel (hide (hsee.below h))
    obtain ⟨q2, hq2⟩ : ∃ q2, es.contains 2 = q2 := ⟨_, rfl⟩
    obtain ⟨q4, hq4⟩ : ∃ q4, es.contains 4 = q4 := ⟨_, rfl⟩
    obtain ⟨q5, hq5⟩ : ∃ q5, es.contains 5 = q5 := ⟨_, rfl⟩
    obtain ⟨q6, hq6⟩ : ∃ q6, es.contains 6 = q6 := ⟨_, rfl⟩
    rw [hq2] at k2
    rw [hq4] at k4
    rw [hq5] at k5
    rw [hq6] at k6
    have HRR : Hid (minsE N f ⟨o, a, b, d, m⟩ = if q2 then 2 else if q4 then 4 else if q5 then 5 else if cv = false then 4 else if q6 then 6 else 0) := by
      show minsE N f ⟨o, a, b, d, m⟩ = _
      rw [HR.out]; unfold mrank; rw [hq2, hq4, hq5, hq6]
    have K2 := hide k2
    have K4 := hide k4
    have K5 := hide k5
    have K6 := hide k6
    clear hq2 hq4 hq5 hq6 k2 k4 k5 k6 HR R3 R4 hsee hel
    go_wp2_with fail
    refine K2.out.mono ?_
    rintro e w' ⟨rfl, rfl⟩
    cases q2 with
    | true =>
      go_wp2_with fail
      go_ret
      exact ⟨ret_int HRR.out.symm, HB3.out⟩
    | false =>
      go_wp2_with fail
      refine K4.out.mono ?_
      rintro e w' ⟨rfl, rfl⟩
      cases q4 with
      | true =>
        go_wp2_with fail
        go_ret
        exact ⟨ret_int HRR.out.symm, HB3.out⟩
      | false =>
        go_wp2_with fail
        refine K5.out.mono ?_
        rintro e w' ⟨rfl, rfl⟩
        cases q5 with
        | true =>
          go_wp2_with fail
          go_ret
          exact ⟨ret_int HRR.out.symm, HB3.out⟩
        | false =>
          go_wp2_with fail
          refine (CC.out _).mono ?_
          rintro e w5 ⟨rfl, hb5⟩
          have K7 := hide (K6.out w5 hb5)
          have HB5 := hide (below_call HB3.out hb5)
          clear hb5 x0 x1 x2 x3 z0 z1 z2 z3 z4
          cases cv with
          | false =>
            go_wp2_with fail
            go_ret
            exact ⟨ret_int HRR.out.symm, HB5.out⟩
          | true =>
            go_wp2_with fail
            refine K7.out.mono ?_
            rintro e w' ⟨rfl, rfl⟩
            cases q6 with
            | true =>
              go_wp2_with fail
              go_ret
              exact ⟨ret_int HRR.out.symm, HB5.out⟩
            | false =>
              go_wp2_with fail
              go_ret
              exact ⟨ret_int HRR.out.symm, HB5.out⟩
end Go.Proofs.YtafegghdhdgioabGreat
end
