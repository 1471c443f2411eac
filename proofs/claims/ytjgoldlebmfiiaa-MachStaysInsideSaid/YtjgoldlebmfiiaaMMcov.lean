import Derived.Test.YtjgoldlebmfiiaaMMleaf
import Derived.Test.YtjgoldlebmfiiaaMMrw
import Derived.Test.YtjgoldlebmfiiaaMKd
set_option linter.unusedVariables false
set_option linter.unusedSimpArgs false
section
/-
  The contract of mach's method covers: whether an instruction reads and writes where it may. Condition: the frame's shape is right.
-/
namespace Go.Proofs.Ytjgoldlebmfiiaa
open Go.RowKit

set_option maxHeartbeats 1000000 in
theorem covers_any (P S : Int) (A : Option Addr) (n cp : Nat) (N : Int) (o a b d m : Int) (w : World) (hP : 0 ≤ P ∧ P ≤ 8) (hS : 0 ≤ S ∧ S ≤ 2147483519) :
    Calls Try.prog 62 #[xv P S A n cp N, iv o a b d m] w fun e w' => e = .returned (.bool (covB P S ⟨o, a, b, d, m⟩)) ∧ Below w.heap.size w w' := by
  obtain ⟨p0, p1⟩ := hP
  obtain ⟨q0, q1⟩ := hS
  obtain ⟨W2, hW2, hb2, hs2, r0, r1⟩ := boxes2q w [.int .i64 P, .int .i64 S, .slice A n cp, .int .i64 N] [.int .i64 o, .int .i64 a, .int .i64 b, .int .i64 d, .int .u64 m] 85 27
  have HC := hide (show covB P S ⟨o, a, b, d, m⟩ = (insB (rdI ⟨o, a, b, d, m⟩).1 (rdI ⟨o, a, b, d, m⟩).2 (S + 16 * P) && insB (wrI ⟨o, a, b, d, m⟩).1 (wrI ⟨o, a, b, d, m⟩).2 S) from rfl)
  have c1 := reads_any P S A n cp o a b d m W2
  have c2 := fun W => writes_any P S A n cp o a b d m W
  obtain ⟨p, hp1⟩ : ∃ p, rdI ⟨o, a, b, d, m⟩ = p := ⟨_, rfl⟩
  obtain ⟨q, hp2⟩ : ∃ p, wrI ⟨o, a, b, d, m⟩ = p := ⟨_, rfl⟩
  rw [hp1] at c1 HC
  rw [hp2] at c2 HC
  obtain ⟨s1, s2⟩ := p
  obtain ⟨t1, t2⟩ := q
  generalize rdB o = br at c1
  generalize wrB o = bw at c2
  obtain ⟨cv, hcv⟩ : ∃ v, covB P S ⟨o, a, b, d, m⟩ = v := ⟨_, rfl⟩
  rw [hcv] at HC ⊢
  have HW2 := hide hW2
  have HB2 := hide hb2
  have HS2 := hide hs2
  have R0 := hide r0
  have R1 := hide r1
  have C2 := hide c2
  have x0 := r0.cell (k := 0) rfl
  have x1 := r0.cell (k := 1) rfl
  have x2 := r0.cell (k := 2) rfl
  have z0 := r1.cell (k := 0) rfl
  have z1 := r1.cell (k := 1) rfl
  have z2 := r1.cell (k := 2) rfl
  have z3 := r1.cell (k := 3) rfl
  have z4 := r1.cell (k := 4) rfl
  clear hW2 hb2 hs2 r0 r1 hp1 hp2 c2 hcv
  go_enter Try.func62, Try.ntmps62
  go_upto_region 1 with (fail)
  rw [HW2.out]
  clear HW2
  go_upto_region 2 with (go_at_call 8; refine c1.mono ?_; rintro e V1 ⟨rfl, hb0⟩)
  obtain ⟨X1, hN⟩ : ∃ V, V1.alloc (.cells #[.int .i64 s1, .int .i64 s2] 30) = V := ⟨_, rfl⟩
  have R3 := hide (show Row X1 w.heap.size 85 [.int .i64 P, .int .i64 S, .slice A n cp, .int .i64 N] by rw [← hN]; exact (R0.out.call hb0).alloc _)
  have R4 := hide (show Row X1 (w.heap.size + 1) 27 [.int .i64 o, .int .i64 a, .int .i64 b, .int .i64 d, .int .u64 m] by rw [← hN]; exact (R1.out.call hb0).alloc _)
  have R5 := hide (show Row X1 V1.heap.size 30 [.int .i64 s1, .int .i64 s2] by rw [← hN]; exact Row.new V1 _ _)
  have HB3 := hide (show Below w.heap.size w X1 by rw [← hN]; have h := below_call HB2.out hb0; exact h.alloc h.size _)
  rw [hN]
  obtain ⟨g, hg⟩ : ∃ g, V1.heap.size = g := ⟨_, rfl⟩
  rw [hg] at R5 ⊢
  clear hN hg hb0 c1 x0 x1 x2 z0 z1 z2 z3 z4 R0 R1 HB2 HS2
  have x0 := R3.out.cell (k := 0) rfl
  have x1 := R3.out.cell (k := 1) rfl
  have x2 := R3.out.cell (k := 2) rfl
  have z0 := R4.out.cell (k := 0) rfl
  have z1 := R4.out.cell (k := 1) rfl
  have z2 := R4.out.cell (k := 2) rfl
  have z3 := R4.out.cell (k := 3) rfl
  have z4 := R4.out.cell (k := 4) rfl
  go_upto_region 3 with (go_at_call 10; refine (C2.out _).mono ?_; rintro e V2 ⟨rfl, hb0⟩)
  obtain ⟨X2, hN⟩ : ∃ V, V2.alloc (.cells #[.int .i64 t1, .int .i64 t2] 30) = V := ⟨_, rfl⟩
  have R6 := hide (show Row X2 w.heap.size 85 [.int .i64 P, .int .i64 S, .slice A n cp, .int .i64 N] by rw [← hN]; exact (R3.out.call hb0).alloc _)
  have R7 := hide (show Row X2 g 30 [.int .i64 s1, .int .i64 s2] by rw [← hN]; exact (R5.out.call hb0).alloc _)
  have R8 := hide (show Row X2 V2.heap.size 30 [.int .i64 t1, .int .i64 t2] by rw [← hN]; exact Row.new V2 _ _)
  have HB4 := hide (show Below w.heap.size w X2 by rw [← hN]; have h := below_call HB3.out hb0; exact h.alloc h.size _)
  rw [hN]
  obtain ⟨g2, hg⟩ : ∃ g, V2.heap.size = g := ⟨_, rfl⟩
  rw [hg] at R8 ⊢
  clear hN hg hb0 x0 x1 x2 z0 z1 z2 z3 z4 R3 R4 R5 HB3
  have x0 := R6.out.cell (k := 0) rfl
  have x1 := R6.out.cell (k := 1) rfl
  have u0 := R7.out.cell (k := 0) rfl
  have u1 := R7.out.cell (k := 1) rfl
  have c3 := inside_any s1 s2 (S + 16 * P) X2
  have c4 := fun W => inside_any t1 t2 S W
  obtain ⟨b1, hb1⟩ : ∃ v, insB s1 s2 (S + 16 * P) = v := ⟨_, rfl⟩
  obtain ⟨b2, hb2⟩ : ∃ v, insB t1 t2 S = v := ⟨_, rfl⟩
  have HV := hide (show cv = (b1 && b2) by rw [HC.out, ← hb1, ← hb2])
  rw [hb1] at c3
  rw [hb2] at c4
  have C4 := hide c4
  clear hb1 hb2 HC c4
  cases b1 with
  | false =>
    go_wp2_with fail
    refine c3.mono ?_
    rintro e V3 ⟨rfl, hb3⟩
    go_wp2_with fail
    go_ret
    exact ⟨ret_bool HV.out.symm, below_call HB4.out hb3⟩
  | true =>
    go_wp2_with fail
    refine c3.mono ?_
    rintro e V3 ⟨rfl, hb3⟩
    have R9 := R6.out.call hb3
    have R10 := R8.out.call hb3
    have HB5 := hide (below_call HB4.out hb3)
    clear hb3 x0 x1 u0 u1 c3 R6 R7 R8 HB4
    have x1 := R9.cell (k := 1) rfl
    have u0 := R10.cell (k := 0) rfl
    have u1 := R10.cell (k := 1) rfl
    clear R9 R10
    go_wp2_with fail
    refine (C4.out _).mono ?_
    rintro e V4 ⟨rfl, hb4⟩
    go_wp2_with fail
    go_ret
    exact ⟨ret_bool (by rw [HV.out]; cases b2 <;> rfl), below_call HB5.out hb4⟩
end Go.Proofs.Ytjgoldlebmfiiaa
end
