import Derived.Test.YtafegghdhdgioaaDoorMScan
import Derived.Test.YtafegghdhdgioaaDoorMRct
import Derived.Test.YtafegghdhdgioaaDoorMMrw
import Derived.Test.YtafegghdhdgioaaDoorMPcon
import Derived.Deep.RegionHeld3
import Derived.Deep.DrawnRows
import Derived.BigQuiet
import Derived.Outline
set_option linter.unusedVariables false
set_option linter.unusedSimpArgs false
section
/-
  The contracts of extent.bound and Add. Conditions: those of the types.
-/
namespace Go.Proofs.YtafegghdhdgioaaDoor
open Go.RowKit

theorem bound_any (n : Int) (w : World) : Calls Tryd.prog 61 #[.int .i64 n] w fun e w' => e = .returned (.bool (bndB n)) ∧ w = w' := by
  go_enter Tryd.func61, Tryd.ntmps61
  by_cases h : 0 ≤ n
  · go_wp2
    go_ret
    exact ⟨ret_bool (by simp [bndB, h]), rfl⟩
  · go_wp2
    go_ret
    exact ⟨ret_bool (by simp [bndB]; omega), rfl⟩

set_option maxHeartbeats 400000 in
theorem add_any (x y : Int) (w : World) : Calls Tryd.prog 38 #[.int .i64 x, .int .i64 y] w fun e w' => e = .returned (.tuple #[.int .i64 (addV x y), .int .i64 (addE x y)]) ∧ w = w' := by
  have cx := bound_any x
  have cy := bound_any y
  cases hx : bndB x with
  | false =>
    obtain ⟨hv, he⟩ := add_bad (x := x) (y := y) (by rw [hx]; rfl)
    rw [hx] at cx
    have Hv := hide hv
    have He := hide he
    clear hx hv he
    go_enter Tryd.func38, Tryd.ntmps38
    go_wp2_with (go_at_call 61; refine (cx _).mono ?_; rintro e w' ⟨rfl, rfl⟩)
    go_ret2
    exact ⟨ret_two Hv.out.symm He.out.symm, rfl⟩
  | true =>
    cases hy : bndB y with
    | false =>
      obtain ⟨hv, he⟩ := add_bad (x := x) (y := y) (by rw [hx, hy]; rfl)
      rw [hx] at cx
      rw [hy] at cy
      have Hv := hide hv
      have He := hide he
      clear hx hy hv he
      go_enter Tryd.func38, Tryd.ntmps38
      go_wp2_with fail
      refine (cx _).mono ?_
      rintro e w' ⟨rfl, rfl⟩
      go_wp2_with fail
      refine (cy _).mono ?_
      rintro e w' ⟨rfl, rfl⟩
      go_wp2_with fail
      go_ret2
      exact ⟨ret_two Hv.out.symm He.out.symm, rfl⟩
    | true =>
      obtain ⟨x0, x1⟩ := bndB_iff.1 hx
      obtain ⟨y0, y1⟩ := bndB_iff.1 hy
      rw [hx] at cx
      rw [hy] at cy
      by_cases hs : x + y ≤ 2147483647
      · obtain ⟨hv, he⟩ := add_ok hx hy hs
        have Hv := hide hv
        have He := hide he
        clear hx hy hv he
        have hg : ¬ (2147483647 - y < x) := by omega
        go_enter Tryd.func38, Tryd.ntmps38
        go_wp2_with fail
        refine (cx _).mono ?_
        rintro e w' ⟨rfl, rfl⟩
        go_wp2_with fail
        refine (cy _).mono ?_
        rintro e w' ⟨rfl, rfl⟩
        go_wp2_with fail
        go_ret2
        exact ⟨ret_two Hv.out.symm He.out.symm, rfl⟩
      · obtain ⟨hv, he⟩ := add_great hx hy (by omega)
        have Hv := hide hv
        have He := hide he
        clear hx hy hv he
        have hg : 2147483647 - y < x := by omega
        go_enter Tryd.func38, Tryd.ntmps38
        go_wp2_with fail
        refine (cx _).mono ?_
        rintro e w' ⟨rfl, rfl⟩
        go_wp2_with fail
        refine (cy _).mono ?_
        rintro e w' ⟨rfl, rfl⟩
        go_wp2_with fail
        go_ret2
        exact ⟨ret_two Hv.out.symm He.out.symm, rfl⟩
end Go.Proofs.YtafegghdhdgioaaDoor
end

section
/-
  The contracts of the functions on intervals: extent.right, end, Inside. Conditions: those of the types.
-/
namespace Go.Proofs.YtafegghdhdgioaaDoor
open Go.RowKit
attribute [local go_sem ↓] Go.wp_at_zero Go.wp_at_succ

set_option maxHeartbeats 400000 in
theorem right_any (o s : Int) (w : World) : Calls Tryd.prog 148 #[pv o s] w fun e w' => e = .returned (.bool (rightB o s)) ∧ Below w.heap.size w w' := by
  have c := add_any o s
  have hr := hide (rightB_add o s)
  generalize addV o s = v at c
  generalize addE o s = x at c hr
  go_enter Tryd.func148, Tryd.ntmps148
  go_wp2_with fail
  refine (c _).mono ?_
  rintro e w' ⟨rfl, rfl⟩
  go_wp2_with fail
  go_ret
  exact ⟨ret_bool (by rw [← hr.out]; first | rfl | (by_cases h : x = 0 <;> simp [h])), below1 _ _⟩

theorem end_any (o s : Int) (w : World) (h0 : -9223372036854775808 ≤ o + s) (h1 : o + s ≤ 9223372036854775807) : Calls Tryd.prog 149 #[pv o s] w fun e w' => e = .returned (.int .i64 (o + s)) ∧ Below w.heap.size w w' := by
  go_enter Tryd.func149, Tryd.ntmps149
  go_wp2_with fail
  go_ret
  exact ⟨rfl, below1 _ _⟩

theorem inside_any (o s n : Int) (w : World) : Calls Tryd.prog 139 #[pv o s, .int .i64 n] w fun e w' => e = .returned (.bool (insB o s n)) ∧ Below w.heap.size w w' := by
  have c := right_any o s
  have r1 := Row.new w 143 [.int .i64 o, .int .i64 s]
  have f1 := r1.cell (k := 0) rfl
  have f2 := r1.cell (k := 1) rfl
  cases hr : rightB o s with
  | false =>
    rw [hr] at c
    have ho := hide (show insB o s n = false by simp [insB, hr])
    clear hr r1
    go_enter Tryd.func139, Tryd.ntmps139
    go_wp2_with fail
    refine (c _).mono ?_
    rintro e w1 ⟨rfl, hb1⟩
    go_wp2_with fail
    go_ret
    exact ⟨ret_bool ho.out.symm, below_call (below1 _ _) hb1⟩
  | true =>
    rw [hr] at c
    have ho := hide (show insB o s n = decide (o + s ≤ n) by simp [insB, hr])
    obtain ⟨b3, b4, b5⟩ := rightB_iff.1 hr
    clear hr r1
    go_enter Tryd.func139, Tryd.ntmps139
    go_wp2_with fail
    refine (c _).mono ?_
    rintro e w1 ⟨rfl, hb1⟩
    have g1 := keep_cellB hb1 f1
    have g2 := keep_cellB hb1 f2
    go_wp2_with fail
    refine (end_any o s _ (by omega) (by omega)).mono ?_
    rintro e w2 ⟨rfl, hb2⟩
    go_wp2_with fail
    go_ret
    exact ⟨ret_bool ho.out.symm, below_call (below_call (below1 _ _) hb1) hb2⟩

end Go.Proofs.YtafegghdhdgioaaDoor
end

section
/-
  The contract of mach's method covers: whether an instruction reads and writes where it may. Condition: the frame's shape is right.
-/
namespace Go.Proofs.YtafegghdhdgioaaDoor
open Go.RowKit

set_option maxHeartbeats 1000000 in
theorem covers_any (P S : Int) (A : Option Addr) (n cp : Nat) (N : Int) (o a b d m : Int) (w : World) (hP : 0 ≤ P ∧ P ≤ 8) (hS : 0 ≤ S ∧ S ≤ 2147483519) :
    Calls Tryd.prog 122 #[xv P S A n cp N, iv o a b d m] w fun e w' => e = .returned (.bool (covB P S ⟨o, a, b, d, m⟩)) ∧ Below w.heap.size w w' := by
  obtain ⟨p0, p1⟩ := hP
  obtain ⟨q0, q1⟩ := hS
  obtain ⟨W2, hW2, hb2, hs2, r0, r1⟩ := boxes2q w [.int .i64 P, .int .i64 S, .slice A n cp, .int .i64 N] [.int .i64 o, .int .i64 a, .int .i64 b, .int .i64 d, .int .u64 m] 146 48
  have HC := hide (show covB P S ⟨o, a, b, d, m⟩ = (insB (rdI ⟨o, a, b, d, m⟩).1 (rdI ⟨o, a, b, d, m⟩).2 (S + 16 * P) && insB (wrI ⟨o, a, b, d, m⟩).1 (wrI ⟨o, a, b, d, m⟩).2 S) from rfl)
  have c1 := reads_any P S A n cp o a b d m W2
  have c2 := fun W => writes_any P S A n cp o a b d m W
  obtain ⟨p, hp1⟩ : ∃ p, rdI ⟨o, a, b, d, m⟩ = p := ⟨_, rfl⟩
  obtain ⟨q, hp2⟩ : ∃ p, wrI ⟨o, a, b, d, m⟩ = p := ⟨_, rfl⟩
  rw [hp1] at c1 HC
  rw [hp2] at c2 HC
  obtain ⟨s1, s2⟩ := p
  obtain ⟨t1, t2⟩ := q
  generalize rdB o = br at c1
  generalize wrB o = bw at c2
  obtain ⟨cv, hcv⟩ : ∃ v, covB P S ⟨o, a, b, d, m⟩ = v := ⟨_, rfl⟩
  rw [hcv] at HC ⊢
  have HW2 := hide hW2
  have HB2 := hide hb2
  have HS2 := hide hs2
  have R0 := hide r0
  have R1 := hide r1
  have C2 := hide c2
  have x0 := r0.cell (k := 0) rfl
  have x1 := r0.cell (k := 1) rfl
  have x2 := r0.cell (k := 2) rfl
  have z0 := r1.cell (k := 0) rfl
  have z1 := r1.cell (k := 1) rfl
  have z2 := r1.cell (k := 2) rfl
  have z3 := r1.cell (k := 3) rfl
  have z4 := r1.cell (k := 4) rfl
  clear hW2 hb2 hs2 r0 r1 hp1 hp2 c2 hcv
  go_enter Tryd.func122, Tryd.ntmps122
  go_upto_region 1 with (fail)
  rw [HW2.out]
  clear HW2
  go_upto_region 2 with (go_at_call 137; refine c1.mono ?_; rintro e V1 ⟨rfl, hb0⟩)
  obtain ⟨X1, hN⟩ : ∃ V, V1.alloc (.cells #[.int .i64 s1, .int .i64 s2] 143) = V := ⟨_, rfl⟩
  have R3 := hide (show Row X1 w.heap.size 146 [.int .i64 P, .int .i64 S, .slice A n cp, .int .i64 N] by rw [← hN]; exact (R0.out.call hb0).alloc _)
  have R4 := hide (show Row X1 (w.heap.size + 1) 48 [.int .i64 o, .int .i64 a, .int .i64 b, .int .i64 d, .int .u64 m] by rw [← hN]; exact (R1.out.call hb0).alloc _)
  have R5 := hide (show Row X1 V1.heap.size 143 [.int .i64 s1, .int .i64 s2] by rw [← hN]; exact Row.new V1 _ _)
  have HB3 := hide (show Below w.heap.size w X1 by rw [← hN]; have h := below_call HB2.out hb0; exact h.alloc h.size _)
  rw [hN]
  obtain ⟨g, hg⟩ : ∃ g, V1.heap.size = g := ⟨_, rfl⟩
  rw [hg] at R5 ⊢
  clear hN hg hb0 c1 x0 x1 x2 z0 z1 z2 z3 z4 R0 R1 HB2 HS2
  have x0 := R3.out.cell (k := 0) rfl
  have x1 := R3.out.cell (k := 1) rfl
  have x2 := R3.out.cell (k := 2) rfl
  have z0 := R4.out.cell (k := 0) rfl
  have z1 := R4.out.cell (k := 1) rfl
  have z2 := R4.out.cell (k := 2) rfl
  have z3 := R4.out.cell (k := 3) rfl
  have z4 := R4.out.cell (k := 4) rfl
  go_upto_region 3 with (go_at_call 138; refine (C2.out _).mono ?_; rintro e V2 ⟨rfl, hb0⟩)
  obtain ⟨X2, hN⟩ : ∃ V, V2.alloc (.cells #[.int .i64 t1, .int .i64 t2] 143) = V := ⟨_, rfl⟩
  have R6 := hide (show Row X2 w.heap.size 146 [.int .i64 P, .int .i64 S, .slice A n cp, .int .i64 N] by rw [← hN]; exact (R3.out.call hb0).alloc _)
  have R7 := hide (show Row X2 g 143 [.int .i64 s1, .int .i64 s2] by rw [← hN]; exact (R5.out.call hb0).alloc _)
  have R8 := hide (show Row X2 V2.heap.size 143 [.int .i64 t1, .int .i64 t2] by rw [← hN]; exact Row.new V2 _ _)
  have HB4 := hide (show Below w.heap.size w X2 by rw [← hN]; have h := below_call HB3.out hb0; exact h.alloc h.size _)
  rw [hN]
  obtain ⟨g2, hg⟩ : ∃ g, V2.heap.size = g := ⟨_, rfl⟩
  rw [hg] at R8 ⊢
  clear hN hg hb0 x0 x1 x2 z0 z1 z2 z3 z4 R3 R4 R5 HB3
  have x0 := R6.out.cell (k := 0) rfl
  have x1 := R6.out.cell (k := 1) rfl
  have u0 := R7.out.cell (k := 0) rfl
  have u1 := R7.out.cell (k := 1) rfl
  have c3 := inside_any s1 s2 (S + 16 * P) X2
  have c4 := fun W => inside_any t1 t2 S W
  obtain ⟨b1, hb1⟩ : ∃ v, insB s1 s2 (S + 16 * P) = v := ⟨_, rfl⟩
  obtain ⟨b2, hb2⟩ : ∃ v, insB t1 t2 S = v := ⟨_, rfl⟩
  have HV := hide (show cv = (b1 && b2) by rw [HC.out, ← hb1, ← hb2])
  rw [hb1] at c3
  rw [hb2] at c4
  have C4 := hide c4
  clear hb1 hb2 HC c4
  cases b1 with
  | false =>
    go_wp2_with fail
    refine c3.mono ?_
    rintro e V3 ⟨rfl, hb3⟩
    go_wp2_with fail
    go_ret
    exact ⟨ret_bool HV.out.symm, below_call HB4.out hb3⟩
  | true =>
    go_wp2_with fail
    refine c3.mono ?_
    rintro e V3 ⟨rfl, hb3⟩
    have R9 := R6.out.call hb3
    have R10 := R8.out.call hb3
    have HB5 := hide (below_call HB4.out hb3)
    clear hb3 x0 x1 u0 u1 c3 R6 R7 R8 HB4
    have x1 := R9.cell (k := 1) rfl
    have u0 := R10.cell (k := 0) rfl
    have u1 := R10.cell (k := 1) rfl
    clear R9 R10
    go_wp2_with fail
    refine (C4.out _).mono ?_
    rintro e V4 ⟨rfl, hb4⟩
    go_wp2_with fail
    go_ret
    exact ⟨ret_bool (by rw [HV.out]; cases b2 <;> rfl), below_call HB5.out hb4⟩
end Go.Proofs.YtafegghdhdgioaaDoor
end

section
/-
  The contract of mach's method checkInstr: the first error of an instruction. Condition: the frame's shape is right.
-/
namespace Go.Proofs.YtafegghdhdgioaaDoor
open Go.RowKit

theorem minsE_out {N : Nat} {f : Fm} {x : Ins} (h : exB x.op = false) : minsE N f x = 4 := by unfold minsE; rw [if_pos h]
theorem minsE_in {N : Nat} {f : Fm} {x : Ins} (h : exB x.op = true) : minsE N f x = mrank (mfound N f.code.length x) (covB f.params f.size x) := by unfold minsE; rw [if_neg (by simp [h])]
theorem exB_b {o : Int} (h : exB o = true) : 0 ≤ o ∧ o < 25 := by
  unfold exB at h
  simp only [Bool.and_eq_true] at h
  exact withB_true.1 h.1
theorem mfound_len (N C : Int) (x : Ins) : (mfound N C x).length ≤ 4 := by unfold mfound foundE; split <;> simp
set_option maxHeartbeats 1000000 in
theorem chkinsm_any (P S : Int) (A : Option Addr) (n cp : Nat) (N : Nat) (o a b d m : Int) (w : World) (f : Fm) (hf : Hid (f.params = P ∧ f.size = S ∧ f.code.length = n)) (hP : 0 ≤ P ∧ P ≤ 8) (hS : 0 ≤ S ∧ S ≤ 2147483519) :
    Calls Tryd.prog 89 #[xv P S A n cp N, iv o a b d m] w fun e w' => e = .returned (.int .i64 (minsE N f ⟨o, a, b, d, m⟩)) ∧ Below w.heap.size w w' := by
  obtain ⟨W2, hW2, hb2, hs2, r0, r1⟩ := boxes2q w [.int .i64 P, .int .i64 S, .slice A n cp, .int .i64 N] [.int .i64 o, .int .i64 a, .int .i64 b, .int .i64 d, .int .u64 m] 146 48
  have ce := mexists_any o
  have HW2 := hide hW2
  have HB2 := hide hb2
  have R0 := hide r0
  have R1 := hide r1
  have x0 := r0.cell (k := 0) rfl
  have x1 := r0.cell (k := 1) rfl
  have x2 := r0.cell (k := 2) rfl
  have x3 := r0.cell (k := 3) rfl
  have z0 := r1.cell (k := 0) rfl
  have z1 := r1.cell (k := 1) rfl
  have z2 := r1.cell (k := 2) rfl
  have z3 := r1.cell (k := 3) rfl
  have z4 := r1.cell (k := 4) rfl
  clear hW2 hb2 hs2 r0 r1
  cases he : exB o with
  | false =>
    rw [he] at ce
    have HR := hide (minsE_out (N := N) (f := f) (x := ⟨o, a, b, d, m⟩) he)
    clear he
    go_enter Tryd.func89, Tryd.ntmps89
    go_upto_region 1 with (fail)
    rw [HW2.out]
    go_wp2_with fail
    refine (ce _).mono ?_
    rintro e w' ⟨rfl, rfl⟩
    go_wp2_with fail
    go_ret
    exact ⟨ret_int HR.out.symm, HB2.out⟩
  | true =>
    rw [he] at ce
    have ho := exB_b he
    have HR0 := hide (minsE_in (N := N) (f := f) (x := ⟨o, a, b, d, m⟩) he)
    have HR : Hid (minsE N f ⟨o, a, b, d, m⟩ = mrank (mfound N n ⟨o, a, b, d, m⟩) (covB P S ⟨o, a, b, d, m⟩)) := by
      show minsE N f ⟨o, a, b, d, m⟩ = _
      rw [HR0.out, hf.out.1, hf.out.2.1, hf.out.2.2]
    have HL := hide (mfound_len N n ⟨o, a, b, d, m⟩)
    clear he HR0
    have co := operrm_any P S A n cp N o a b d m W2 ho.1 ho.2
    have cc := fun W => covers_any P S A n cp N o a b d m W hP hS
    obtain ⟨es, hes⟩ : ∃ es, mfound N n ⟨o, a, b, d, m⟩ = es := ⟨_, rfl⟩
    obtain ⟨cv, hcv⟩ : ∃ v, covB P S ⟨o, a, b, d, m⟩ = v := ⟨_, rfl⟩
    rw [hes] at co HR HL
    rw [hcv] at cc HR
    have CC := hide cc
    clear hes hcv cc ho
    go_enter Tryd.func89, Tryd.ntmps89
    go_upto_region 1 with (fail)
    rw [HW2.out]
    clear HW2
    go_wp2_with fail
    refine (ce _).mono ?_
    rintro e w' ⟨rfl, rfl⟩
    go_wp2_with fail
    refine co.mono ?_
    rintro e w3 ⟨A', c', rfl, hsee, hb3⟩
    have R3 := R0.out.call hb3
    have R4 := R1.out.call hb3
    have HB3 := hide (below_call HB2.out hb3)
    clear hb3 co ce x0 x1 x2 x3 z0 z1 z2 z3 z4 R0 R1 HB2
    have x0 := R3.cell (k := 0) rfl
    have x1 := R3.cell (k := 1) rfl
    have x2 := R3.cell (k := 2) rfl
    have x3 := R3.cell (k := 3) rfl
    have z0 := R4.cell (k := 0) rfl
    have z1 := R4.cell (k := 1) rfl
    have z2 := R4.cell (k := 2) rfl
    have z3 := R4.cell (k := 3) rfl
    have z4 := R4.cell (k := 4) rfl
    have hel : es.length ≤ 4611686018427387904 := by have := HL.out; omega
    have k2 := econt_any A' es.length c' es 2 _ w3 (hide rfl) hel (hide hsee)
    have k4 := econt_any A' es.length c' es 4 _ w3 (hide rfl) hel (hide hsee)
    have k5 := econt_any A' es.length c' es 5 _ w3 (hide rfl) hel (hide hsee)
    have k6 := fun W (h : Below w3.heap.size w3 W) => econt_any A' es.length c' es 6 _ W (hide rfl) hel (hide (hsee.below h))
    obtain ⟨q2, hq2⟩ : ∃ q2, es.contains 2 = q2 := ⟨_, rfl⟩
    obtain ⟨q4, hq4⟩ : ∃ q4, es.contains 4 = q4 := ⟨_, rfl⟩
    obtain ⟨q5, hq5⟩ : ∃ q5, es.contains 5 = q5 := ⟨_, rfl⟩
    obtain ⟨q6, hq6⟩ : ∃ q6, es.contains 6 = q6 := ⟨_, rfl⟩
    rw [hq2] at k2
    rw [hq4] at k4
    rw [hq5] at k5
    rw [hq6] at k6
    have HRR : Hid (minsE N f ⟨o, a, b, d, m⟩ = if q2 then 2 else if q4 then 4 else if q5 then 5 else if cv = false then 4 else if q6 then 6 else 0) := by
      show minsE N f ⟨o, a, b, d, m⟩ = _
      rw [HR.out]; unfold mrank; rw [hq2, hq4, hq5, hq6]
    have K2 := hide k2
    have K4 := hide k4
    have K5 := hide k5
    have K6 := hide k6
    clear hq2 hq4 hq5 hq6 k2 k4 k5 k6 HR R3 R4 hsee hel
    go_wp2_with fail
    refine K2.out.mono ?_
    rintro e w' ⟨rfl, rfl⟩
    cases q2 with
    | true =>
      go_wp2_with fail
      go_ret
      exact ⟨ret_int HRR.out.symm, HB3.out⟩
    | false =>
      go_wp2_with fail
      refine K4.out.mono ?_
      rintro e w' ⟨rfl, rfl⟩
      cases q4 with
      | true =>
        go_wp2_with fail
        go_ret
        exact ⟨ret_int HRR.out.symm, HB3.out⟩
      | false =>
        go_wp2_with fail
        refine K5.out.mono ?_
        rintro e w' ⟨rfl, rfl⟩
        cases q5 with
        | true =>
          go_wp2_with fail
          go_ret
          exact ⟨ret_int HRR.out.symm, HB3.out⟩
        | false =>
          go_wp2_with fail
          refine (CC.out _).mono ?_
          rintro e w5 ⟨rfl, hb5⟩
          have K7 := hide (K6.out w5 hb5)
          have HB5 := hide (below_call HB3.out hb5)
          clear hb5 x0 x1 x2 x3 z0 z1 z2 z3 z4
          cases cv with
          | false =>
            go_wp2_with fail
            go_ret
            exact ⟨ret_int HRR.out.symm, HB5.out⟩
          | true =>
            go_wp2_with fail
            refine K7.out.mono ?_
            rintro e w' ⟨rfl, rfl⟩
            cases q6 with
            | true =>
              go_wp2_with fail
              go_ret
              exact ⟨ret_int HRR.out.symm, HB5.out⟩
            | false =>
              go_wp2_with fail
              go_ret
              exact ⟨ret_int HRR.out.symm, HB5.out⟩
end Go.Proofs.YtafegghdhdgioaaDoor
end
