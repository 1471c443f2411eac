import Derived.Test.YtjgoldlebmfiiaaMMoper
import Derived.Test.YtjgoldlebmfiiaaMMcov
set_option linter.unusedVariables false
set_option linter.unusedSimpArgs false
section
/-
  The contract of mach's method checkInstr: the first error of an instruction. Condition: the frame's shape is right.
-/
namespace Go.Proofs.Ytjgoldlebmfiiaa
open Go.RowKit

theorem minsE_out {N : Nat} {f : Fm} {x : Ins} (h : exB x.op = false) : minsE N f x = 4 := by unfold minsE; rw [if_pos h]
theorem minsE_in {N : Nat} {f : Fm} {x : Ins} (h : exB x.op = true) : minsE N f x = mrank (mfound N f.code.length x) (covB f.params f.size x) := by unfold minsE; rw [if_neg (by simp [h])]
theorem exB_b {o : Int} (h : exB o = true) : 0 ≤ o ∧ o < 25 := by
  unfold exB at h
  simp only [Bool.and_eq_true] at h
  exact withB_true.1 h.1
theorem mfound_len (N C : Int) (x : Ins) : (mfound N C x).length ≤ 4 := by unfold mfound foundE; split <;> simp
set_option maxHeartbeats 1000000 in
theorem chkinsm_any (P S : Int) (A : Option Addr) (n cp : Nat) (N : Nat) (o a b d m : Int) (w : World) (f : Fm) (hf : Hid (f.params = P ∧ f.size = S ∧ f.code.length = n)) (hP : 0 ≤ P ∧ P ≤ 8) (hS : 0 ≤ S ∧ S ≤ 2147483519) :
    Calls Try.prog 43 #[xv P S A n cp N, iv o a b d m] w fun e w' => e = .returned (.int .i64 (minsE N f ⟨o, a, b, d, m⟩)) ∧ Below w.heap.size w w' := by
  obtain ⟨W2, hW2, hb2, hs2, r0, r1⟩ := boxes2q w [.int .i64 P, .int .i64 S, .slice A n cp, .int .i64 N] [.int .i64 o, .int .i64 a, .int .i64 b, .int .i64 d, .int .u64 m] 85 27
  have ce := mexists_any o
  have HW2 := hide hW2
  have HB2 := hide hb2
  have R0 := hide r0
  have R1 := hide r1
  have x0 := r0.cell (k := 0) rfl
  have x1 := r0.cell (k := 1) rfl
  have x2 := r0.cell (k := 2) rfl
  have x3 := r0.cell (k := 3) rfl
  have z0 := r1.cell (k := 0) rfl
  have z1 := r1.cell (k := 1) rfl
  have z2 := r1.cell (k := 2) rfl
  have z3 := r1.cell (k := 3) rfl
  have z4 := r1.cell (k := 4) rfl
  clear hW2 hb2 hs2 r0 r1
  cases he : exB o with
  | false =>
    rw [he] at ce
    have HR := hide (minsE_out (N := N) (f := f) (x := ⟨o, a, b, d, m⟩) he)
    clear he
    go_enter Try.func43, Try.ntmps43
    go_upto_region 1 with (fail)
    rw [HW2.out]
    go_wp2_with fail
    refine (ce _).mono ?_
    rintro e w' ⟨rfl, rfl⟩
    go_wp2_with fail
    go_ret
    exact ⟨ret_int HR.out.symm, HB2.out⟩
  | true =>
    rw [he] at ce
    have ho := exB_b he
    have HR0 := hide (minsE_in (N := N) (f := f) (x := ⟨o, a, b, d, m⟩) he)
    have HR : Hid (minsE N f ⟨o, a, b, d, m⟩ = mrank (mfound N n ⟨o, a, b, d, m⟩) (covB P S ⟨o, a, b, d, m⟩)) := by
      show minsE N f ⟨o, a, b, d, m⟩ = _
      rw [HR0.out, hf.out.1, hf.out.2.1, hf.out.2.2]
    have HL := hide (mfound_len N n ⟨o, a, b, d, m⟩)
    clear he HR0
    have co := operrm_any P S A n cp N o a b d m W2 ho.1 ho.2
    have cc := fun W => covers_any P S A n cp N o a b d m W hP hS
    obtain ⟨es, hes⟩ : ∃ es, mfound N n ⟨o, a, b, d, m⟩ = es := ⟨_, rfl⟩
    obtain ⟨cv, hcv⟩ : ∃ v, covB P S ⟨o, a, b, d, m⟩ = v := ⟨_, rfl⟩
    rw [hes] at co HR HL
    rw [hcv] at cc HR
    have CC := hide cc
    clear hes hcv cc ho
    go_enter Try.func43, Try.ntmps43
    go_upto_region 1 with (fail)
    rw [HW2.out]
    clear HW2
    go_wp2_with fail
    refine (ce _).mono ?_
    rintro e w' ⟨rfl, rfl⟩
    go_wp2_with fail
    refine co.mono ?_
    rintro e w3 ⟨A', c', rfl, hsee, hb3⟩
    have R3 := R0.out.call hb3
    have R4 := R1.out.call hb3
    have HB3 := hide (below_call HB2.out hb3)
    clear hb3 co ce x0 x1 x2 x3 z0 z1 z2 z3 z4 R0 R1 HB2
    have x0 := R3.cell (k := 0) rfl
    have x1 := R3.cell (k := 1) rfl
    have x2 := R3.cell (k := 2) rfl
    have x3 := R3.cell (k := 3) rfl
    have z0 := R4.cell (k := 0) rfl
    have z1 := R4.cell (k := 1) rfl
    have z2 := R4.cell (k := 2) rfl
    have z3 := R4.cell (k := 3) rfl
    have z4 := R4.cell (k := 4) rfl
    have hel : es.length ≤ 4611686018427387904 := by have := HL.out; omega
    have k2 := econt_any A' es.length c' es 2 _ w3 (hide rfl) hel (hide hsee)
    have k4 := econt_any A' es.length c' es 4 _ w3 (hide rfl) hel (hide hsee)
    have k5 := econt_any A' es.length c' es 5 _ w3 (hide rfl) hel (hide hsee)
    have k6 := fun W (h : Below w3.heap.size w3 W) => econt_any A' es.length c' es 6 _ W (hide rfl) hel (hide (hsee.below h))
    obtain ⟨q2, hq2⟩ : ∃ q2, es.contains 2 = q2 := ⟨_, rfl⟩
    obtain ⟨q4, hq4⟩ : ∃ q4, es.contains 4 = q4 := ⟨_, rfl⟩
    obtain ⟨q5, hq5⟩ : ∃ q5, es.contains 5 = q5 := ⟨_, rfl⟩
    obtain ⟨q6, hq6⟩ : ∃ q6, es.contains 6 = q6 := ⟨_, rfl⟩
    rw [hq2] at k2
    rw [hq4] at k4
    rw [hq5] at k5
    rw [hq6] at k6
    have HRR : Hid (minsE N f ⟨o, a, b, d, m⟩ = if q2 then 2 else if q4 then 4 else if q5 then 5 else if cv = false then 4 else if q6 then 6 else 0) := by
      show minsE N f ⟨o, a, b, d, m⟩ = _
      rw [HR.out]; unfold mrank; rw [hq2, hq4, hq5, hq6]
    have K2 := hide k2
    have K4 := hide k4
    have K5 := hide k5
    have K6 := hide k6
    clear hq2 hq4 hq5 hq6 k2 k4 k5 k6 HR R3 R4 hsee hel
    go_wp2_with fail
    refine K2.out.mono ?_
    rintro e w' ⟨rfl, rfl⟩
    cases q2 with
    | true =>
      go_wp2_with fail
      go_ret
      exact ⟨ret_int HRR.out.symm, HB3.out⟩
    | false =>
      go_wp2_with fail
      refine K4.out.mono ?_
      rintro e w' ⟨rfl, rfl⟩
      cases q4 with
      | true =>
        go_wp2_with fail
        go_ret
        exact ⟨ret_int HRR.out.symm, HB3.out⟩
      | false =>
        go_wp2_with fail
        refine K5.out.mono ?_
        rintro e w' ⟨rfl, rfl⟩
        cases q5 with
        | true =>
          go_wp2_with fail
          go_ret
          exact ⟨ret_int HRR.out.symm, HB3.out⟩
        | false =>
          go_wp2_with fail
          refine (CC.out _).mono ?_
          rintro e w5 ⟨rfl, hb5⟩
          have K7 := hide (K6.out w5 hb5)
          have HB5 := hide (below_call HB3.out hb5)
          clear hb5 x0 x1 x2 x3 z0 z1 z2 z3 z4
          cases cv with
          | false =>
            go_wp2_with fail
            go_ret
            exact ⟨ret_int HRR.out.symm, HB5.out⟩
          | true =>
            go_wp2_with fail
            refine K7.out.mono ?_
            rintro e w' ⟨rfl, rfl⟩
            cases q6 with
            | true =>
              go_wp2_with fail
              go_ret
              exact ⟨ret_int HRR.out.symm, HB5.out⟩
            | false =>
              go_wp2_with fail
              go_ret
              exact ⟨ret_int HRR.out.symm, HB5.out⟩
end Go.Proofs.Ytjgoldlebmfiiaa
end
