import Derived.Test.YtlcmcmocjbeocaaGreatDoorMBitsm
import Derived.Test.YtlcmcmocjbeocaaGreatDoorMRct
set_option linter.unusedVariables false
set_option linter.unusedSimpArgs false
section
/-
  The contract of extent.Power. Conditions: those of the types.
-/
namespace Go.Proofs.YtlcmcmocjbeocaaGreatDoor
open Go.RowKit

theorem power_any (n : Int) (w : World) : Calls Tryz.prog 93 #[.int .i64 n] w fun e w' => e = .returned (.bool (powB n)) ∧ w = w' := by
  by_cases h0 : 1 ≤ n
  · by_cases h1 : n ≤ 16777216
    · have hb := bits_pow n h0 h1
      generalize powB n = b at hb ⊢
      go_enter Tryz.func93, Tryz.ntmps93
      go_wp2
      go_ret
      exact ⟨rfl, rfl⟩
    · have hp := hide (powB_out (n := n) (by omega))
      go_enter Tryz.func93, Tryz.ntmps93
      go_wp2
      go_ret
      exact ⟨ret_bool hp.out.symm, rfl⟩
  · have hp := hide (powB_out (n := n) (by omega))
    go_enter Tryz.func93, Tryz.ntmps93
    go_wp2
    go_ret
    exact ⟨ret_bool hp.out.symm, rfl⟩

end Go.Proofs.YtlcmcmocjbeocaaGreatDoor
end

section
/-
  The contracts of mach's methods checkOperand, shaped, closed. Conditions: those of the types.
-/
namespace Go.Proofs.YtlcmcmocjbeocaaGreatDoor
open Go.RowKit

set_option maxHeartbeats 1000000 in
theorem chkopm_any (P S : Int) (A : Option Addr) (n cp : Nat) (N k x : Int) (w : World) :
    Calls Tryz.prog 187 #[xv P S A n cp N, .int .i64 k, .int .i64 x] w fun e w' => e = .returned (.int .i64 (mopE N n k x)) ∧ Below w.heap.size w w' := by
  have HE := hide (show mopE N n k x = if k = 0 then (if x = 0 then 0 else 2) else if k = 1 then (if withB x 8 then 0 else 4) else if k = 4 then (if withB x N then 0 else 4) else if k = 3 then (if szB x then 0 else 5) else if k = 5 then (if withB x n then 0 else 6) else 0 from rfl)
  by_cases k0 : k = 0
  · subst k0
    by_cases x0 : x = 0
    · subst x0
      go_enter Tryz.func187, Tryz.ntmps187
      go_wp2_with fail
      go_ret
      exact ⟨ret_int (by rw [HE.out]; simp), below1 _ _⟩
    · have b1 : (x != 0) = true := by simpa using x0
      have HR := hide (show mopE N n 0 x = 2 by rw [HE.out]; simp [x0])
      clear x0 HE
      go_enter Tryz.func187, Tryz.ntmps187
      go_wp2_with fail
      go_ret
      exact ⟨ret_int HR.out.symm, below1 _ _⟩
  · by_cases k1 : k = 1
    · subst k1
      have c := mwithin_any x 8
      obtain ⟨b, hb⟩ : ∃ b, withB x 8 = b := ⟨_, rfl⟩
      rw [hb] at c
      have HR := hide (show mopE N n 1 x = if b then 0 else 4 by rw [HE.out, hb]; simp)
      clear HE hb k0
      cases b with
      | false =>
        go_enter Tryz.func187, Tryz.ntmps187
        go_wp2_with fail
        refine (c _).mono ?_
        rintro e w' ⟨rfl, rfl⟩
        go_wp2_with fail
        go_ret
        exact ⟨ret_int HR.out.symm, below1 _ _⟩
      | true =>
        go_enter Tryz.func187, Tryz.ntmps187
        go_wp2_with fail
        refine (c _).mono ?_
        rintro e w' ⟨rfl, rfl⟩
        go_wp2_with fail
        go_ret
        exact ⟨ret_int HR.out.symm, below1 _ _⟩
    · by_cases k4 : k = 4
      · subst k4
        have c := mwithin_any x N
        obtain ⟨b, hb⟩ : ∃ b, withB x N = b := ⟨_, rfl⟩
        rw [hb] at c
        have HR := hide (show mopE N n 4 x = if b then 0 else 4 by rw [HE.out, hb]; simp)
        clear HE hb k0 k1
        cases b with
        | false =>
          go_enter Tryz.func187, Tryz.ntmps187
          go_wp2_with fail
          refine (c _).mono ?_
          rintro e w' ⟨rfl, rfl⟩
          go_wp2_with fail
          go_ret
          exact ⟨ret_int HR.out.symm, below1 _ _⟩
        | true =>
          go_enter Tryz.func187, Tryz.ntmps187
          go_wp2_with fail
          refine (c _).mono ?_
          rintro e w' ⟨rfl, rfl⟩
          go_wp2_with fail
          go_ret
          exact ⟨ret_int HR.out.symm, below1 _ _⟩
      · by_cases k3 : k = 3
        · subst k3
          have c := vsz_any x
          obtain ⟨b, hb⟩ : ∃ b, szB x = b := ⟨_, rfl⟩
          rw [hb] at c
          have HR := hide (show mopE N n 3 x = if b then 0 else 5 by rw [HE.out, hb]; simp)
          clear HE hb k0 k1 k4
          cases b with
          | false =>
            go_enter Tryz.func187, Tryz.ntmps187
            go_wp2_with fail
            refine (c _).mono ?_
            rintro e w' ⟨rfl, rfl⟩
            go_wp2_with fail
            go_ret
            exact ⟨ret_int HR.out.symm, below1 _ _⟩
          | true =>
            go_enter Tryz.func187, Tryz.ntmps187
            go_wp2_with fail
            refine (c _).mono ?_
            rintro e w' ⟨rfl, rfl⟩
            go_wp2_with fail
            go_ret
            exact ⟨ret_int HR.out.symm, below1 _ _⟩
        · by_cases k5 : k = 5
          · subst k5
            have c := mwithin_any x n
            obtain ⟨b, hb⟩ : ∃ b, withB x n = b := ⟨_, rfl⟩
            rw [hb] at c
            have HR := hide (show mopE N n 5 x = if b then 0 else 6 by rw [HE.out, hb]; simp)
            clear HE hb k0 k1 k4 k3
            cases b with
            | false =>
              go_enter Tryz.func187, Tryz.ntmps187
              go_wp2_with fail
              refine (c _).mono ?_
              rintro e w' ⟨rfl, rfl⟩
              go_wp2_with fail
              go_ret
              exact ⟨ret_int HR.out.symm, below1 _ _⟩
            | true =>
              go_enter Tryz.func187, Tryz.ntmps187
              go_wp2_with fail
              refine (c _).mono ?_
              rintro e w' ⟨rfl, rfl⟩
              go_wp2_with fail
              go_ret
              exact ⟨ret_int HR.out.symm, below1 _ _⟩
          · have HR := hide (show mopE N n k x = 0 by rw [HE.out, if_neg k0, if_neg k1, if_neg k4, if_neg k3, if_neg k5])
            have b0 : (k == 0) = false := by simpa using k0
            have b1 : (k == 1) = false := by simpa using k1
            have b4 : (k == 4) = false := by simpa using k4
            have b3 : (k == 3) = false := by simpa using k3
            have b5 : (k == 5) = false := by simpa using k5
            clear HE k0 k1 k4 k3 k5
            go_enter Tryz.func187, Tryz.ntmps187
            go_wp2_with fail
            go_ret
            exact ⟨ret_int HR.out.symm, below1 _ _⟩

/-- The shape, by numbers. -/
def shV (Al P S : Int) : Bool := powB Al && (withB P 9 && (withB S 2147483520 && decide (S % Al = 0)))
theorem shV_eq (Al : Int) (f : Fm) : shV Al f.params f.size = shB Al f := rfl
set_option maxHeartbeats 1000000 in
theorem shaped_any (P S : Int) (A : Option Addr) (n cp : Nat) (N Al : Int) (w : World) :
    Calls Tryz.prog 167 #[xv P S A n cp N, .int .i64 Al] w fun e w' => e = .returned (.bool (shV Al P S)) ∧ Below w.heap.size w w' := by
  have HE := hide (show shV Al P S = (powB Al && (withB P 9 && (withB S 2147483520 && decide (S % Al = 0)))) from rfl)
  have c1 := power_any Al
  have c2 := mwithin_any P 9
  have c3 := mwithin_any S 2147483520
  cases h1 : powB Al with
  | false =>
    rw [h1] at c1 HE
    clear h1
    go_enter Tryz.func167, Tryz.ntmps167
    go_wp2_with fail
    refine (c1 _).mono ?_
    rintro e w' ⟨rfl, rfl⟩
    go_wp2_with fail
    go_ret
    exact ⟨ret_bool (by rw [HE.out]; rfl), below1 _ _⟩
  | true =>
    cases h2 : withB P 9 with
    | false =>
      rw [h1] at c1 HE
      rw [h2] at c2 HE
      clear h1 h2
      go_enter Tryz.func167, Tryz.ntmps167
      go_wp2_with fail
      refine (c1 _).mono ?_
      rintro e w' ⟨rfl, rfl⟩
      go_wp2_with fail
      refine (c2 _).mono ?_
      rintro e w' ⟨rfl, rfl⟩
      go_wp2_with fail
      go_ret
      exact ⟨ret_bool (by rw [HE.out]; rfl), below1 _ _⟩
    | true =>
      cases h3 : withB S 2147483520 with
      | false =>
        rw [h1] at c1 HE
        rw [h2] at c2 HE
        rw [h3] at c3 HE
        clear h1 h2 h3
        go_enter Tryz.func167, Tryz.ntmps167
        go_wp2_with fail
        refine (c1 _).mono ?_
        rintro e w' ⟨rfl, rfl⟩
        go_wp2_with fail
        refine (c2 _).mono ?_
        rintro e w' ⟨rfl, rfl⟩
        go_wp2_with fail
        refine (c3 _).mono ?_
        rintro e w' ⟨rfl, rfl⟩
        go_wp2_with fail
        go_ret
        exact ⟨ret_bool (by rw [HE.out]; rfl), below1 _ _⟩
      | true =>
        obtain ⟨s0, s1⟩ := withB_true.1 h3
        obtain ⟨a0, a1⟩ := powB_b h1
        have m0 := Int.emod_nonneg S (show Al ≠ 0 by omega)
        have m1 := Int.emod_lt_of_pos S (show 0 < Al by omega)
        have hane : (Al == 0) = false := by simp; omega
        rw [h1] at c1 HE
        rw [h2] at c2 HE
        rw [h3] at c3 HE
        clear h1 h2 h3
        go_enter Tryz.func167, Tryz.ntmps167
        go_wp2_with fail
        refine (c1 _).mono ?_
        rintro e w' ⟨rfl, rfl⟩
        go_wp2_with fail
        refine (c2 _).mono ?_
        rintro e w' ⟨rfl, rfl⟩
        go_wp2_with fail
        refine (c3 _).mono ?_
        rintro e w' ⟨rfl, rfl⟩
        go_wp2_with fail
        go_ret
        exact ⟨ret_bool (by rw [HE.out]; by_cases h : S % Al = 0 <;> simp [h]), below1 _ _⟩

theorem closedB_at' {l : List Ins} {k : Nat} (h : k + 1 = l.length) : closedB l = termB (l[k]'(by omega)).op := by
  unfold closedB
  rw [List.getLast?_eq_getElem?, show l.length - 1 = k by omega, List.getElem?_eq_getElem (by omega)]
set_option maxHeartbeats 1000000 in
theorem mclosed_any (P S : Int) (A : Option Addr) (n cp : Nat) (N : Int) (l : List Ins) (B : Nat) (w : World) (hn : Hid (l.length = n)) (hm : n ≤ 4611686018427387904) (h : Hid (Sees w B A (icells l))) (hB : B ≤ w.heap.size) :
    Calls Tryz.prog 137 #[xv P S A n cp N] w fun e w' => e = .returned (.bool (closedB l)) ∧ Below w.heap.size w w' := by
  cases n with
  | zero =>
    have hc := hide (show closedB l = false by rw [List.eq_nil_of_length_eq_zero hn.out]; rfl)
    go_enter Tryz.func137, Tryz.ntmps137
    go_wp2_with fail
    go_ret
    exact ⟨ret_bool hc.out.symm, below1 _ _⟩
  | succ k =>
    have hk : k < l.length := by have := hn.out; omega
    have hc := hide (closedB_at' (l := l) (k := k) hn.out.symm)
    obtain ⟨b, off, rfl, hb, x0, _, _, _, _⟩ := ins_at h.out hk
    obtain ⟨o, ho⟩ : ∃ o, (l[k]'hk).op = o := ⟨_, rfl⟩
    rw [ho] at x0 hc
    have ct := term_any o
    have x1 : (w.alloc (.cells #[.int .i64 P, .int .i64 S, .slice (some ⟨b, off, none⟩) (k + 1) cp, .int .i64 N] 187)).cell? ⟨b, off + k * 5, none⟩ = some (.int .i64 o) := ((below1 w _).cell (p := ⟨b, off + k * 5, none⟩) (show b < w.heap.size by omega)).trans x0
    have hkz : (0 : Int) ≤ (k : Int) := by omega
    have hkz2 : (0 : Int) < ((k + 1 : Nat) : Int) := by omega
    have hkz1 : (k : Int) < ((k + 1 : Nat) : Int) := by omega
    have hkn : k < k + 1 := by omega
    have e1 : ((k + 1 : Nat) : Int) - 1 = (k : Int) := by omega
    have hbw : b < w.heap.size := by omega
    clear x0 ho
    go_enter Tryz.func137, Tryz.ntmps137
    go_wp2_with fail
    refine (ct _).mono ?_
    rintro e w' ⟨rfl, rfl⟩
    go_wp2_with fail
    go_ret
    exact ⟨ret_bool hc.out.symm, below1 _ _⟩
end Go.Proofs.YtlcmcmocjbeocaaGreatDoor
end
