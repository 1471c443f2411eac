import Derived.Test.YtlcmcmocjbeocaaGreatDoorMPmem
import Derived.Test.YtlcmcmocjbeocaaGreatDoorMRefuint
import Derived.Test.YtlcmcmocjbeocaaGreatDoorMQopd
import Derived.Deep.DeepCutAuto
import Derived.Outline
set_option linter.unusedVariables false
set_option linter.unusedSimpArgs false
section
/-
  The contracts of the reference's within, memory, Operands, named, shape (chapter 10). Conditions: those of the types.
-/
namespace Go.Proofs.YtlcmcmocjbeocaaGreatDoor
open Go.RowKit

theorem rwith10_any (n m : Int) (w : World) : Calls Tryz.prog 102 #[.int .i64 n, .int .i64 m] w fun e w' => e = .returned (.bool (withB n m)) ∧ w = w' := by
  by_cases h : 0 ≤ n
  · go_enter Tryz.func102, Tryz.ntmps102
    go_wp2_with fail
    go_ret
    exact ⟨ret_bool (by simp [withB, h]), rfl⟩
  · have hd : decide (0 ≤ n) = false := by simpa using h
    go_enter Tryz.func102, Tryz.ntmps102
    go_wp2_with fail
    go_ret
    exact ⟨ret_bool (by simp [withB, hd]), rfl⟩
theorem rmem10_any (o : Int) (w : World) : Calls Tryz.prog 69 #[.int .i64 o] w fun e w' => e = .returned (.bool (memB o)) ∧ w = w' := by
  by_cases h1 : o = 15
  · subst h1
    go_enter Tryz.func69, Tryz.ntmps69
    go_wp2_with fail
    go_ret
    exact ⟨rfl, rfl⟩
  · by_cases h2 : o = 16
    · subst h2
      go_enter Tryz.func69, Tryz.ntmps69
      go_wp2_with fail
      go_ret
      exact ⟨rfl, rfl⟩
    · have b1 : (o == 15) = false := by simpa using h1
      have b2 : (o == 16) = false := by simpa using h2
      have HE := hide (show memB o = (o == 17) by unfold memB; rw [decide_eq_false h1, decide_eq_false h2]; by_cases h : o = 17 <;> simp [h])
      clear h1 h2
      go_enter Tryz.func69, Tryz.ntmps69
      go_wp2_with fail
      go_ret
      exact ⟨ret_bool HE.out.symm, rfl⟩
theorem mu_use (o : Int) (h0 : 0 ≤ o) (h1 : o < 25) (hm : memB o = false) (hx : exB o = true) : muA o = useA o ∧ muB o = useB o ∧ muC o = useC o ∧ muI o = useI o := by
  have e : ∀ k : Fin 25, memB (k.val : Int) = false → exB (k.val : Int) = true → muA (k.val : Int) = useA (k.val : Int) ∧ muB (k.val : Int) = useB (k.val : Int) ∧ muC (k.val : Int) = useC (k.val : Int) ∧ muI (k.val : Int) = useI (k.val : Int) := by decide
  have := e ⟨o.toNat, by omega⟩
  simp only at this
  rw [Int.toNat_of_nonneg h0] at this
  exact this hm hx
theorem mu_mem (o : Int) (h0 : 0 ≤ o) (h1 : o < 25) (hm : memB o = true) : muA o = true ∧ muB o = true ∧ muC o = true ∧ muI o = false := by
  have e : ∀ k : Fin 25, memB (k.val : Int) = true → muA (k.val : Int) = true ∧ muB (k.val : Int) = true ∧ muC (k.val : Int) = true ∧ muI (k.val : Int) = false := by decide
  have := e ⟨o.toNat, by omega⟩
  simp only at this
  rw [Int.toNat_of_nonneg h0] at this
  exact this hm
set_option maxHeartbeats 400000 in
theorem rop10_any (o : Int) (w : World) (h0 : 0 ≤ o) (h1 : o < 25) (hx : exB o = true) : Calls Tryz.prog 39 #[.int .i64 o] w fun e w' => e = .returned (.tuple #[.bool (muA o), .bool (muB o), .bool (muC o), .bool (muI o)]) ∧ w = w' := by
  have cm := rmem10_any o
  have cu := ropd_any o
  cases hm : memB o with
  | true =>
    obtain ⟨e1, e2, e3, e4⟩ := mu_mem o h0 h1 hm
    rw [hm] at cm
    rw [e1, e2, e3, e4]
    clear e1 e2 e3 e4 hm
    go_enter Tryz.func39, Tryz.ntmps39
    go_wp2_with fail
    refine (cm _).mono ?_
    rintro e w' ⟨rfl, rfl⟩
    go_wp2_with fail
    refine bodyPost_ret (v := .tuple #[.bool true, .bool true, .bool true, .bool false]) (by simp [results, Tryz.results39, go_sem]; first | done | decide) rfl ⟨rfl, rfl⟩
  | false =>
    obtain ⟨e1, e2, e3, e4⟩ := mu_use o h0 h1 hm hx
    rw [hm] at cm
    rw [e1, e2, e3, e4]
    have CU := hide (fun w => cu w h0 h1)
    generalize useA o = ua at CU ⊢
    generalize useB o = ub at CU ⊢
    generalize useC o = uc at CU ⊢
    generalize useI o = ui at CU ⊢
    clear e1 e2 e3 e4 hm cu
    go_enter Tryz.func39, Tryz.ntmps39
    go_wp2_with fail
    refine (cm _).mono ?_
    rintro e w' ⟨rfl, rfl⟩
    go_wp2_with fail
    refine (CU.out _).mono ?_
    rintro e w' ⟨rfl, rfl⟩
    go_wp2_with fail
    refine bodyPost_ret (v := .tuple #[.bool ua, .bool ub, .bool uc, .bool ui]) (by simp [results, Tryz.results39, go_sem]; first | done | decide) rfl ⟨rfl, rfl⟩
set_option maxHeartbeats 1000000 in
theorem rshape10_any (Al : Int) (A : Option Addr) (n c : Nat) (P S : Int) (A1 : Option Addr) (n1 c1 : Nat) (f : Fm) (w : World) (hf : Hid (f.params = P ∧ f.size = S)) :
    Calls Tryz.prog 103 #[tv Al A n c, mv P S A1 n1 c1] w fun e w' => e = .returned (.bool (shB Al f)) ∧ Below w.heap.size w w' := by
  have HE := hide (show shB Al f = (powB Al && (withB P 9 && (withB S 2147483520 && decide (S % Al = 0)))) by unfold shB; rw [hf.out.1, hf.out.2])
  have cp := rpower_any Al
  cases h1 : powB Al with
  | false =>
    rw [h1] at cp HE
    clear h1
    go_enter Tryz.func103, Tryz.ntmps103
    go_wp2_with fail
    refine (cp _).mono ?_
    rintro e w' ⟨rfl, rfl⟩
    go_wp2_with fail
    go_ret
    exact ⟨ret_bool (by rw [HE.out]; rfl), below2 _ _ _⟩
  | true =>
    rw [h1] at cp HE
    obtain ⟨a0, a1⟩ := powB_b h1
    have hane : (Al == 0) = false := by simp; omega
    clear h1
    by_cases g4 : 0 ≤ P
    rotate_left
    · have hd : decide (0 ≤ P) = false := decide_eq_false g4
      have HR := hide (show shB Al f = false by rw [HE.out, withB_false.2 (by omega : ¬ (0 ≤ P ∧ P < 9))]; rfl)
      clear HE
      go_enter Tryz.func103, Tryz.ntmps103
      go_wp2_with fail
      refine (cp _).mono ?_
      rintro e w' ⟨rfl, rfl⟩
      go_wp2_with fail
      go_ret
      exact ⟨ret_bool HR.out.symm, below2 _ _ _⟩
    by_cases g5 : P ≤ 8
    rotate_left
    · have hd : decide (P ≤ 8) = false := decide_eq_false g5
      have HR := hide (show shB Al f = false by rw [HE.out, withB_false.2 (by omega : ¬ (0 ≤ P ∧ P < 9))]; rfl)
      clear HE
      go_enter Tryz.func103, Tryz.ntmps103
      go_wp2_with fail
      refine (cp _).mono ?_
      rintro e w' ⟨rfl, rfl⟩
      go_wp2_with fail
      go_ret
      exact ⟨ret_bool HR.out.symm, below2 _ _ _⟩
    by_cases g6 : 0 ≤ S
    rotate_left
    · have hd : decide (0 ≤ S) = false := decide_eq_false g6
      have HR := hide (show shB Al f = false by rw [HE.out, withB_false.2 (by omega : ¬ (0 ≤ S ∧ S < 2147483520))]; simp)
      clear HE
      go_enter Tryz.func103, Tryz.ntmps103
      go_wp2_with fail
      refine (cp _).mono ?_
      rintro e w' ⟨rfl, rfl⟩
      go_wp2_with fail
      go_ret
      exact ⟨ret_bool HR.out.symm, below2 _ _ _⟩
    by_cases g7 : S ≤ 2147483519
    rotate_left
    · have hd : decide (S ≤ 2147483519) = false := decide_eq_false g7
      have HR := hide (show shB Al f = false by rw [HE.out, withB_false.2 (by omega : ¬ (0 ≤ S ∧ S < 2147483520))]; simp)
      clear HE
      go_enter Tryz.func103, Tryz.ntmps103
      go_wp2_with fail
      refine (cp _).mono ?_
      rintro e w' ⟨rfl, rfl⟩
      go_wp2_with fail
      go_ret
      exact ⟨ret_bool HR.out.symm, below2 _ _ _⟩
    have HR := hide (show shB Al f = decide (S % Al = 0) by rw [HE.out, withB_true.2 (by omega : 0 ≤ P ∧ P < 9), withB_true.2 (by omega : 0 ≤ S ∧ S < 2147483520)]; rfl)
    have m0 := Int.emod_nonneg S (show Al ≠ 0 by omega)
    have m1 := Int.emod_lt_of_pos S (show 0 < Al by omega)
    go_enter Tryz.func103, Tryz.ntmps103
    go_wp2_with fail
    refine (cp _).mono ?_
    rintro e w' ⟨rfl, rfl⟩
    go_wp2_with fail
    go_ret
    exact ⟨ret_bool (by rw [HR.out]; by_cases h : S % Al = 0 <;> simp [h]), below2 _ _ _⟩
theorem okM0 (N n : Int) : okM N 0 n = true := rfl
theorem okM1 (N n : Int) : okM N 1 n = withB n 8 := rfl
theorem okM2 (N n : Int) : okM N 2 n = true := rfl
theorem okM3 (N n : Int) : okM N 3 n = true := rfl
theorem okM4 (N n : Int) : okM N 4 n = withB n N := rfl
theorem okM5 (N n : Int) : okM N 5 n = true := rfl
theorem namB_at {N o a b d m k1 k2 k3 : Int} {im : Bool} (h : mshpOf o = (k1, k2, k3, im)) : namB N ⟨o, a, b, d, m⟩ = (okM N k1 a && (okM N k2 b && okM N k3 d)) := by unfold namB; rw [h]
set_option maxHeartbeats 2000000 in
theorem rnam_a (Al : Int) (A : Option Addr) (n c : Nat) (o a b d m : Int) (w : World) (ho : o = 0 ∨ o = 13 ∨ o = 14) :
    Calls Tryz.prog 143 #[tv Al A n c, iv o a b d m] w fun e w' => e = .returned (.bool (namB n ⟨o, a, b, d, m⟩)) ∧ Below w.heap.size w w' := by
  have c0 := fun W => rwith10_any a 8 W
  obtain ⟨q0, hq0⟩ : ∃ q, withB a 8 = q := ⟨_, rfl⟩
  rw [hq0] at c0
  have HN : Hid (namB n ⟨o, a, b, d, m⟩ = (q0)) := by
    show namB n ⟨o, a, b, d, m⟩ = _
    have hs : mshpOf o = (1, 0, 0, (mshpOf o).2.2.2) := by rcases ho with rfl | rfl | rfl <;> rfl
    rw [namB_at hs]
    simp only [okM0, okM1, hq0, Bool.true_and, Bool.and_true]
  rw [HN.out]
  clear HN hq0
  rcases ho with rfl | rfl | rfl
  all_goals
    go_enter Tryz.func143, Tryz.ntmps143
    go_wp2_with fail
    refine (c0 _).mono ?_
    rintro e w' ⟨rfl, rfl⟩
    go_wp2_with fail
    go_ret
    exact ⟨rfl, below2 _ _ _⟩
set_option maxHeartbeats 2000000 in
theorem rnam_ld (Al : Int) (A : Option Addr) (n c : Nat) (o a b d m : Int) (w : World) (ho : o = 15) :
    Calls Tryz.prog 143 #[tv Al A n c, iv o a b d m] w fun e w' => e = .returned (.bool (namB n ⟨o, a, b, d, m⟩)) ∧ Below w.heap.size w w' := by
  have c0 := fun W => rwith10_any a 8 W
  obtain ⟨q0, hq0⟩ : ∃ q, withB a 8 = q := ⟨_, rfl⟩
  rw [hq0] at c0
  have HN : Hid (namB n ⟨o, a, b, d, m⟩ = (q0)) := by
    show namB n ⟨o, a, b, d, m⟩ = _
    have hs : mshpOf o = (1, 2, 3, (mshpOf o).2.2.2) := by rcases ho with rfl <;> rfl
    rw [namB_at hs]
    simp only [okM1, okM2, okM3, hq0, Bool.true_and, Bool.and_true]
  rw [HN.out]
  clear HN hq0
  rcases ho with rfl
  all_goals
    go_enter Tryz.func143, Tryz.ntmps143
    go_wp2_with fail
    refine (c0 _).mono ?_
    rintro e w' ⟨rfl, rfl⟩
    go_wp2_with fail
    go_ret
    exact ⟨rfl, below2 _ _ _⟩
set_option maxHeartbeats 2000000 in
theorem rnam_br (Al : Int) (A : Option Addr) (n c : Nat) (o a b d m : Int) (w : World) (ho : o = 21) :
    Calls Tryz.prog 143 #[tv Al A n c, iv o a b d m] w fun e w' => e = .returned (.bool (namB n ⟨o, a, b, d, m⟩)) ∧ Below w.heap.size w w' := by
  have c0 := fun W => rwith10_any a 8 W
  obtain ⟨q0, hq0⟩ : ∃ q, withB a 8 = q := ⟨_, rfl⟩
  rw [hq0] at c0
  have HN : Hid (namB n ⟨o, a, b, d, m⟩ = (q0)) := by
    show namB n ⟨o, a, b, d, m⟩ = _
    have hs : mshpOf o = (1, 5, 0, (mshpOf o).2.2.2) := by rcases ho with rfl <;> rfl
    rw [namB_at hs]
    simp only [okM0, okM1, okM5, hq0, Bool.true_and, Bool.and_true]
  rw [HN.out]
  clear HN hq0
  rcases ho with rfl
  all_goals
    go_enter Tryz.func143, Tryz.ntmps143
    go_wp2_with fail
    refine (c0 _).mono ?_
    rintro e w' ⟨rfl, rfl⟩
    go_wp2_with fail
    go_ret
    exact ⟨rfl, below2 _ _ _⟩
set_option maxHeartbeats 2000000 in
theorem rnam_ab (Al : Int) (A : Option Addr) (n c : Nat) (o a b d m : Int) (w : World) (ho : o = 1 ∨ o = 12) :
    Calls Tryz.prog 143 #[tv Al A n c, iv o a b d m] w fun e w' => e = .returned (.bool (namB n ⟨o, a, b, d, m⟩)) ∧ Below w.heap.size w w' := by
  have c0 := fun W => rwith10_any a 8 W
  obtain ⟨q0, hq0⟩ : ∃ q, withB a 8 = q := ⟨_, rfl⟩
  rw [hq0] at c0
  have c1 := fun W => rwith10_any b 8 W
  obtain ⟨q1, hq1⟩ : ∃ q, withB b 8 = q := ⟨_, rfl⟩
  rw [hq1] at c1
  have HN : Hid (namB n ⟨o, a, b, d, m⟩ = (q0 && q1)) := by
    show namB n ⟨o, a, b, d, m⟩ = _
    have hs : mshpOf o = (1, 1, 0, (mshpOf o).2.2.2) := by rcases ho with rfl | rfl <;> rfl
    rw [namB_at hs]
    simp only [okM0, okM1, hq0, hq1, Bool.true_and, Bool.and_true]
  rw [HN.out]
  clear HN hq0 hq1
  rcases ho with rfl | rfl
  all_goals
    go_enter Tryz.func143, Tryz.ntmps143
    go_wp2_with fail
    refine (c0 _).mono ?_
    rintro e w' ⟨rfl, rfl⟩
    cases q0
    · go_wp2_with fail
      go_ret
      exact ⟨rfl, below2 _ _ _⟩
    · go_wp2_with fail
      refine (c1 _).mono ?_
      rintro e w' ⟨rfl, rfl⟩
      go_wp2_with fail
      go_ret
      exact ⟨rfl, below2 _ _ _⟩
set_option maxHeartbeats 2000000 in
theorem rnam_abc (Al : Int) (A : Option Addr) (n c : Nat) (o a b d m : Int) (w : World) (ho : o = 2 ∨ o = 3 ∨ o = 4 ∨ o = 5 ∨ o = 6 ∨ o = 7 ∨ o = 8 ∨ o = 9 ∨ o = 10 ∨ o = 11) :
    Calls Tryz.prog 143 #[tv Al A n c, iv o a b d m] w fun e w' => e = .returned (.bool (namB n ⟨o, a, b, d, m⟩)) ∧ Below w.heap.size w w' := by
  have c0 := fun W => rwith10_any a 8 W
  obtain ⟨q0, hq0⟩ : ∃ q, withB a 8 = q := ⟨_, rfl⟩
  rw [hq0] at c0
  have c1 := fun W => rwith10_any b 8 W
  obtain ⟨q1, hq1⟩ : ∃ q, withB b 8 = q := ⟨_, rfl⟩
  rw [hq1] at c1
  have c2 := fun W => rwith10_any d 8 W
  obtain ⟨q2, hq2⟩ : ∃ q, withB d 8 = q := ⟨_, rfl⟩
  rw [hq2] at c2
  have HN : Hid (namB n ⟨o, a, b, d, m⟩ = (q0 && (q1 && q2))) := by
    show namB n ⟨o, a, b, d, m⟩ = _
    have hs : mshpOf o = (1, 1, 1, (mshpOf o).2.2.2) := by rcases ho with rfl | rfl | rfl | rfl | rfl | rfl | rfl | rfl | rfl | rfl <;> rfl
    rw [namB_at hs]
    simp only [okM1, hq0, hq1, hq2, Bool.true_and, Bool.and_true]
  rw [HN.out]
  clear HN hq0 hq1 hq2
  rcases ho with rfl | rfl | rfl | rfl | rfl | rfl | rfl | rfl | rfl | rfl
  all_goals
    go_enter Tryz.func143, Tryz.ntmps143
    go_wp2_with fail
    refine (c0 _).mono ?_
    rintro e w' ⟨rfl, rfl⟩
    cases q0
    · go_wp2_with fail
      go_ret
      exact ⟨rfl, below2 _ _ _⟩
    · go_wp2_with fail
      refine (c1 _).mono ?_
      rintro e w' ⟨rfl, rfl⟩
      cases q1
      · go_wp2_with fail
        go_ret
        exact ⟨rfl, below2 _ _ _⟩
      · go_wp2_with fail
        refine (c2 _).mono ?_
        rintro e w' ⟨rfl, rfl⟩
        go_wp2_with fail
        go_ret
        exact ⟨rfl, below2 _ _ _⟩
set_option maxHeartbeats 2000000 in
theorem rnam_st (Al : Int) (A : Option Addr) (n c : Nat) (o a b d m : Int) (w : World) (ho : o = 16) :
    Calls Tryz.prog 143 #[tv Al A n c, iv o a b d m] w fun e w' => e = .returned (.bool (namB n ⟨o, a, b, d, m⟩)) ∧ Below w.heap.size w w' := by
  have c0 := fun W => rwith10_any b 8 W
  obtain ⟨q0, hq0⟩ : ∃ q, withB b 8 = q := ⟨_, rfl⟩
  rw [hq0] at c0
  have HN : Hid (namB n ⟨o, a, b, d, m⟩ = (q0)) := by
    show namB n ⟨o, a, b, d, m⟩ = _
    have hs : mshpOf o = (2, 1, 3, (mshpOf o).2.2.2) := by rcases ho with rfl <;> rfl
    rw [namB_at hs]
    simp only [okM1, okM2, okM3, hq0, Bool.true_and, Bool.and_true]
  rw [HN.out]
  clear HN hq0
  rcases ho with rfl
  all_goals
    go_enter Tryz.func143, Tryz.ntmps143
    go_wp2_with fail
    refine (c0 _).mono ?_
    rintro e w' ⟨rfl, rfl⟩
    go_wp2_with fail
    go_ret
    exact ⟨rfl, below2 _ _ _⟩
set_option maxHeartbeats 2000000 in
theorem rnam_ca (Al : Int) (A : Option Addr) (n c : Nat) (o a b d m : Int) (w : World) (ho : o = 22) :
    Calls Tryz.prog 143 #[tv Al A n c, iv o a b d m] w fun e w' => e = .returned (.bool (namB n ⟨o, a, b, d, m⟩)) ∧ Below w.heap.size w w' := by
  have c0 := fun W => rwith10_any a n W
  obtain ⟨q0, hq0⟩ : ∃ q, withB a n = q := ⟨_, rfl⟩
  rw [hq0] at c0
  have HN : Hid (namB n ⟨o, a, b, d, m⟩ = (q0)) := by
    show namB n ⟨o, a, b, d, m⟩ = _
    have hs : mshpOf o = (4, 0, 0, (mshpOf o).2.2.2) := by rcases ho with rfl <;> rfl
    rw [namB_at hs]
    simp only [okM0, okM4, hq0, Bool.true_and, Bool.and_true]
  rw [HN.out]
  clear HN hq0
  rcases ho with rfl
  all_goals
    go_enter Tryz.func143, Tryz.ntmps143
    go_wp2_with fail
    refine (c0 _).mono ?_
    rintro e w' ⟨rfl, rfl⟩
    go_wp2_with fail
    go_ret
    exact ⟨rfl, below2 _ _ _⟩
set_option maxHeartbeats 2000000 in
theorem rnam_mv (Al : Int) (A : Option Addr) (n c : Nat) (o a b d m : Int) (w : World) (ho : o = 17) :
    Calls Tryz.prog 143 #[tv Al A n c, iv o a b d m] w fun e w' => e = .returned (.bool (namB n ⟨o, a, b, d, m⟩)) ∧ Below w.heap.size w w' := by
  have HN : Hid (namB n ⟨o, a, b, d, m⟩ = (true)) := by
    show namB n ⟨o, a, b, d, m⟩ = _
    have hs : mshpOf o = (2, 2, 3, (mshpOf o).2.2.2) := by rcases ho with rfl <;> rfl
    rw [namB_at hs]
    rfl
  rw [HN.out]
  clear HN 
  rcases ho with rfl
  all_goals
    go_enter Tryz.func143, Tryz.ntmps143
    go_wp2_with fail
    go_ret
    exact ⟨rfl, below2 _ _ _⟩
set_option maxHeartbeats 2000000 in
theorem rnam_ju (Al : Int) (A : Option Addr) (n c : Nat) (o a b d m : Int) (w : World) (ho : o = 20) :
    Calls Tryz.prog 143 #[tv Al A n c, iv o a b d m] w fun e w' => e = .returned (.bool (namB n ⟨o, a, b, d, m⟩)) ∧ Below w.heap.size w w' := by
  have HN : Hid (namB n ⟨o, a, b, d, m⟩ = (true)) := by
    show namB n ⟨o, a, b, d, m⟩ = _
    have hs : mshpOf o = (5, 0, 0, (mshpOf o).2.2.2) := by rcases ho with rfl <;> rfl
    rw [namB_at hs]
    rfl
  rw [HN.out]
  clear HN 
  rcases ho with rfl
  all_goals
    go_enter Tryz.func143, Tryz.ntmps143
    go_wp2_with fail
    go_ret
    exact ⟨rfl, below2 _ _ _⟩
set_option maxHeartbeats 2000000 in
theorem rnam_no (Al : Int) (A : Option Addr) (n c : Nat) (o a b d m : Int) (w : World) (ho : o = 23 ∨ o = 24) :
    Calls Tryz.prog 143 #[tv Al A n c, iv o a b d m] w fun e w' => e = .returned (.bool (namB n ⟨o, a, b, d, m⟩)) ∧ Below w.heap.size w w' := by
  have HN : Hid (namB n ⟨o, a, b, d, m⟩ = (true)) := by
    show namB n ⟨o, a, b, d, m⟩ = _
    have hs : mshpOf o = (0, 0, 0, (mshpOf o).2.2.2) := by rcases ho with rfl | rfl <;> rfl
    rw [namB_at hs]
    rfl
  rw [HN.out]
  clear HN 
  rcases ho with rfl | rfl
  all_goals
    go_enter Tryz.func143, Tryz.ntmps143
    go_wp2_with fail
    go_ret
    exact ⟨rfl, below2 _ _ _⟩
theorem rnamed_any (Al : Int) (A : Option Addr) (n c : Nat) (o a b d m : Int) (w : World) (h0 : 0 ≤ o) (h1 : o < 25) (hx : exB o = true) :
    Calls Tryz.prog 143 #[tv Al A n c, iv o a b d m] w fun e w' => e = .returned (.bool (namB n ⟨o, a, b, d, m⟩)) ∧ Below w.heap.size w w' := by
  have hc : (o = 0 ∨ o = 13 ∨ o = 14) ∨ (o = 15) ∨ (o = 21) ∨ (o = 1 ∨ o = 12) ∨ (o = 2 ∨ o = 3 ∨ o = 4 ∨ o = 5 ∨ o = 6 ∨ o = 7 ∨ o = 8 ∨ o = 9 ∨ o = 10 ∨ o = 11) ∨ (o = 16) ∨ (o = 22) ∨ (o = 17) ∨ (o = 20) ∨ (o = 23 ∨ o = 24) := by
    have h18 : o ≠ 18 := by rintro rfl; exact absurd hx (by decide)
    have h19 : o ≠ 19 := by rintro rfl; exact absurd hx (by decide)
    omega
  rcases hc with h | h | h | h | h | h | h | h | h | h
  · exact rnam_a Al A n c o a b d m w h
  · exact rnam_ld Al A n c o a b d m w h
  · exact rnam_br Al A n c o a b d m w h
  · exact rnam_ab Al A n c o a b d m w h
  · exact rnam_abc Al A n c o a b d m w h
  · exact rnam_st Al A n c o a b d m w h
  · exact rnam_ca Al A n c o a b d m w h
  · exact rnam_mv Al A n c o a b d m w h
  · exact rnam_ju Al A n c o a b d m w h
  · exact rnam_no Al A n c o a b d m w h
end Go.Proofs.YtlcmcmocjbeocaaGreatDoor
end
