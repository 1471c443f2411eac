/-
  The contracts of the functions on numbers: extent.bound, Power, Add, Up; the reference's Bound, Power, Add, Up, Size; spillframedraw.Mod. Conditions: those of the types.
-/
import Derived.Test.YtmfklggjcggoeaaEmath
import Derived.ProofKit
namespace Go.Proofs.Ytmfklggjcggoeaa
open Go.RowKit

theorem ret_bool {a b : Bool} (h : a = b) : Ending.returned (.bool a) = .returned (.bool b) := by rw [h]
theorem ret_two {a b c d : Int} (h : a = b) (h' : c = d) : Ending.returned (.tuple #[.int .i64 a, .int .i64 c]) = .returned (.tuple #[.int .i64 b, .int .i64 d]) := by rw [h, h']
/-- An int. -/
def isI (n : Int) : Prop := -9223372036854775808 ≤ n ∧ n ≤ 9223372036854775807

theorem bound_any (n : Int) (w : World) : Calls Try.prog 31 #[.int .i64 n] w fun e w' => e = .returned (.bool (bndB n)) ∧ w = w' := by
  go_enter Try.func31, Try.ntmps31
  by_cases h : 0 ≤ n
  · go_wp2
    go_ret
    exact ⟨ret_bool (by simp [bndB, h]), rfl⟩
  · go_wp2
    go_ret
    exact ⟨ret_bool (by simp [bndB]; omega), rfl⟩
theorem rbound_any (n : Int) (w : World) : Calls Try.prog 32 #[.int .i64 n] w fun e w' => e = .returned (.bool (bndB n)) ∧ w = w' := by
  go_enter Try.func32, Try.ntmps32
  by_cases h : 0 ≤ n
  · go_wp2
    go_ret
    exact ⟨ret_bool (by simp [bndB, h]), rfl⟩
  · go_wp2
    go_ret
    exact ⟨ret_bool (by simp [bndB]; omega), rfl⟩

theorem power_any (n : Int) (w : World) : Calls Try.prog 15 #[.int .i64 n] w fun e w' => e = .returned (.bool (powB n)) ∧ w = w' := by
  by_cases h0 : 1 ≤ n
  · by_cases h1 : n ≤ 16777216
    · have hb := bits_pow n h0 h1
      generalize powB n = b at hb ⊢
      go_enter Try.func15, Try.ntmps15
      go_wp2
      go_ret
      exact ⟨rfl, rfl⟩
    · have hp := hide (powB_out (n := n) (by omega))
      go_enter Try.func15, Try.ntmps15
      go_wp2
      go_ret
      exact ⟨ret_bool hp.out.symm, rfl⟩
  · have hp := hide (powB_out (n := n) (by omega))
    go_enter Try.func15, Try.ntmps15
    go_wp2
    go_ret
    exact ⟨ret_bool hp.out.symm, rfl⟩

set_option maxHeartbeats 400000 in
theorem rpower_any (n : Int) (w : World) : Calls Try.prog 16 #[.int .i64 n] w fun e w' => e = .returned (.bool (powB n)) ∧ w = w' := by
  go_enter Try.func16, Try.ntmps16
  go_wp2
  go_loop [3] (fun i => ∃ (k : Nat) (p : Int), k ≤ 25 ∧ Hid (p = (2 : Int) ^ k) ∧ 1 ≤ p ∧ p ≤ 33554432 ∧ i = .int .i64 p ∧ Hid (∀ j, j < k → n ≠ (2 : Int) ^ j)) (fun i => (33554432 - intOf i).toNat)
  case atStart => exact ⟨0, 1, by omega, hide rfl, by omega, by omega, rfl, hide fun j hj => by omega⟩
  case round =>
    obtain ⟨k, p, hk, hp, p0, p1, rfl, hno⟩ := hrel
    by_cases hlt : p ≤ 16777216
    · by_cases he : n = p
      · subst he
        have hr := hide (powB_iff.2 ⟨k, by
          rcases Nat.lt_or_ge 24 k with h1 | h1
          · obtain rfl : k = 25 := by omega
            have := hp.out
            omega
          · exact h1, hp.out⟩)
        go_wp2
        go_ret
        exact ⟨ret_bool hr.out.symm, rfl⟩
      · have hbe : (n == p) = false := by simpa using he
        have hk24 : k ≤ 24 := by
          rcases Nat.lt_or_ge 24 k with h1 | h1
          · obtain rfl : k = 25 := by omega
            have := hp.out
            omega
          · exact h1
        go_wp2
        go_round
        case rel =>
          refine ⟨k + 1, p * 2, by omega, hide ?_, by omega, by omega, rfl, hide fun j hj => ?_⟩
          · rw [hp.out, Int.pow_succ]
          · rcases Nat.lt_or_ge j k with h1 | h1
            · exact hno.out j h1
            · obtain rfl : j = k := by omega
              rw [← hp.out]; exact he
        case measure => simp [intOf]; omega
    · have hr : Hid (powB n = false) := by
        show powB n = false
        cases e : powB n with
        | false => rfl
        | true =>
          obtain ⟨j, hj, ej⟩ := powB_iff.1 e
          have := hp.out
          rcases Nat.lt_or_ge j k with h1 | h1
          · exact absurd ej (hno.out j h1)
          · have h2 := (two_pow_b (k := k) (by omega)).2
            omega
      go_wp2
      go_ret
      exact ⟨ret_bool hr.out.symm, rfl⟩

set_option maxHeartbeats 400000 in
theorem add_any (x y : Int) (w : World) : Calls Try.prog 13 #[.int .i64 x, .int .i64 y] w fun e w' => e = .returned (.tuple #[.int .i64 (addV x y), .int .i64 (addE x y)]) ∧ w = w' := by
  have cx := bound_any x
  have cy := bound_any y
  cases hx : bndB x with
  | false =>
    obtain ⟨hv, he⟩ := add_bad (x := x) (y := y) (by rw [hx]; rfl)
    rw [hx] at cx
    have Hv := hide hv
    have He := hide he
    clear hx hv he
    go_enter Try.func13, Try.ntmps13
    go_wp2_with (go_at_call 31; refine (cx _).mono ?_; rintro e w' ⟨rfl, rfl⟩)
    go_ret2
    exact ⟨ret_two Hv.out.symm He.out.symm, rfl⟩
  | true =>
    cases hy : bndB y with
    | false =>
      obtain ⟨hv, he⟩ := add_bad (x := x) (y := y) (by rw [hx, hy]; rfl)
      rw [hx] at cx
      rw [hy] at cy
      have Hv := hide hv
      have He := hide he
      clear hx hy hv he
      go_enter Try.func13, Try.ntmps13
      go_wp2_with fail
      refine (cx _).mono ?_
      rintro e w' ⟨rfl, rfl⟩
      go_wp2_with fail
      refine (cy _).mono ?_
      rintro e w' ⟨rfl, rfl⟩
      go_wp2_with fail
      go_ret2
      exact ⟨ret_two Hv.out.symm He.out.symm, rfl⟩
    | true =>
      obtain ⟨x0, x1⟩ := bndB_iff.1 hx
      obtain ⟨y0, y1⟩ := bndB_iff.1 hy
      rw [hx] at cx
      rw [hy] at cy
      by_cases hs : x + y ≤ 2147483647
      · obtain ⟨hv, he⟩ := add_ok hx hy hs
        have Hv := hide hv
        have He := hide he
        clear hx hy hv he
        have hg : ¬ (2147483647 - y < x) := by omega
        go_enter Try.func13, Try.ntmps13
        go_wp2_with fail
        refine (cx _).mono ?_
        rintro e w' ⟨rfl, rfl⟩
        go_wp2_with fail
        refine (cy _).mono ?_
        rintro e w' ⟨rfl, rfl⟩
        go_wp2_with fail
        go_ret2
        exact ⟨ret_two Hv.out.symm He.out.symm, rfl⟩
      · obtain ⟨hv, he⟩ := add_great hx hy (by omega)
        have Hv := hide hv
        have He := hide he
        clear hx hy hv he
        have hg : 2147483647 - y < x := by omega
        go_enter Try.func13, Try.ntmps13
        go_wp2_with fail
        refine (cx _).mono ?_
        rintro e w' ⟨rfl, rfl⟩
        go_wp2_with fail
        refine (cy _).mono ?_
        rintro e w' ⟨rfl, rfl⟩
        go_wp2_with fail
        go_ret2
        exact ⟨ret_two Hv.out.symm He.out.symm, rfl⟩
theorem radd_any (x y : Int) (w : World) : Calls Try.prog 14 #[.int .i64 x, .int .i64 y] w fun e w' => e = .returned (.tuple #[.int .i64 (addV x y), .int .i64 (addE x y)]) ∧ w = w' := by
  have cx := rbound_any x
  have cy := rbound_any y
  cases hx : bndB x with
  | false =>
    obtain ⟨hv, he⟩ := add_bad (x := x) (y := y) (by rw [hx]; rfl)
    rw [hx] at cx
    have Hv := hide hv
    have He := hide he
    clear hx hv he
    go_enter Try.func14, Try.ntmps14
    go_wp2_with fail
    refine (cx _).mono ?_
    rintro e w' ⟨rfl, rfl⟩
    go_wp2_with fail
    go_ret2
    exact ⟨ret_two Hv.out.symm He.out.symm, rfl⟩
  | true =>
    cases hy : bndB y with
    | false =>
      obtain ⟨hv, he⟩ := add_bad (x := x) (y := y) (by rw [hx, hy]; rfl)
      rw [hx] at cx
      rw [hy] at cy
      have Hv := hide hv
      have He := hide he
      clear hx hy hv he
      go_enter Try.func14, Try.ntmps14
      go_wp2_with fail
      refine (cx _).mono ?_
      rintro e w' ⟨rfl, rfl⟩
      go_wp2_with fail
      refine (cy _).mono ?_
      rintro e w' ⟨rfl, rfl⟩
      go_wp2_with fail
      go_ret2
      exact ⟨ret_two Hv.out.symm He.out.symm, rfl⟩
    | true =>
      obtain ⟨x0, x1⟩ := bndB_iff.1 hx
      obtain ⟨y0, y1⟩ := bndB_iff.1 hy
      rw [hx] at cx
      rw [hy] at cy
      by_cases hs : x + y ≤ 2147483647
      · obtain ⟨hv, he⟩ := add_ok hx hy hs
        have Hv := hide hv
        have He := hide he
        clear hx hy hv he
        go_enter Try.func14, Try.ntmps14
        go_wp2_with fail
        refine (cx _).mono ?_
        rintro e w' ⟨rfl, rfl⟩
        go_wp2_with fail
        refine (cy _).mono ?_
        rintro e w' ⟨rfl, rfl⟩
        go_wp2_with fail
        go_ret2
        exact ⟨ret_two Hv.out.symm He.out.symm, rfl⟩
      · obtain ⟨hv, he⟩ := add_great hx hy (by omega)
        have Hv := hide hv
        have He := hide he
        clear hx hy hv he
        have hg : 2147483647 < x + y := by omega
        go_enter Try.func14, Try.ntmps14
        go_wp2_with fail
        refine (cx _).mono ?_
        rintro e w' ⟨rfl, rfl⟩
        go_wp2_with fail
        refine (cy _).mono ?_
        rintro e w' ⟨rfl, rfl⟩
        go_wp2_with fail
        go_ret2
        exact ⟨ret_two Hv.out.symm He.out.symm, rfl⟩

/-- Add behind Up: what Up's mask gives. -/
theorem up_add {n a : Int} (hn : bndB n = true) (ha : powB a = true) : addV n ((-n) % a) = upV n a ∧ addE n ((-n) % a) = upE n a := by
  have hb := bndB_iff.1 hn
  have hp := powB_b ha
  have h1 := Int.emod_nonneg (-n) (show a ≠ 0 by omega)
  have h2 := Int.emod_lt_of_pos (-n) (show 0 < a by omega)
  have hm : bndB ((-n) % a) = true := bndB_iff.2 (by omega)
  by_cases hs : n + (-n) % a ≤ 2147483647
  · rw [(add_ok hn hm hs).1, (add_ok hn hm hs).2, (up_ok hn ha hs).1, (up_ok hn ha hs).2]; exact ⟨rfl, rfl⟩
  · rw [(add_great hn hm (by omega)).1, (add_great hn hm (by omega)).2, (up_great hn ha (by unfold upM; omega)).1, (up_great hn ha (by unfold upM; omega)).2]; exact ⟨rfl, rfl⟩
theorem mask_pow {n a : Int} (hn : bndB n = true) (ha : powB a = true) : bits .and .i64 (-n) (a - 1) = (-n) % a := by
  have hb := bndB_iff.1 hn
  obtain ⟨k, hk, rfl⟩ := powB_iff.1 ha
  exact mask_mod n k hk hb.1 hb.2

set_option maxHeartbeats 400000 in
theorem up_any (n a : Int) (w : World) : Calls Try.prog 11 #[.int .i64 n, .int .i64 a] w fun e w' => e = .returned (.tuple #[.int .i64 (upV n a), .int .i64 (upE n a)]) ∧ w = w' := by
  have cx := bound_any n
  have cy := power_any a
  cases hx : bndB n with
  | false =>
    obtain ⟨hv, he⟩ := up_bad (n := n) (a := a) (by rw [hx]; rfl)
    rw [hx] at cx
    have Hv := hide hv
    have He := hide he
    clear hx hv he
    go_enter Try.func11, Try.ntmps11
    go_wp2_with fail
    refine (cx _).mono ?_
    rintro e w' ⟨rfl, rfl⟩
    go_wp2_with fail
    go_ret2
    exact ⟨ret_two Hv.out.symm He.out.symm, rfl⟩
  | true =>
    cases hy : powB a with
    | false =>
      obtain ⟨hv, he⟩ := up_bad (n := n) (a := a) (by rw [hx, hy]; rfl)
      rw [hx] at cx
      rw [hy] at cy
      have Hv := hide hv
      have He := hide he
      clear hx hy hv he
      go_enter Try.func11, Try.ntmps11
      go_wp2_with fail
      refine (cx _).mono ?_
      rintro e w' ⟨rfl, rfl⟩
      go_wp2_with fail
      refine (cy _).mono ?_
      rintro e w' ⟨rfl, rfl⟩
      go_wp2_with fail
      go_ret2
      exact ⟨ret_two Hv.out.symm He.out.symm, rfl⟩
    | true =>
      obtain ⟨x0, x1⟩ := bndB_iff.1 hx
      obtain ⟨y0, y1⟩ := powB_b hy
      have hm := mask_pow hx hy
      obtain ⟨hv, he⟩ := up_add hx hy
      have cc := add_any n ((-n) % a)
      rw [hv, he] at cc
      rw [hx] at cx
      rw [hy] at cy
      generalize (-n) % a = r at hm cc
      clear hx hy hv he
      go_enter Try.func11, Try.ntmps11
      go_wp2_with fail
      refine (cx _).mono ?_
      rintro e w' ⟨rfl, rfl⟩
      go_wp2_with fail
      refine (cy _).mono ?_
      rintro e w' ⟨rfl, rfl⟩
      go_wp2_with fail
      refine (cc _).mono ?_
      rintro e w' ⟨rfl, rfl⟩
      go_wp2_with fail
      go_ret2
      exact ⟨rfl, rfl⟩

set_option maxHeartbeats 800000 in
theorem rup_any (n a : Int) (w : World) : Calls Try.prog 12 #[.int .i64 n, .int .i64 a] w fun e w' => e = .returned (.tuple #[.int .i64 (upV n a), .int .i64 (upE n a)]) ∧ w = w' := by
  have cx := rbound_any n
  have cy := rpower_any a
  cases hx : bndB n with
  | false =>
    obtain ⟨hv, he⟩ := up_bad (n := n) (a := a) (by rw [hx]; rfl)
    rw [hx] at cx
    have Hv := hide hv
    have He := hide he
    clear hx hv he
    go_enter Try.func12, Try.ntmps12
    go_wp2_with fail
    refine (cx _).mono ?_
    rintro e w' ⟨rfl, rfl⟩
    go_wp2_with fail
    go_ret2
    exact ⟨ret_two Hv.out.symm He.out.symm, rfl⟩
  | true =>
    cases hy : powB a with
    | false =>
      obtain ⟨hv, he⟩ := up_bad (n := n) (a := a) (by rw [hx, hy]; rfl)
      rw [hx] at cx
      rw [hy] at cy
      have Hv := hide hv
      have He := hide he
      clear hx hy hv he
      go_enter Try.func12, Try.ntmps12
      go_wp2_with fail
      refine (cx _).mono ?_
      rintro e w' ⟨rfl, rfl⟩
      go_wp2_with fail
      refine (cy _).mono ?_
      rintro e w' ⟨rfl, rfl⟩
      go_wp2_with fail
      go_ret2
      exact ⟨ret_two Hv.out.symm He.out.symm, rfl⟩
    | true =>
      obtain ⟨x0, x1⟩ := bndB_iff.1 hx
      obtain ⟨y0, y1⟩ := powB_b hy
      have m0 := Int.emod_nonneg n (show a ≠ 0 by omega)
      have m1 := Int.emod_lt_of_pos n (show 0 < a by omega)
      rw [hx] at cx
      rw [hy] at cy
      have Hx := hide hx
      have Hy := hide hy
      have hane : (a == 0) = false := by simp; omega
      clear hx hy
      by_cases hz : n % a = 0
      · have hm := hide (upM_zero (show 0 < a by omega) hz)
        have hzb : (n % a != 0) = false := by simp [hz]
        clear hz
        by_cases hs : n ≤ 2147483647
        · have hr := hide (up_ok Hx.out Hy.out (by have := hm.out; omega))
          go_enter Try.func12, Try.ntmps12
          go_wp2_with fail
          refine (cx _).mono ?_
          rintro e w' ⟨rfl, rfl⟩
          go_wp2_with fail
          refine (cy _).mono ?_
          rintro e w' ⟨rfl, rfl⟩
          go_wp2_with fail
          go_ret2
          exact ⟨ret_two (by rw [hr.out.1]; exact hm.out) hr.out.2.symm, rfl⟩
        · omega
      · have hm := hide (upM_ref (show 0 < a by omega) hz)
        have hzb : (n % a != 0) = true := by simp [hz]
        clear hz
        by_cases hs : n - n % a + a ≤ 2147483647
        · have hr := hide (up_ok Hx.out Hy.out (by have := hm.out; omega))
          go_enter Try.func12, Try.ntmps12
          go_wp2_with fail
          refine (cx _).mono ?_
          rintro e w' ⟨rfl, rfl⟩
          go_wp2_with fail
          refine (cy _).mono ?_
          rintro e w' ⟨rfl, rfl⟩
          go_wp2_with fail
          go_ret2
          exact ⟨ret_two (by rw [hr.out.1]; exact hm.out) hr.out.2.symm, rfl⟩
        · have hr := hide (up_great Hx.out Hy.out (by have := hm.out; omega))
          have hg : 2147483647 < n - n % a + a := by omega
          go_enter Try.func12, Try.ntmps12
          go_wp2_with fail
          refine (cx _).mono ?_
          rintro e w' ⟨rfl, rfl⟩
          go_wp2_with fail
          refine (cy _).mono ?_
          rintro e w' ⟨rfl, rfl⟩
          go_wp2_with fail
          go_ret2
          exact ⟨ret_two hr.out.1.symm hr.out.2.symm, rfl⟩

/-- A size of a slot. -/
def szB (n : Int) : Bool := decide (n = 1 ∨ n = 2 ∨ n = 4 ∨ n = 8 ∨ n = 16)
/-- A slot is right. -/
def slotB (s a : Int) : Bool := szB s && powB a
theorem rsz_any (n : Int) (w : World) : Calls Try.prog 40 #[.int .i64 n] w fun e w' => e = .returned (.bool (szB n)) ∧ w = w' := by
  by_cases h1 : n = 1
  · subst h1
    go_enter Try.func40, Try.ntmps40
    go_wp2
    go_ret
    exact ⟨rfl, rfl⟩
  by_cases h2 : n = 2
  · subst h2
    go_enter Try.func40, Try.ntmps40
    go_wp2
    go_ret
    exact ⟨rfl, rfl⟩
  by_cases h4 : n = 4
  · subst h4
    go_enter Try.func40, Try.ntmps40
    go_wp2
    go_ret
    exact ⟨rfl, rfl⟩
  by_cases h8 : n = 8
  · subst h8
    go_enter Try.func40, Try.ntmps40
    go_wp2
    go_ret
    exact ⟨rfl, rfl⟩
  have e1 : (n == 1) = false := by simpa using h1
  have e2 : (n == 2) = false := by simpa using h2
  have e4 : (n == 4) = false := by simpa using h4
  have e8 : (n == 8) = false := by simpa using h8
  have hr := hide (show decide (n = 16) = szB n by simp [szB, h1, h2, h4, h8])
  clear h1 h2 h4 h8
  go_enter Try.func40, Try.ntmps40
  go_wp2
  go_ret
  exact ⟨ret_bool (by rw [← hr.out]; first | rfl | (by_cases h : n = 16 <;> simp [h])), rfl⟩

/-- A number from 0 to n - 1. -/
def modV (x n : Int) : Int := x % n
theorem tmod_mod (x n : Int) (hn : 1 ≤ n) : (Int.tmod x n + n) % n = x % n := by
  have := Int.mul_tdiv_add_tmod x n
  rw [Int.add_emod_right]
  conv => rhs; rw [← this]
  rw [Int.add_comm, Int.add_mul_emod_self_left]
theorem tmod_b (x n : Int) (hn : 1 ≤ n) : -n < Int.tmod x n ∧ Int.tmod x n < n := by
  have h1 := Int.tmod_lt_of_pos x (show 0 < n by omega)
  have h2 := Int.lt_tmod_of_pos x (show 0 < n by omega)
  omega
theorem mod_any (x n : Int) (w : World) (hn : 1 ≤ n) (hn1 : n ≤ 4611686018427387904) : Calls Try.prog 10 #[.int .i64 x, .int .i64 n] w fun e w' => e = .returned (.int .i64 (x % n)) ∧ w = w' := by
  have hb := tmod_b x n hn
  have hm := tmod_mod x n hn
  have h0 := hb.1
  have h1 := hb.2
  have hane : (n == 0) = false := by simp; omega
  clear hb
  obtain ⟨t, ht⟩ : ∃ t, Int.tmod x n = t := ⟨_, rfl⟩
  rw [ht] at hm h0 h1
  go_enter Try.func10, Try.ntmps10
  go_wp2
  go_ret
  exact ⟨ret_int hm, rfl⟩
end Go.Proofs.Ytmfklggjcggoeaa
