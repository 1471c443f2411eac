/-
  The contracts of varint.Len, spillframeref01.Len, awake, the zigzag functions and Mod, for every argument (Mod: a modulus from 1 to 100,000).
-/
import Derived.Test.YtbfnbhjmbheokaaLen
import Derived.Test.YtbfnbhjmbheokaaBitsm
namespace Go.Proofs.Ytbfnbhjmbheokaa
open Go.RowKit

set_option maxRecDepth 100000 in
set_option maxHeartbeats 400000 in
theorem len_any (v : Int) (w : World) (h0 : 0 ≤ v) (hv : v ≤ 18446744073709551615) : Calls Try.prog 14 #[.int .u64 v] w fun e w' => e = .returned (.int .i64 (lenv v.toNat)) ∧ w = w' := by
  go_enter Try.func14, Try.ntmps14
  go_wp2_with fail
  rw [or_one_u64 v h0 hv]
  refine (len64_any (2 * (v / 2) + 1) _ (by omega) (by omega)).mono ?_
  rintro e w' ⟨L, rfl, hL, hL64, rfl⟩
  have HL := hide (lenv_of_bits v.toNat (2 * (v / 2) + 1).toNat L (by omega) hL)
  clear hL
  go_wp2
  go_ret
  exact ⟨by simp; rw [← HL.out]; omega, rfl⟩

set_option maxRecDepth 100000 in
set_option maxHeartbeats 400000 in
theorem reflen_any (v : Int) (w : World) (h0 : 0 ≤ v) (hv : v ≤ 18446744073709551615) : Calls Try.prog 15 #[.int .u64 v] w fun e w' => e = .returned (.int .i64 (lenv v.toNat)) ∧ w = w' := by
  have hl := lenv_le v.toNat (by omega)
  go_enter Try.func15, Try.ntmps15
  go_wp2
  go_loop [0, 3] (fun a k => ∃ (u : Int) (j : Nat), 0 ≤ u ∧ u ≤ 18446744073709551615 ∧ j ≤ 10 ∧ a = .int .u64 u ∧ k = .int .i64 j ∧ Hid (j + lenv u.toNat = lenv v.toNat + 1)) (fun a _ => (intOf a).toNat)
  case atStart => exact ⟨v, 1, h0, hv, by omega, rfl, rfl, by show _ = _; omega⟩
  case round =>
    obtain ⟨u, j, hu0, hu1, hj, rfl, rfl, hr⟩ := hrel
    by_cases hlt : 128 ≤ u
    · have hg := hide (lenv_great (v := u.toNat) (by omega))
      have hp := lenv_pos (u.toNat / 128)
      have hj9 : j ≤ 9 := by have := hr.out; have := hg.out; omega
      clear hp
      go_wp2
      go_round
      case rel => exact ⟨u / 128, j + 1, by omega, by omega, by omega, rfl, by go_num, by
        have h1 := hr.out
        have h2 := hg.out
        show _ = _
        rw [show (u / 128).toNat = u.toNat / 128 by omega]
        omega⟩
      case measure => simp [intOf]; omega
    · have hs := hide (lenv_small (v := u.toNat) (by omega))
      go_wp2
      go_ret
      exact ⟨by simp; have := hr.out; have := hs.out; omega, rfl⟩

theorem lenv_300 : lenv (300 : Int).toNat = 2 := by rw [show (300 : Int).toNat = 300 from rfl, lenv_great (by omega), lenv_small (by omega)]
theorem len_300 (w : World) : Calls Try.prog 14 #[.int .u64 300] w fun e w' => e = .returned (.int .i64 2) ∧ w = w' :=
  (len_any 300 w (by omega) (by omega)).mono fun _ _ h => by rw [lenv_300] at h; exact h

set_option maxHeartbeats 400000 in
theorem awake_any (w : World) : Calls Try.prog 8 #[] w fun e w' => e = .returned (.bool true) ∧ w = w' := by
  go_enter Try.func8, Try.ntmps8
  go_wp2_with fail
  refine (len_300 _).mono ?_
  rintro e w' ⟨rfl, rfl⟩
  go_wp2
  go_ret
  exact ⟨rfl, rfl⟩

set_option maxRecDepth 100000 in
set_option maxHeartbeats 400000 in
theorem zigzag_any (v : Int) (w : World) (h0 : -9223372036854775808 ≤ v) (hv : v ≤ 9223372036854775807) : Calls Try.prog 23 #[.int .i64 v] w fun e w' => e = .returned (.int .u64 (zz v)) ∧ w = w' := by
  go_enter Try.func23, Try.ntmps23
  go_wp2
  all_goals first
    | (exfalso; revert ‹IntKind.u64.signed = true›; decide)
    | (go_ret
       refine ⟨ret_int ?_, rfl⟩
       first | exact zz_neg v h0 (by omega) | (unfold zz; rw [if_neg (by omega)]; omega))

set_option maxRecDepth 100000 in
set_option maxHeartbeats 400000 in
theorem refzigzag_any (v : Int) (w : World) (h0 : -9223372036854775808 ≤ v) (hv : v ≤ 9223372036854775807) : Calls Try.prog 24 #[.int .i64 v] w fun e w' => e = .returned (.int .u64 (zz v)) ∧ w = w' := by
  go_enter Try.func24, Try.ntmps24
  go_wp2
  go_ret
  exact ⟨ret_int (zz_ref v h0 hv), rfl⟩

set_option maxRecDepth 100000 in
set_option maxHeartbeats 400000 in
theorem unzigzag_any (v : Int) (w : World) (h0 : 0 ≤ v) (hv : v ≤ 18446744073709551615) : Calls Try.prog 26 #[.int .u64 v] w fun e w' => e = .returned (.int .i64 (unzz v)) ∧ w = w' := by
  have ha := hide (and_one_u64 v h0 hv)
  by_cases h1 : v % 2 = 1
  · have hb : (bits BinOp.and IntKind.u64 v 1 == 1) = true := by rw [ha.out, h1]; rfl
    have H1 := hide h1
    clear h1
    go_enter Try.func26, Try.ntmps26
    go_wp2
    all_goals first
      | (exfalso; revert ‹¬ IntKind.i64.signed = true›; decide)
      | (go_ret
         refine ⟨ret_int ?_, rfl⟩
         unfold unzz; rw [if_pos H1.out]; exact not_i64 _ (by omega) (by omega))
  · have hb : (bits BinOp.and IntKind.u64 v 1 == 1) = false := by rw [ha.out]; simpa using h1
    have H1 := hide h1
    clear h1
    go_enter Try.func26, Try.ntmps26
    go_wp2
    go_ret
    exact ⟨ret_int (by unfold unzz; rw [if_neg H1.out]), rfl⟩

set_option maxRecDepth 100000 in
set_option maxHeartbeats 400000 in
theorem mod_any (x n : Int) (w : World) (hn : 1 ≤ n) (hn2 : n ≤ 100000) : Calls Try.prog 16 #[.int .i64 x, .int .i64 n] w fun e w' => e = .returned (.int .i64 (x % n)) ∧ w = w' := by
  go_enter Try.func16, Try.ntmps16
  go_wp2
  go_ret
  exact ⟨ret_int (mod_fact x n hn hn2), rfl⟩
end Go.Proofs.Ytbfnbhjmbheokaa
