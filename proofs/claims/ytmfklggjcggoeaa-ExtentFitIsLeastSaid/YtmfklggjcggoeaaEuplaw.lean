/-
  The walk of the law ExtentUpIsLeast: for all n and k it returns true, and what was in memory before the call is as it was. Conditions: those of the types.
-/
import Derived.Test.YtmfklggjcggoeaaEleaf
namespace Go.Proofs.Ytmfklggjcggoeaa
open Go.RowKit

theorem awake_any (w : World) : Calls Try.prog 9 #[] w fun e w' => e = .returned (.bool true) ∧ w = w' := by
  have c := up_any 17 16
  rw [show upV 17 16 = 32 by decide, show upE 17 16 = 0 by decide] at c
  go_enter Try.func9, Try.ntmps9
  go_wp2_with fail
  refine (c _).mono ?_
  rintro e w' ⟨rfl, rfl⟩
  go_wp2_with fail
  go_ret
  exact ⟨rfl, rfl⟩

/-- The power that the law's shift gives. -/
theorem shift_pow (k m : Int) (hm : 1 ≤ m) (hm1 : m ≤ 26) : ∃ p : Int, wrap64 (2 ^ (k % m).toNat) = p ∧ 1 ≤ p ∧ p ≤ 33554432 ∧ ((k % m).toNat ≤ 24 → powB p = true) ∧ Hid (p = (2 : Int) ^ (k % m).toNat) := by
  have h0 := Int.emod_nonneg k (show m ≠ 0 by omega)
  have h1 := Int.emod_lt_of_pos k (show 0 < m by omega)
  generalize hj : (k % m).toNat = j
  have hj25 : j ≤ 25 := by omega
  have hb : (1 : Int) ≤ (2 : Int) ^ j ∧ (2 : Int) ^ j ≤ 33554432 := by
    rcases Nat.lt_or_ge j 25 with h | h
    · have := two_pow_b (k := j) (by omega)
      omega
    · obtain rfl : j = 25 := by omega
      decide
  refine ⟨(2 : Int) ^ j, ?_, hb.1, hb.2, fun h => powB_iff.2 ⟨j, h, rfl⟩, hide rfl⟩
  generalize (2 : Int) ^ j = q at hb
  unfold wrap64
  omega

set_option maxHeartbeats 400000 in
theorem uplaw_walk (n k : Int) (w : World) (k0 : 0 ≤ k) (k1 : k ≤ 255) :
    Calls Try.prog 4 #[.int .i64 n, .int .u8 k] w fun e w' => e = .returned (.bool true) ∧ Below w.heap.size w w' := by
  obtain ⟨p, hp, p0, _, hpw, _⟩ := shift_pow k 25 (by omega) (by omega)
  have hpow := hpw (by omega)
  have p1 := (powB_b hpow).2
  have x0 := Int.emod_nonneg n (show (2147483647 : Int) ≠ 0 by omega)
  have x1 := Int.emod_lt_of_pos n (show (0 : Int) < 2147483647 by omega)
  have c0 := mod_any n 2147483647 w (by omega) (by omega)
  clear hpw
  generalize n % 2147483647 = x at x0 x1 c0
  have hx : bndB x = true := bndB_iff.2 (by omega)
  have c1 := up_any x p w
  by_cases hs : upM x p ≤ 2147483647
  · obtain ⟨e1, e2⟩ := up_ok hx hpow hs
    rw [e1, e2] at c1
    have hb := upM_b x (show 0 < p by omega)
    have hd := upM_dvd x p
    generalize upM x p = u at c1 hb hd hs
    have b0 := hb.1
    have b1 := hb.2
    have hu : bndB u = true := bndB_iff.2 (by omega)
    have c2 := up_any u p w
    have hself := upM_self (show 0 < p by omega) hd
    obtain ⟨e3, e4⟩ := up_ok hu hpow (by omega)
    rw [e3, e4, hself] at c2
    have hz : (u % p == 0) = true := by simpa using Int.emod_eq_zero_of_dvd hd
    have hpz : (p == 0) = false := by simp; omega
    clear e1 e2 e3 e4 hself hd hb hu hx hpow
    go_enter Try.func4, Try.ntmps4
    go_wp2_with fail
    refine (awake_any _).mono ?_
    rintro e w' ⟨rfl, rfl⟩
    go_wp2_with fail
    refine c0.mono ?_
    rintro e w' ⟨rfl, rfl⟩
    go_wp2_with fail
    refine c1.mono ?_
    rintro e w' ⟨rfl, rfl⟩
    go_wp2_with fail
    refine c2.mono ?_
    rintro e w' ⟨rfl, rfl⟩
    go_wp2_with fail
    go_ret
    exact ⟨rfl, Below.refl _ _⟩
  · obtain ⟨e1, e2⟩ := up_great hx hpow (by omega)
    rw [e1, e2] at c1
    have hb := upM_b x (show 0 < p by omega)
    have hg : 2147483647 - p < x := by omega
    clear e1 e2 hx hpow hs hb
    go_enter Try.func4, Try.ntmps4
    go_wp2_with fail
    refine (awake_any _).mono ?_
    rintro e w' ⟨rfl, rfl⟩
    go_wp2_with fail
    refine c0.mono ?_
    rintro e w' ⟨rfl, rfl⟩
    go_wp2_with fail
    refine c1.mono ?_
    rintro e w' ⟨rfl, rfl⟩
    go_wp2_with fail
    go_ret
    exact ⟨rfl, Below.refl _ _⟩
end Go.Proofs.Ytmfklggjcggoeaa
