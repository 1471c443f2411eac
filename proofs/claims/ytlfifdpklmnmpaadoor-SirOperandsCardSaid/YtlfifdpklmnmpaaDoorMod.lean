/-
  The contract of spillframedraw.Mod. Conditions: those of the types; a divisor from 1 to 2^62.
-/
import Derived.Test.YtlfifdpklmnmpaaDoorLeaf
namespace Go.Proofs.YtlfifdpklmnmpaaDoor
open Go.RowKit

/-- A number from 0 to n - 1. -/
def modV (x n : Int) : Int := x % n
theorem tmod_mod (x n : Int) (hn : 1 ≤ n) : (Int.tmod x n + n) % n = x % n := by
  have := Int.mul_tdiv_add_tmod x n
  rw [Int.add_emod_right]
  conv => rhs; rw [← this]
  rw [Int.add_comm, Int.add_mul_emod_self_left]
theorem tmod_b (x n : Int) (hn : 1 ≤ n) : -n < Int.tmod x n ∧ Int.tmod x n < n := by
  have h1 := Int.tmod_lt_of_pos x (show 0 < n by omega)
  have h2 := Int.lt_tmod_of_pos x (show 0 < n by omega)
  omega
theorem mod_any (x n : Int) (w : World) (hn : 1 ≤ n) (hn1 : n ≤ 4611686018427387904) : Calls Tryd.prog 9 #[.int .i64 x, .int .i64 n] w fun e w' => e = .returned (.int .i64 (x % n)) ∧ w = w' := by
  have hb := tmod_b x n hn
  have hm := tmod_mod x n hn
  have h0 := hb.1
  have h1 := hb.2
  have hane : (n == 0) = false := by simp; omega
  clear hb
  obtain ⟨t, ht⟩ : ∃ t, Int.tmod x n = t := ⟨_, rfl⟩
  rw [ht] at hm h0 h1
  go_enter Tryd.func9, Tryd.ntmps9
  go_wp2
  go_ret
  exact ⟨ret_int hm, rfl⟩
end Go.Proofs.YtlfifdpklmnmpaaDoor
