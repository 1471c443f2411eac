/-
  Plain mathematics of the operations on bits that the program uses, and of zigzag numbers; no function of the program is named here.
-/
import Derived.Test.YtjhlkfckpadooaaKit
namespace Go.Proofs.Ytjhlkfckpadooaa
open Go.RowKit

theorem or_one (x : Nat) : x ||| 1 = 2 * (x / 2) + 1 := by
  apply Nat.eq_of_testBit_eq
  intro i
  rw [Nat.testBit_or]
  cases i with
  | zero => rw [Nat.testBit_zero, Nat.testBit_zero, Nat.testBit_zero, show (2 * (x / 2) + 1) % 2 = 1 by omega]; simp
  | succ i => rw [Nat.testBit_succ, Nat.testBit_succ, Nat.testBit_succ, show 1 / 2 = 0 by decide, show (2 * (x / 2) + 1) / 2 = x / 2 by omega]; simp

theorem or_one_u64 (v : Int) (h0 : 0 ≤ v) (hv : v ≤ 18446744073709551615) : bits .or .u64 v 1 = 2 * (v / 2) + 1 := by
  rw [u64_or v 1 h0 (by omega) (by omega) (by omega), show (1 : Int).toNat = 1 from rfl, or_one]
  omega

theorem and_one_u64 (v : Int) (h0 : 0 ≤ v) (hv : v ≤ 18446744073709551615) : bits .and .u64 v 1 = v % 2 := by
  obtain ⟨n, rfl⟩ := Int.eq_ofNat_of_zero_le h0
  rw [show (1 : Int) = ((1 : Nat) : Int) from rfl, u64_and_nat n 1 (by omega) (by omega), Nat.and_one_is_mod]
  omega

theorem not_u64 (a : Int) (h0 : 0 ≤ a) (h1 : a ≤ 18446744073709551615) : bits .xor .u64 18446744073709551615 a = 18446744073709551615 - a := by
  obtain ⟨n, rfl⟩ := Int.eq_ofNat_of_zero_le h0
  show IntKind.u64.wrap ((BitVec.ofInt 64 18446744073709551615 ^^^ BitVec.ofInt 64 (n : Int)).toNat : Int) = _
  have e : BitVec.ofInt 64 18446744073709551615 = BitVec.allOnes 64 := by decide
  rw [e, BitVec.allOnes_xor, BitVec.toNat_not, ofInt_u64 n (by omega), IntKind.wrap_u64]
  omega

theorem xor_ones_u64 (a : Int) (h0 : 0 ≤ a) (h1 : a ≤ 18446744073709551615) : bits .xor .u64 a 18446744073709551615 = 18446744073709551615 - a := by
  obtain ⟨n, rfl⟩ := Int.eq_ofNat_of_zero_le h0
  show IntKind.u64.wrap ((BitVec.ofInt 64 (n : Int) ^^^ BitVec.ofInt 64 18446744073709551615).toNat : Int) = _
  have e : BitVec.ofInt 64 18446744073709551615 = BitVec.allOnes 64 := by decide
  rw [e, BitVec.xor_allOnes, BitVec.toNat_not, ofInt_u64 n (by omega), IntKind.wrap_u64]
  omega

theorem xor_zero_u64 (a : Int) (h0 : 0 ≤ a) (h1 : a ≤ 18446744073709551615) : bits .xor .u64 a 0 = a := by
  obtain ⟨n, rfl⟩ := Int.eq_ofNat_of_zero_le h0
  rw [show (0 : Int) = ((0 : Nat) : Int) from rfl, u64_xor_nat n 0 (by omega) (by omega), Nat.xor_zero]

theorem wrap_i64_in (a : Int) (h0 : -9223372036854775808 ≤ a) (h1 : a ≤ 9223372036854775807) : IntKind.i64.wrap a = a := by
  simp [IntKind.wrap, IntKind.bits, IntKind.signed]; omega

theorem not_i64 (a : Int) (h0 : 0 ≤ a) (h1 : a ≤ 9223372036854775807) : bits .xor .i64 (-1) a = -1 - a := by
  obtain ⟨n, rfl⟩ := Int.eq_ofNat_of_zero_le h0
  show IntKind.i64.wrap ((BitVec.ofInt 64 (-1) ^^^ BitVec.ofInt 64 (n : Int)).toNat : Int) = _
  have e : BitVec.ofInt 64 (-1) = BitVec.allOnes 64 := by decide
  rw [e, BitVec.allOnes_xor, BitVec.toNat_not, ofInt_u64 n (by omega)]
  simp [IntKind.wrap, IntKind.bits, IntKind.signed]
  omega

theorem xor_ones_i64 (a : Int) (h0 : 0 ≤ a) (h1 : a ≤ 9223372036854775807) : bits .xor .i64 a (-1) = -1 - a := by
  obtain ⟨n, rfl⟩ := Int.eq_ofNat_of_zero_le h0
  show IntKind.i64.wrap ((BitVec.ofInt 64 (n : Int) ^^^ BitVec.ofInt 64 (-1)).toNat : Int) = _
  have e : BitVec.ofInt 64 (-1) = BitVec.allOnes 64 := by decide
  rw [e, BitVec.xor_allOnes, BitVec.toNat_not, ofInt_u64 n (by omega)]
  simp [IntKind.wrap, IntKind.bits, IntKind.signed]
  omega

theorem xor_zero_i64 (a : Int) (h0 : 0 ≤ a) (h1 : a ≤ 9223372036854775807) : bits .xor .i64 a 0 = a := by
  obtain ⟨n, rfl⟩ := Int.eq_ofNat_of_zero_le h0
  show IntKind.i64.wrap ((BitVec.ofInt 64 (n : Int) ^^^ BitVec.ofInt 64 0).toNat : Int) = _
  have e : BitVec.ofInt 64 0 = 0#64 := by decide
  rw [e, BitVec.xor_zero, ofInt_u64 n (by omega)]
  exact wrap_i64_in _ (by omega) (by omega)

/-- The zigzag number. -/
def zz (n : Int) : Int := if n < 0 then -2 * n - 1 else 2 * n
/-- .. and back. -/
def unzz (z : Int) : Int := if z % 2 = 1 then -1 - z / 2 else z / 2
theorem zz_lo (n : Int) : 0 ≤ zz n := by unfold zz; split <;> omega
theorem zz_hi (n : Int) (h0 : -9223372036854775808 ≤ n) (h1 : n ≤ 9223372036854775807) : zz n ≤ 18446744073709551615 := by unfold zz; split <;> omega
theorem unzz_zz (n : Int) : unzz (zz n) = n := by unfold unzz zz; split <;> split <;> omega
theorem unzz_lo (z : Int) (h0 : 0 ≤ z) (h1 : z ≤ 18446744073709551615) : -9223372036854775808 ≤ unzz z := by unfold unzz; split <;> omega
theorem unzz_hi (z : Int) (h0 : 0 ≤ z) (h1 : z ≤ 18446744073709551615) : unzz z ≤ 9223372036854775807 := by unfold unzz; split <;> omega

theorem zz_neg (v : Int) (h0 : -9223372036854775808 ≤ v) (h1 : v < 0) :
    bits .xor .u64 IntKind.u64.max (IntKind.u64.wrap (IntKind.u64.wrap v * 2)) = zz v := by
  rw [show IntKind.u64.max = 18446744073709551615 by decide, IntKind.wrap_u64, IntKind.wrap_u64, not_u64 _ (by omega) (by omega)]
  unfold zz
  split <;> omega

theorem zz_ref (v : Int) (h0 : -9223372036854775808 ≤ v) (h1 : v ≤ 9223372036854775807) :
    bits .xor .u64 (IntKind.u64.wrap (IntKind.u64.wrap v * 2)) (IntKind.u64.wrap (v / 9223372036854775808)) = zz v := by
  simp only [IntKind.wrap_u64]
  rcases Int.lt_or_le v 0 with h | h
  · rw [show v / 9223372036854775808 % 18446744073709551616 = 18446744073709551615 by omega, xor_ones_u64 _ (by omega) (by omega)]
    unfold zz
    split <;> omega
  · rw [show v / 9223372036854775808 % 18446744073709551616 = 0 by omega, xor_zero_u64 _ (by omega) (by omega)]
    unfold zz
    split <;> omega

theorem mod_fact (x n : Int) (hn : 1 ≤ n) (hn2 : n ≤ 100000) : (wrap64 (x.tmod n + n)).tmod n = x % n := by
  have hp : 0 < n := by omega
  have h1 : -n < x.tmod n := by have := Int.lt_tmod_of_pos x hp; omega
  have h2 : x.tmod n < n := Int.tmod_lt_of_pos x hp
  rw [IntWalk.wrap64_in _ ⟨by omega, by omega⟩, Int.tmod_eq_emod_of_nonneg (by omega), Int.add_emod_right]
  have e : x.tmod n = x - n * x.tdiv n := by have := Int.mul_tdiv_add_tmod x n; omega
  rw [e, Int.sub_mul_emod_self_left]
end Go.Proofs.Ytjhlkfckpadooaa
