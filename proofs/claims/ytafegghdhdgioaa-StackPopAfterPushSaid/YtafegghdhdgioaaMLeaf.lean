import Derived.Test.YtafegghdhdgioaaMKit
import Derived.Test.YtafegghdhdgioaaMEmath
import Derived.Test.YtafegghdhdgioaaMVbits
import Derived.Test.YtafegghdhdgioaaMWords
import Derived.ProofKit
set_option linter.unusedVariables false
set_option linter.unusedSimpArgs false
section
/-
  Small words for the ends of walks. No function of the program is named here.
-/
namespace Go.Proofs.Ytafegghdhdgioaa
open Go.RowKit

theorem ret_bool {a b : Bool} (h : a = b) : Ending.returned (.bool a) = .returned (.bool b) := by rw [h]
end Go.Proofs.Ytafegghdhdgioaa
end

section
/-
  The contract of extent.Power; what a right slot is. Conditions: those of the types.
-/
namespace Go.Proofs.Ytafegghdhdgioaa
open Go.RowKit

theorem ret_two {a b c d : Int} (h : a = b) (h' : c = d) : Ending.returned (.tuple #[.int .i64 a, .int .i64 c]) = .returned (.tuple #[.int .i64 b, .int .i64 d]) := by rw [h, h']
/-- An int. -/
def isI (n : Int) : Prop := -9223372036854775808 ≤ n ∧ n ≤ 9223372036854775807

theorem power_any (n : Int) (w : World) : Calls Try.prog 27 #[.int .i64 n] w fun e w' => e = .returned (.bool (powB n)) ∧ w = w' := by
  by_cases h0 : 1 ≤ n
  · by_cases h1 : n ≤ 16777216
    · have hb := bits_pow n h0 h1
      generalize powB n = b at hb ⊢
      go_enter Try.func27, Try.ntmps27
      go_wp2
      go_ret
      exact ⟨rfl, rfl⟩
    · have hp := hide (powB_out (n := n) (by omega))
      go_enter Try.func27, Try.ntmps27
      go_wp2
      go_ret
      exact ⟨ret_bool hp.out.symm, rfl⟩
  · have hp := hide (powB_out (n := n) (by omega))
    go_enter Try.func27, Try.ntmps27
    go_wp2
    go_ret
    exact ⟨ret_bool hp.out.symm, rfl⟩

/-- A size of a slot. -/
def szB (n : Int) : Bool := decide (n = 1 ∨ n = 2 ∨ n = 4 ∨ n = 8 ∨ n = 16)
/-- A slot is right. -/
def slotB (s a : Int) : Bool := szB s && powB a

end Go.Proofs.Ytafegghdhdgioaa
end

section
/-
  Plain mathematics of the bytes of values: the bytes of a number, the number of bytes, sizes of slots. No function of the program is named here.
-/
namespace Go.Proofs.Ytafegghdhdgioaa
open Go.RowKit

/-- The size, or 0 if it is none. -/
def szN (n : Int) : Nat := if szB n then n.toNat else 0
theorem szN_le (n : Int) : szN n ≤ 16 := by
  unfold szN szB
  split
  · rename_i h; have := of_decide_eq_true h; omega
  · omega
theorem szN_yes {n : Int} (h : szB n = true) : (szN n : Int) = n := by
  unfold szN; rw [if_pos h]; unfold szB at h; have := of_decide_eq_true h; omega
theorem szN_no {n : Int} (h : szB n = false) : szN n = 0 := by unfold szN; rw [h]; rfl

/-- Byte k of X; the lowest n bytes; the number of bytes. -/
def byteOf (X k : Nat) : Nat := X / 2 ^ (8 * k) % 256
theorem byteOf_lt (X k : Nat) : byteOf X k < 256 := by unfold byteOf; omega
def bytesV (X : Nat) : Nat → List Int
  | 0 => []
  | n + 1 => bytesV X n ++ [(byteOf X n : Int)]
theorem bytesV_length (X n : Nat) : (bytesV X n).length = n := by
  induction n with
  | zero => rfl
  | succ n ih => simp [bytesV, ih]
theorem bytesV_mem (X n : Nat) : ∀ z ∈ bytesV X n, 0 ≤ z ∧ z ≤ 255 := by
  induction n with
  | zero => intro z h; cases h
  | succ n ih =>
    intro z h
    simp only [bytesV, List.mem_append, List.mem_singleton] at h
    rcases h with h | rfl
    · exact ih z h
    · have := byteOf_lt X n; omega

def valOf : List Int → Nat
  | [] => 0
  | z :: zs => z.toNat + 256 * valOf zs
theorem valOf_snoc (zs : List Int) (z : Int) : valOf (zs ++ [z]) = valOf zs + z.toNat * 2 ^ (8 * zs.length) := by
  induction zs with
  | nil => simp [valOf]
  | cons y ys ih =>
    simp only [List.cons_append, valOf, ih, List.length_cons]
    rw [show 8 * (ys.length + 1) = 8 * ys.length + 8 by omega, Nat.pow_add, Nat.mul_add, show (2 : Nat) ^ 8 = 256 by decide]
    rw [show 256 * (z.toNat * 2 ^ (8 * ys.length)) = z.toNat * (2 ^ (8 * ys.length) * 256) by rw [Nat.mul_comm 256, Nat.mul_assoc]]
    omega
theorem valOf_lt (zs : List Int) (h : ∀ z ∈ zs, 0 ≤ z ∧ z ≤ 255) : valOf zs < 2 ^ (8 * zs.length) := by
  induction zs with
  | nil => simp [valOf]
  | cons y ys ih =>
    have h1 := ih fun z hz => h z (List.mem_cons_of_mem _ hz)
    have h2 := h y List.mem_cons_self
    simp only [valOf, List.length_cons]
    rw [show 8 * (ys.length + 1) = 8 * ys.length + 8 by omega, Nat.pow_add, show (2 : Nat) ^ 8 = 256 by decide]
    omega
theorem valOf_bytesV (X n : Nat) : valOf (bytesV X n) = X % 2 ^ (8 * n) := by
  induction n with
  | zero => simp [bytesV, valOf, Nat.mod_one]
  | succ n ih =>
    rw [bytesV, valOf_snoc, ih, bytesV_length, show 8 * (n + 1) = 8 * n + 8 by omega, Nat.pow_add, Nat.mod_mul, show (2 : Nat) ^ 8 = 256 by decide, Int.toNat_natCast, Nat.mul_comm (byteOf X n)]
    rfl
theorem pow8_le {n : Nat} (h : n ≤ 16) : 2 ^ (8 * n) ≤ two128 := by
  rw [two128_eq]; exact Nat.pow_le_pow_right (by omega) (by omega)
theorem valOf_128 (zs : List Int) (h : ∀ z ∈ zs, 0 ≤ z ∧ z ≤ 255) (hl : zs.length ≤ 16) : valOf zs < two128 :=
  Nat.lt_of_lt_of_le (valOf_lt zs h) (pow8_le hl)
theorem trunc_lt (X n : Nat) (hn : n ≤ 16) : X % 2 ^ (8 * n) < two128 := Nat.lt_of_lt_of_le (Nat.mod_lt _ (Nat.two_pow_pos _)) (pow8_le hn)
theorem trunc_16 (X : Nat) (hX : X < two128) : X % 2 ^ (8 * 16) = X := Nat.mod_eq_of_lt (by rw [← show two128 = 2 ^ (8 * 16) by decide]; exact hX)

theorem mod_mod_pow (X a b : Nat) (h : a ≤ b) : X % 2 ^ b % 2 ^ a = X % 2 ^ a := Nat.mod_mod_of_dvd _ (Nat.pow_dvd_pow 2 h)
theorem byte_lo (X k : Nat) (hk : k < 8) : lo X / 2 ^ (8 * k) % 256 = (byteOf X k : Int) := by
  unfold lo byteOf
  rw [pow_cast, ← Int.natCast_ediv]
  have e : X % 18446744073709551616 / 2 ^ (8 * k) % 256 = X / 2 ^ (8 * k) % 256 := by
    rw [show (18446744073709551616 : Nat) = 2 ^ (8 * k) * 2 ^ (64 - 8 * k) by rw [← Nat.pow_add, show 8 * k + (64 - 8 * k) = 64 by omega], Nat.mod_mul_right_div_self, show (256 : Nat) = 2 ^ 8 by decide, mod_mod_pow _ _ _ (by omega)]
  rw [← e]
  generalize X % 18446744073709551616 / 2 ^ (8 * k) = q
  omega
theorem byte_hi (X k : Nat) (hX : X < two128) (hk : 8 ≤ k) : hi X / 2 ^ (8 * (k - 8)) % 256 = (byteOf X k : Int) := by
  unfold hi byteOf
  have e := hi_div X (8 * k) hX (by omega)
  rw [show 8 * k - 64 = 8 * (k - 8) by omega] at e
  rw [pow_cast, ← Int.natCast_ediv, e]
  generalize X / 2 ^ (8 * k) = q
  omega

/-- One byte more, in the low word. -/
theorem put_lo (V : Nat) (z : Int) (k : Nat) (hk : k < 8) (hV : V < 2 ^ (8 * k)) (z0 : 0 ≤ z) (z1 : z ≤ 255) :
    bits .or .u64 (lo V) (IntKind.u64.wrap (z * 2 ^ (8 * k))) = lo (V + z.toNat * 2 ^ (8 * k)) ∧ hi V = hi (V + z.toNat * 2 ^ (8 * k)) := by
  obtain ⟨c, rfl⟩ := Int.eq_ofNat_of_zero_le z0
  have hp : 2 ^ (8 * k) * 256 ≤ 18446744073709551616 := by
    rw [show (18446744073709551616 : Nat) = 2 ^ 64 by decide, show (256 : Nat) = 2 ^ 8 by decide, ← Nat.pow_add]
    exact Nat.pow_le_pow_right (by omega) (by omega)
  have hm : c * 2 ^ (8 * k) ≤ 255 * 2 ^ (8 * k) := Nat.mul_le_mul_right _ (by omega)
  have hor := Nat.two_pow_add_eq_or_of_lt hV c
  rw [Nat.mul_comm] at hor
  rw [pow_cast, ← Int.natCast_mul, IntKind.wrap_u64, Int.toNat_natCast]
  have e1 : ((c * 2 ^ (8 * k) : Nat) : Int) % 18446744073709551616 = ((c * 2 ^ (8 * k) : Nat) : Int) := by omega
  rw [e1]
  generalize c * 2 ^ (8 * k) = s at *
  generalize 2 ^ (8 * k) = p at *
  unfold lo hi
  rw [u64_or_nat _ _ (by omega) (by omega), show V % 18446744073709551616 = V by omega, Nat.or_comm, ← hor]
  constructor <;> omega
/-- One byte more, in the high word. -/
theorem put_hi (V : Nat) (z : Int) (k : Nat) (hk : 8 ≤ k) (hk2 : k < 16) (hV : V < 2 ^ (8 * k)) (z0 : 0 ≤ z) (z1 : z ≤ 255) :
    bits .or .u64 (hi V) (IntKind.u64.wrap (z * 2 ^ (8 * (k - 8)))) = hi (V + z.toNat * 2 ^ (8 * k)) ∧ lo V = lo (V + z.toNat * 2 ^ (8 * k)) := by
  obtain ⟨c, rfl⟩ := Int.eq_ofNat_of_zero_le z0
  obtain ⟨j, rfl⟩ : ∃ j, k = j + 8 := ⟨k - 8, by omega⟩
  have e8 : 2 ^ (8 * (j + 8)) = 18446744073709551616 * 2 ^ (8 * j) := by
    rw [show (18446744073709551616 : Nat) = 2 ^ 64 by decide, ← Nat.pow_add]; congr 1; omega
  have hp : 2 ^ (8 * j) * 256 ≤ 18446744073709551616 := by
    rw [show (18446744073709551616 : Nat) = 2 ^ 64 by decide, show (256 : Nat) = 2 ^ 8 by decide, ← Nat.pow_add]
    exact Nat.pow_le_pow_right (by omega) (by omega)
  have hm : c * 2 ^ (8 * j) ≤ 255 * 2 ^ (8 * j) := Nat.mul_le_mul_right _ (by omega)
  rw [e8] at hV ⊢
  have hV' : V / 18446744073709551616 < 2 ^ (8 * j) := by omega
  have hor := Nat.two_pow_add_eq_or_of_lt hV' c
  rw [Nat.mul_comm] at hor
  rw [show j + 8 - 8 = j by omega, pow_cast, ← Int.natCast_mul, IntKind.wrap_u64, Int.toNat_natCast, show c * (18446744073709551616 * 2 ^ (8 * j)) = 18446744073709551616 * (c * 2 ^ (8 * j)) by rw [Nat.mul_left_comm]]
  have e1 : ((c * 2 ^ (8 * j) : Nat) : Int) % 18446744073709551616 = ((c * 2 ^ (8 * j) : Nat) : Int) := by omega
  rw [e1]
  generalize c * 2 ^ (8 * j) = s at *
  generalize 2 ^ (8 * j) = p at *
  unfold lo hi
  rw [u64_or_nat _ _ (by omega) (by omega), show V / 18446744073709551616 % 18446744073709551616 = V / 18446744073709551616 by omega, Nat.or_comm, ← hor]
  constructor <;> omega

/-- The number of the first k bytes, at most 16. -/
theorem valOf_take (zs : List Int) (k : Nat) (z : Int) (h : zs[k]? = some z) : valOf (zs.take (k + 1)) = valOf (zs.take k) + z.toNat * 2 ^ (8 * k) := by
  have hk : k < zs.length := by
    rcases Nat.lt_or_ge k zs.length with h1 | h1
    · exact h1
    · rw [List.getElem?_eq_none h1] at h; simp at h
  rw [take_more h, valOf_snoc, List.length_take, Nat.min_eq_left (by omega)]
theorem valOf_take_lt (zs : List Int) (k : Nat) (hk : k ≤ zs.length) (h : ∀ z ∈ zs, 0 ≤ z ∧ z ≤ 255) : valOf (zs.take k) < 2 ^ (8 * k) := by
  have := valOf_lt (zs.take k) fun z hz => h z (List.mem_of_mem_take hz)
  rwa [List.length_take, Nat.min_eq_left hk] at this

/-- The mask of the lowest bytes. -/
theorem mask_lo (X m : Nat) (hm : m ≤ 64) (M : Int) (hM : M = ((2 ^ m - 1 : Nat) : Int)) : bits .and .u64 (lo X) M = lo (X % 2 ^ m) ∧ hi (X % 2 ^ m) = 0 := by
  have hp : 2 ^ m ≤ 18446744073709551616 := by
    rw [show (18446744073709551616 : Nat) = 2 ^ 64 by decide]; exact Nat.pow_le_pow_right (by omega) hm
  have hlt := Nat.mod_lt X (Nat.two_pow_pos m)
  have hpos := Nat.two_pow_pos m
  have e2 : X % 18446744073709551616 % 2 ^ m = X % 2 ^ m := by rw [show (18446744073709551616 : Nat) = 2 ^ 64 by decide]; exact mod_mod_pow X m 64 hm
  subst hM
  unfold lo hi
  rw [u64_and_nat _ _ (by omega) (by omega), Nat.and_two_pow_sub_one_eq_mod, e2]
  generalize X % 2 ^ m = q at *
  generalize 2 ^ m = p at *
  constructor <;> omega
end Go.Proofs.Ytafegghdhdgioaa
end
