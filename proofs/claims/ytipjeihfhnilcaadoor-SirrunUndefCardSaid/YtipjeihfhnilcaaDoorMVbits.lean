import Derived.Test.YtipjeihfhnilcaaDoorMBoxes
import Derived.Test.YtipjeihfhnilcaaDoorMVbox
import Derived.Test.YtipjeihfhnilcaaDoorMEpw
import Derived.Laws.StructEq
import Derived.WalkKit
set_option linter.unusedVariables false
set_option linter.unusedSimpArgs false
section
/-
  Plain mathematics of the reference for values: single bits, sums, products and quotients bit by bit. No function of the program is named here.
-/
namespace Go.Proofs.YtipjeihfhnilcaaDoor

/-- Bit k of X. -/
def bt (X k : Nat) : Nat := X / 2 ^ k % 2
theorem bt_le (X k : Nat) : bt X k ≤ 1 := by unfold bt; omega
theorem pow_cast (k : Nat) : (2 : Int) ^ k = ((2 ^ k : Nat) : Int) := by simp
theorem pow_lt64 {k : Nat} (h : k < 64) : 2 ^ k < 18446744073709551616 := by
  rw [show (18446744073709551616 : Nat) = 2 ^ 64 by decide]; exact Nat.pow_lt_pow_right (by omega) h
theorem lo_div (X k : Nat) (hk : k < 64) : X % 18446744073709551616 / 2 ^ k % 2 = X / 2 ^ k % 2 := by
  obtain ⟨j, hj⟩ : ∃ j, 64 = k + (j + 1) := ⟨63 - k, by omega⟩
  rw [show (18446744073709551616 : Nat) = 2 ^ 64 by decide, hj, Nat.pow_add, Nat.mod_mul_right_div_self, Nat.pow_succ, Nat.mul_comm, Nat.mod_mul_right_mod]
theorem hi_div (X k : Nat) (hX : X < two128) (hk : 64 ≤ k) : X / 18446744073709551616 % 18446744073709551616 / 2 ^ (k - 64) = X / 2 ^ k := by
  have e : X / 18446744073709551616 % 18446744073709551616 = X / 2 ^ 64 := by
    rw [show (2 : Nat) ^ 64 = 18446744073709551616 by decide]
    unfold two128 at hX; omega
  rw [e, Nat.div_div_eq_div_mul, ← Nat.pow_add, show 64 + (k - 64) = k by omega]
theorem bit_lo (X k : Nat) (hk : k < 64) : bits .and .u64 (lo X / 2 ^ k) 1 = ((bt X k : Nat) : Int) := by
  unfold bt
  have h := lo_b X
  have hb : 0 ≤ lo X / 2 ^ k ∧ lo X / 2 ^ k ≤ 18446744073709551615 := by
    unfold lo
    rw [pow_cast, ← Int.natCast_ediv]
    have := Nat.div_le_self (X % 18446744073709551616) (2 ^ k)
    generalize X % 18446744073709551616 / 2 ^ k = q at *
    omega
  rw [and_bit_u64 _ hb.1 hb.2]
  unfold lo
  rw [pow_cast, ← Int.natCast_ediv, ← lo_div X k hk]
  omega
theorem bit_hi (X k : Nat) (hX : X < two128) (hk : 64 ≤ k) : bits .and .u64 (hi X / 2 ^ (k - 64)) 1 = ((bt X k : Nat) : Int) := by
  unfold bt
  have h := hi_b X
  have hb : 0 ≤ hi X / 2 ^ (k - 64) ∧ hi X / 2 ^ (k - 64) ≤ 18446744073709551615 := by
    unfold hi
    rw [pow_cast, ← Int.natCast_ediv]
    have := Nat.div_le_self (X / 18446744073709551616 % 18446744073709551616) (2 ^ (k - 64))
    generalize X / 18446744073709551616 % 18446744073709551616 / 2 ^ (k - 64) = q at *
    omega
  rw [and_bit_u64 _ hb.1 hb.2]
  unfold hi
  rw [pow_cast, ← Int.natCast_ediv, hi_div X k hX hk]
  omega

/-- A bit that is not set. -/
theorem or_pow (a k : Nat) (h : a / 2 ^ k % 2 = 0) : a ||| 2 ^ k = a + 2 ^ k := by
  obtain ⟨q, hq⟩ : ∃ q, a / 2 ^ k = 2 * q := ⟨a / 2 ^ k / 2, by omega⟩
  have ha : a = 2 ^ k * (2 * q) + a % 2 ^ k := by rw [← hq]; exact (Nat.div_add_mod a (2 ^ k)).symm
  have hr := Nat.mod_lt a (Nat.two_pow_pos k)
  have e1 := Nat.two_pow_add_eq_or_of_lt hr (2 * q)
  have e2 := Nat.two_pow_add_eq_or_of_lt hr (2 * q + 1)
  have e3 : 2 ^ k * (2 * q) ||| 2 ^ k = 2 ^ k * (2 * q + 1) := by
    rw [← or_bit (2 * q) 1 (by omega) (by omega)]
    have := Nat.shiftLeft_or_distrib (a := 2 * q) (b := 1) (i := k)
    simp only [Nat.shiftLeft_eq, Nat.one_mul] at this
    rw [Nat.mul_comm (2 ^ k), Nat.mul_comm (2 ^ k)]
    exact this.symm
  calc a ||| 2 ^ k = (2 ^ k * (2 * q) ||| a % 2 ^ k) ||| 2 ^ k := by rw [← e1, ← ha]
    _ = (2 ^ k * (2 * q) ||| 2 ^ k) ||| a % 2 ^ k := by rw [Nat.or_assoc, Nat.or_comm (a % 2 ^ k), ← Nat.or_assoc]
    _ = 2 ^ k * (2 * q + 1) + a % 2 ^ k := by rw [e3, ← e2]
    _ = a + 2 ^ k := by rw [Nat.mul_add, Nat.mul_one]; omega
theorem wrap_pow {k : Nat} (hk : k < 64) : IntKind.u64.wrap (2 ^ k) = ((2 ^ k : Nat) : Int) := by
  have := pow_lt64 hk
  rw [pow_cast, IntKind.wrap_u64]
  generalize 2 ^ k = p at *
  omega
theorem low_bit_room (a k : Nat) (hk : k < 64) (h : a / 2 ^ k % 2 = 0) (ha : a < 18446744073709551616) : a + 2 ^ k < 18446744073709551616 := by
  have e := or_pow a k h
  have := Nat.or_lt_two_pow (n := 64) (x := a) (y := 2 ^ k) (by rw [show (2 : Nat) ^ 64 = 18446744073709551616 by decide]; exact ha) (by rw [show (2 : Nat) ^ 64 = 18446744073709551616 by decide]; exact pow_lt64 hk)
  rw [show (2 : Nat) ^ 64 = 18446744073709551616 by decide] at this
  omega
theorem set_lo (X k : Nat) (hk : k < 64) (h : X / 2 ^ k % 2 = 0) : bits .or .u64 (lo X) (IntKind.u64.wrap (2 ^ k)) = lo (X + 2 ^ k) ∧ hi X = hi (X + 2 ^ k) := by
  have h1 : X % 18446744073709551616 / 2 ^ k % 2 = 0 := by rw [lo_div X k hk]; exact h
  have h2 := low_bit_room (X % 18446744073709551616) k hk h1 (by omega)
  have h3 := pow_lt64 hk
  rw [wrap_pow hk]
  unfold lo hi
  rw [u64_or_nat _ _ (by omega) h3, or_pow _ k h1]
  generalize 2 ^ k = p at *
  constructor <;> omega
theorem set_hi (X k : Nat) (hX : X < two128) (hk : 64 ≤ k) (hk2 : k < 128) (h : X / 2 ^ k % 2 = 0) : bits .or .u64 (hi X) (IntKind.u64.wrap (2 ^ (k - 64))) = hi (X + 2 ^ k) ∧ lo X = lo (X + 2 ^ k) := by
  have h1 : X / 18446744073709551616 % 18446744073709551616 / 2 ^ (k - 64) % 2 = 0 := by rw [hi_div X k hX hk]; exact h
  have h2 := low_bit_room (X / 18446744073709551616 % 18446744073709551616) (k - 64) (by omega) h1 (by omega)
  have h3 := pow_lt64 (show k - 64 < 64 by omega)
  have e : 2 ^ k = 18446744073709551616 * 2 ^ (k - 64) := by
    rw [show (18446744073709551616 : Nat) = 2 ^ 64 by decide, ← Nat.pow_add, show 64 + (k - 64) = k by omega]
  rw [wrap_pow (show k - 64 < 64 by omega), e]
  unfold lo hi
  rw [u64_or_nat _ _ (by omega) h3, or_pow _ _ h1]
  generalize 2 ^ (k - 64) = p at *
  constructor <;> omega
/-- The sum of the lowest k bits, and what is carried. -/
def addOut (X Y k : Nat) : Nat := (X % 2 ^ k + Y % 2 ^ k) % 2 ^ k
def addCar (X Y k : Nat) : Nat := (X % 2 ^ k + Y % 2 ^ k) / 2 ^ k
theorem addCar_le (X Y k : Nat) : addCar X Y k ≤ 1 := by
  have h1 := Nat.mod_lt X (Nat.two_pow_pos k)
  have h2 := Nat.mod_lt Y (Nat.two_pow_pos k)
  unfold addCar
  have := Nat.div_lt_of_lt_mul (show X % 2 ^ k + Y % 2 ^ k < 2 ^ k * 2 by omega)
  omega
theorem addOut_lt (X Y k : Nat) : addOut X Y k < 2 ^ k := Nat.mod_lt _ (Nat.two_pow_pos k)
theorem addOut_128 (X Y k : Nat) (hk : k < 128) : addOut X Y k < two128 := by
  have h := addOut_lt X Y k
  have h2 : 2 ^ k < 2 ^ 128 := Nat.pow_lt_pow_right (by omega) hk
  rw [two128_eq]; omega
theorem addOut_bit (X Y k : Nat) : bt (addOut X Y k) k = 0 := by
  unfold bt
  rw [Nat.div_eq_of_lt (addOut_lt X Y k)]
theorem add_step (X Y k : Nat) : addOut X Y (k + 1) = addOut X Y k + 2 ^ k * ((bt X k + bt Y k + addCar X Y k) % 2) ∧ addCar X Y (k + 1) = (bt X k + bt Y k + addCar X Y k) / 2 := by
  have hd := Nat.div_add_mod (X % 2 ^ k + Y % 2 ^ k) (2 ^ k)
  have hlt := addOut_lt X Y k
  have e : X % 2 ^ (k + 1) + Y % 2 ^ (k + 1) = (addOut X Y k + 2 ^ k * ((bt X k + bt Y k + addCar X Y k) % 2)) + 2 ^ (k + 1) * ((bt X k + bt Y k + addCar X Y k) / 2) := by
    have hs := Nat.div_add_mod (bt X k + bt Y k + addCar X Y k) 2
    rw [Nat.mod_pow_succ, Nat.mod_pow_succ, Nat.pow_succ, Nat.mul_assoc (2 ^ k) 2]
    have e2 : addOut X Y k + 2 ^ k * ((bt X k + bt Y k + addCar X Y k) % 2) + 2 ^ k * (2 * ((bt X k + bt Y k + addCar X Y k) / 2)) = addOut X Y k + 2 ^ k * (bt X k + bt Y k + addCar X Y k) := by
      rw [Nat.add_assoc, ← Nat.mul_add]; congr 2; omega
    rw [e2, Nat.mul_add, Nat.mul_add]
    unfold bt
    unfold addOut addCar at *
    omega
  have hb : addOut X Y k + 2 ^ k * ((bt X k + bt Y k + addCar X Y k) % 2) < 2 ^ (k + 1) := by
    rw [Nat.pow_succ]
    have : (bt X k + bt Y k + addCar X Y k) % 2 = 0 ∨ (bt X k + bt Y k + addCar X Y k) % 2 = 1 := by omega
    rcases this with h | h <;> rw [h] <;> omega
  have hh := div_uniq hb e.symm
  exact ⟨hh.2, hh.1⟩
theorem add_zero (X Y : Nat) : addOut X Y 0 = 0 ∧ addCar X Y 0 = 0 := by unfold addOut addCar; simp [Nat.mod_one]
theorem add_all (X Y : Nat) : addOut X Y 128 % two128 = (X + Y) % two128 := by
  unfold addOut
  rw [← two128_eq, Nat.mod_mod, ← Nat.add_mod]

/-- The product so far: the bits of Y from k on. -/
def mulOut (X Y k : Nat) : Nat := X * (Y / 2 ^ k) % two128
theorem mulOut_lt (X Y k : Nat) : mulOut X Y k < two128 := Nat.mod_lt _ two128_pos
theorem mul_step0 (X Y k : Nat) (h : bt Y k = 0) : 2 * mulOut X Y (k + 1) % two128 = mulOut X Y k % two128 := by
  unfold mulOut bt at *
  rw [Nat.mul_mod_mod, Nat.mod_mod, half_pow Y k, h, Nat.mul_left_comm]; rfl
theorem mul_step1 (X Y k : Nat) (h : bt Y k = 1) : (2 * mulOut X Y (k + 1) + X) % two128 = mulOut X Y k % two128 := by
  unfold mulOut bt at *
  rw [Nat.mod_mod, half_pow Y k, h, Nat.mul_add, Nat.mul_one, Nat.mul_left_comm, Nat.add_mod, Nat.mul_mod_mod, ← Nat.add_mod]
theorem mul_zero' (X Y : Nat) (hY : Y < two128) : mulOut X Y 128 = 0 := by
  unfold mulOut
  rw [Nat.div_eq_of_lt (by rw [← two128_eq]; exact hY)]; simp
theorem mul_all (X Y : Nat) : mulOut X Y 0 = X * Y % two128 := by unfold mulOut; simp

/-- The quotient so far, from bit k on, and the rest. -/
def divOut (X Y k : Nat) : Nat := 2 ^ k * (X / 2 ^ k / Y)
def divRest (X Y k : Nat) : Nat := X / 2 ^ k % Y
theorem divRest_lt (X Y k : Nat) (hY : 0 < Y) : divRest X Y k < Y := Nat.mod_lt _ hY
theorem div_zero' (X Y : Nat) (hX : X < two128) : divOut X Y 128 = 0 ∧ divRest X Y 128 = 0 := by
  have e : X / 2 ^ 128 = 0 := Nat.div_eq_of_lt (by rw [← two128_eq]; exact hX)
  unfold divOut divRest
  rw [e]; simp
theorem div_all (X Y : Nat) : divOut X Y 0 = X / Y := by unfold divOut; simp
theorem divOut_le (X Y k : Nat) : divOut X Y k ≤ X := by
  unfold divOut
  exact Nat.le_trans (Nat.mul_le_mul_left _ (Nat.div_le_self _ _)) (Nat.mul_div_le X (2 ^ k))
theorem divOut_bit (X Y k : Nat) : bt (divOut X Y (k + 1)) k = 0 := by
  unfold bt divOut
  rw [Nat.pow_succ, Nat.mul_assoc, Nat.mul_div_cancel_left _ (Nat.two_pow_pos k)]
  omega
/-- One step of the reference's division. -/
theorem rdiv_step (X Y k : Nat) (hY : 0 < Y) :
    (2 * divRest X Y (k + 1) + bt X k < Y → divOut X Y (k + 1) = divOut X Y k ∧ 2 * divRest X Y (k + 1) + bt X k = divRest X Y k) ∧
    (Y ≤ 2 * divRest X Y (k + 1) + bt X k → divOut X Y (k + 1) + 2 ^ k = divOut X Y k ∧ 2 * divRest X Y (k + 1) + bt X k - Y = divRest X Y k) := by
  have hh := half_pow X k
  constructor
  · intro h
    have h1 := div_less (X / 2 ^ (k + 1)) (bt X k) Y h
    unfold divOut divRest bt at *
    rw [← hh] at h1
    rw [h1.1, h1.2, Nat.pow_succ, Nat.mul_assoc]
    exact ⟨rfl, rfl⟩
  · intro h
    have h1 := div_more (X / 2 ^ (k + 1)) (bt X k) Y (bt_le X k) hY h
    unfold divOut divRest bt at *
    rw [← hh] at h1
    rw [h1.1, h1.2, Nat.pow_succ, Nat.mul_assoc, Nat.mul_add, Nat.mul_one]
    exact ⟨rfl, rfl⟩
/-- The highest bit. -/
theorem top_of (R : Nat) (hR : R < two128) : (R < 170141183460469231731687303715884105728 → (hi R / 9223372036854775808 == 1) = false) ∧ (170141183460469231731687303715884105728 ≤ R → (hi R / 9223372036854775808 == 1) = true) := by
  unfold two128 at hR
  constructor
  · intro h
    rw [beq_eq_false_iff_ne]
    unfold hi
    omega
  · intro h
    rw [beq_iff_eq]
    unfold hi
    omega
theorem or_even (R b : Nat) (hb : b ≤ 1) : bits .or .u64 (lo (2 * R)) (b : Int) = lo (2 * R + b) := by
  have h := lo_b (2 * R)
  rw [or_bit_u64 _ _ h.1 h.2 (by unfold lo; omega) (by omega) (by omega)]
  unfold lo; omega
theorem hi_even (R b : Nat) (hb : b ≤ 1) : hi (2 * R) = hi (2 * R + b) := by unfold hi; omega
theorem sub_over (N Y : Nat) (h : Y ≤ N) (hY : Y < two128) : (N % two128 + two128 - Y) % two128 % two128 = (N - Y) % two128 := by
  unfold two128 at *; omega
end Go.Proofs.YtipjeihfhnilcaaDoor
end

section
/-
  Plain mathematics of the bytes of values: the bytes of a number, the number of bytes, sizes of slots. No function of the program is named here.
-/
namespace Go.Proofs.YtipjeihfhnilcaaDoor
open Go.RowKit

/-- The size, or 0 if it is none. -/
def szN (n : Int) : Nat := if szB n then n.toNat else 0
theorem szN_le (n : Int) : szN n ≤ 16 := by
  unfold szN szB
  split
  · rename_i h; have := of_decide_eq_true h; omega
  · omega
theorem szN_yes {n : Int} (h : szB n = true) : (szN n : Int) = n := by
  unfold szN; rw [if_pos h]; unfold szB at h; have := of_decide_eq_true h; omega
theorem szN_no {n : Int} (h : szB n = false) : szN n = 0 := by unfold szN; rw [h]; rfl

/-- Byte k of X; the lowest n bytes; the number of bytes. -/
def byteOf (X k : Nat) : Nat := X / 2 ^ (8 * k) % 256
theorem byteOf_lt (X k : Nat) : byteOf X k < 256 := by unfold byteOf; omega
def bytesV (X : Nat) : Nat → List Int
  | 0 => []
  | n + 1 => bytesV X n ++ [(byteOf X n : Int)]
theorem bytesV_length (X n : Nat) : (bytesV X n).length = n := by
  induction n with
  | zero => rfl
  | succ n ih => simp [bytesV, ih]
theorem bytesV_mem (X n : Nat) : ∀ z ∈ bytesV X n, 0 ≤ z ∧ z ≤ 255 := by
  induction n with
  | zero => intro z h; cases h
  | succ n ih =>
    intro z h
    simp only [bytesV, List.mem_append, List.mem_singleton] at h
    rcases h with h | rfl
    · exact ih z h
    · have := byteOf_lt X n; omega

def valOf : List Int → Nat
  | [] => 0
  | z :: zs => z.toNat + 256 * valOf zs
theorem valOf_snoc (zs : List Int) (z : Int) : valOf (zs ++ [z]) = valOf zs + z.toNat * 2 ^ (8 * zs.length) := by
  induction zs with
  | nil => simp [valOf]
  | cons y ys ih =>
    simp only [List.cons_append, valOf, ih, List.length_cons]
    rw [show 8 * (ys.length + 1) = 8 * ys.length + 8 by omega, Nat.pow_add, Nat.mul_add, show (2 : Nat) ^ 8 = 256 by decide]
    rw [show 256 * (z.toNat * 2 ^ (8 * ys.length)) = z.toNat * (2 ^ (8 * ys.length) * 256) by rw [Nat.mul_comm 256, Nat.mul_assoc]]
    omega
theorem valOf_lt (zs : List Int) (h : ∀ z ∈ zs, 0 ≤ z ∧ z ≤ 255) : valOf zs < 2 ^ (8 * zs.length) := by
  induction zs with
  | nil => simp [valOf]
  | cons y ys ih =>
    have h1 := ih fun z hz => h z (List.mem_cons_of_mem _ hz)
    have h2 := h y List.mem_cons_self
    simp only [valOf, List.length_cons]
    rw [show 8 * (ys.length + 1) = 8 * ys.length + 8 by omega, Nat.pow_add, show (2 : Nat) ^ 8 = 256 by decide]
    omega
theorem valOf_bytesV (X n : Nat) : valOf (bytesV X n) = X % 2 ^ (8 * n) := by
  induction n with
  | zero => simp [bytesV, valOf, Nat.mod_one]
  | succ n ih =>
    rw [bytesV, valOf_snoc, ih, bytesV_length, show 8 * (n + 1) = 8 * n + 8 by omega, Nat.pow_add, Nat.mod_mul, show (2 : Nat) ^ 8 = 256 by decide, Int.toNat_natCast, Nat.mul_comm (byteOf X n)]
    rfl
theorem pow8_le {n : Nat} (h : n ≤ 16) : 2 ^ (8 * n) ≤ two128 := by
  rw [two128_eq]; exact Nat.pow_le_pow_right (by omega) (by omega)
theorem valOf_128 (zs : List Int) (h : ∀ z ∈ zs, 0 ≤ z ∧ z ≤ 255) (hl : zs.length ≤ 16) : valOf zs < two128 :=
  Nat.lt_of_lt_of_le (valOf_lt zs h) (pow8_le hl)
theorem trunc_lt (X n : Nat) (hn : n ≤ 16) : X % 2 ^ (8 * n) < two128 := Nat.lt_of_lt_of_le (Nat.mod_lt _ (Nat.two_pow_pos _)) (pow8_le hn)
theorem trunc_16 (X : Nat) (hX : X < two128) : X % 2 ^ (8 * 16) = X := Nat.mod_eq_of_lt (by rw [← show two128 = 2 ^ (8 * 16) by decide]; exact hX)

theorem mod_mod_pow (X a b : Nat) (h : a ≤ b) : X % 2 ^ b % 2 ^ a = X % 2 ^ a := Nat.mod_mod_of_dvd _ (Nat.pow_dvd_pow 2 h)
theorem byte_lo (X k : Nat) (hk : k < 8) : lo X / 2 ^ (8 * k) % 256 = (byteOf X k : Int) := by
  unfold lo byteOf
  rw [pow_cast, ← Int.natCast_ediv]
  have e : X % 18446744073709551616 / 2 ^ (8 * k) % 256 = X / 2 ^ (8 * k) % 256 := by
    rw [show (18446744073709551616 : Nat) = 2 ^ (8 * k) * 2 ^ (64 - 8 * k) by rw [← Nat.pow_add, show 8 * k + (64 - 8 * k) = 64 by omega], Nat.mod_mul_right_div_self, show (256 : Nat) = 2 ^ 8 by decide, mod_mod_pow _ _ _ (by omega)]
  rw [← e]
  generalize X % 18446744073709551616 / 2 ^ (8 * k) = q
  omega
theorem byte_hi (X k : Nat) (hX : X < two128) (hk : 8 ≤ k) : hi X / 2 ^ (8 * (k - 8)) % 256 = (byteOf X k : Int) := by
  unfold hi byteOf
  have e := hi_div X (8 * k) hX (by omega)
  rw [show 8 * k - 64 = 8 * (k - 8) by omega] at e
  rw [pow_cast, ← Int.natCast_ediv, e]
  generalize X / 2 ^ (8 * k) = q
  omega

/-- One byte more, in the low word. -/
theorem put_lo (V : Nat) (z : Int) (k : Nat) (hk : k < 8) (hV : V < 2 ^ (8 * k)) (z0 : 0 ≤ z) (z1 : z ≤ 255) :
    bits .or .u64 (lo V) (IntKind.u64.wrap (z * 2 ^ (8 * k))) = lo (V + z.toNat * 2 ^ (8 * k)) ∧ hi V = hi (V + z.toNat * 2 ^ (8 * k)) := by
  obtain ⟨c, rfl⟩ := Int.eq_ofNat_of_zero_le z0
  have hp : 2 ^ (8 * k) * 256 ≤ 18446744073709551616 := by
    rw [show (18446744073709551616 : Nat) = 2 ^ 64 by decide, show (256 : Nat) = 2 ^ 8 by decide, ← Nat.pow_add]
    exact Nat.pow_le_pow_right (by omega) (by omega)
  have hm : c * 2 ^ (8 * k) ≤ 255 * 2 ^ (8 * k) := Nat.mul_le_mul_right _ (by omega)
  have hor := Nat.two_pow_add_eq_or_of_lt hV c
  rw [Nat.mul_comm] at hor
  rw [pow_cast, ← Int.natCast_mul, IntKind.wrap_u64, Int.toNat_natCast]
  have e1 : ((c * 2 ^ (8 * k) : Nat) : Int) % 18446744073709551616 = ((c * 2 ^ (8 * k) : Nat) : Int) := by omega
  rw [e1]
  generalize c * 2 ^ (8 * k) = s at *
  generalize 2 ^ (8 * k) = p at *
  unfold lo hi
  rw [u64_or_nat _ _ (by omega) (by omega), show V % 18446744073709551616 = V by omega, Nat.or_comm, ← hor]
  constructor <;> omega
/-- One byte more, in the high word. -/
theorem put_hi (V : Nat) (z : Int) (k : Nat) (hk : 8 ≤ k) (hk2 : k < 16) (hV : V < 2 ^ (8 * k)) (z0 : 0 ≤ z) (z1 : z ≤ 255) :
    bits .or .u64 (hi V) (IntKind.u64.wrap (z * 2 ^ (8 * (k - 8)))) = hi (V + z.toNat * 2 ^ (8 * k)) ∧ lo V = lo (V + z.toNat * 2 ^ (8 * k)) := by
  obtain ⟨c, rfl⟩ := Int.eq_ofNat_of_zero_le z0
  obtain ⟨j, rfl⟩ : ∃ j, k = j + 8 := ⟨k - 8, by omega⟩
  have e8 : 2 ^ (8 * (j + 8)) = 18446744073709551616 * 2 ^ (8 * j) := by
    rw [show (18446744073709551616 : Nat) = 2 ^ 64 by decide, ← Nat.pow_add]; congr 1; omega
  have hp : 2 ^ (8 * j) * 256 ≤ 18446744073709551616 := by
    rw [show (18446744073709551616 : Nat) = 2 ^ 64 by decide, show (256 : Nat) = 2 ^ 8 by decide, ← Nat.pow_add]
    exact Nat.pow_le_pow_right (by omega) (by omega)
  have hm : c * 2 ^ (8 * j) ≤ 255 * 2 ^ (8 * j) := Nat.mul_le_mul_right _ (by omega)
  rw [e8] at hV ⊢
  have hV' : V / 18446744073709551616 < 2 ^ (8 * j) := by omega
  have hor := Nat.two_pow_add_eq_or_of_lt hV' c
  rw [Nat.mul_comm] at hor
  rw [show j + 8 - 8 = j by omega, pow_cast, ← Int.natCast_mul, IntKind.wrap_u64, Int.toNat_natCast, show c * (18446744073709551616 * 2 ^ (8 * j)) = 18446744073709551616 * (c * 2 ^ (8 * j)) by rw [Nat.mul_left_comm]]
  have e1 : ((c * 2 ^ (8 * j) : Nat) : Int) % 18446744073709551616 = ((c * 2 ^ (8 * j) : Nat) : Int) := by omega
  rw [e1]
  generalize c * 2 ^ (8 * j) = s at *
  generalize 2 ^ (8 * j) = p at *
  unfold lo hi
  rw [u64_or_nat _ _ (by omega) (by omega), show V / 18446744073709551616 % 18446744073709551616 = V / 18446744073709551616 by omega, Nat.or_comm, ← hor]
  constructor <;> omega

/-- The number of the first k bytes, at most 16. -/
theorem valOf_take (zs : List Int) (k : Nat) (z : Int) (h : zs[k]? = some z) : valOf (zs.take (k + 1)) = valOf (zs.take k) + z.toNat * 2 ^ (8 * k) := by
  have hk : k < zs.length := by
    rcases Nat.lt_or_ge k zs.length with h1 | h1
    · exact h1
    · rw [List.getElem?_eq_none h1] at h; simp at h
  rw [take_more h, valOf_snoc, List.length_take, Nat.min_eq_left (by omega)]
theorem valOf_take_lt (zs : List Int) (k : Nat) (hk : k ≤ zs.length) (h : ∀ z ∈ zs, 0 ≤ z ∧ z ≤ 255) : valOf (zs.take k) < 2 ^ (8 * k) := by
  have := valOf_lt (zs.take k) fun z hz => h z (List.mem_of_mem_take hz)
  rwa [List.length_take, Nat.min_eq_left hk] at this

/-- The mask of the lowest bytes. -/
theorem mask_lo (X m : Nat) (hm : m ≤ 64) (M : Int) (hM : M = ((2 ^ m - 1 : Nat) : Int)) : bits .and .u64 (lo X) M = lo (X % 2 ^ m) ∧ hi (X % 2 ^ m) = 0 := by
  have hp : 2 ^ m ≤ 18446744073709551616 := by
    rw [show (18446744073709551616 : Nat) = 2 ^ 64 by decide]; exact Nat.pow_le_pow_right (by omega) hm
  have hlt := Nat.mod_lt X (Nat.two_pow_pos m)
  have hpos := Nat.two_pow_pos m
  have e2 : X % 18446744073709551616 % 2 ^ m = X % 2 ^ m := by rw [show (18446744073709551616 : Nat) = 2 ^ 64 by decide]; exact mod_mod_pow X m 64 hm
  subst hM
  unfold lo hi
  rw [u64_and_nat _ _ (by omega) (by omega), Nat.and_two_pow_sub_one_eq_mod, e2]
  generalize X % 2 ^ m = q at *
  generalize 2 ^ m = p at *
  constructor <;> omega
end Go.Proofs.YtipjeihfhnilcaaDoor
end

section
/-
  Plain mathematics of truncation, pairs and high words. No function of the program is named here.
-/
namespace Go.Proofs.YtipjeihfhnilcaaDoor
open Go.RowKit

/-- The low words of two numbers; the high word of a number. -/
def pairV (X Y : Nat) : Nat := X % 18446744073709551616 + 18446744073709551616 * (Y % 18446744073709551616)
def highV (X : Nat) : Nat := X / 18446744073709551616 % 18446744073709551616
theorem pair_lo (X Y : Nat) : lo X = lo (pairV X Y) := by unfold lo pairV; omega
theorem pair_hi (X Y : Nat) : lo Y = hi (pairV X Y) := by unfold lo hi pairV; omega
theorem high_lo (X : Nat) : hi X = lo (highV X) := by unfold lo hi highV; omega
theorem high_hi (X : Nat) : hi (highV X) = 0 := by unfold hi highV; omega
theorem pair_high (X : Nat) (hX : X < two128) : pairV X (highV X) = X := by unfold pairV highV; unfold two128 at hX; omega

/-- The lowest bytes of a number. -/
def truncV (X : Nat) (n : Int) : Nat := X % 2 ^ (8 * szN n)
theorem truncV_lt (X : Nat) (n : Int) : truncV X n < two128 := trunc_lt X _ (szN_le n)
end Go.Proofs.YtipjeihfhnilcaaDoor
end

section
/-
  The mathematics of a run of a source program (chapter 8): states, steps, runs with so much fuel; what more fuel changes. Nothing here names the program.
-/
namespace Go.Proofs.YtipjeihfhnilcaaDoor
open Go.RowKit

/-- Values by number; none of the others is defined. -/
abbrev Cl := Int → Option Nat
def updC (m : Cl) (i : Int) (v : Nat) : Cl := fun j => if j = i then some v else m j
def noC : Cl := fun _ => none
/-- An activation: its function, its next instruction, its slots, its outgoing arguments. -/
structure Acn where
  f : Nat
  pc : Nat
  sl : Cl
  ar : Cl
/-- A machine: the last activation is the one that runs. -/
structure Mch where
  regs : List Nat
  inp : List Nat
  kind : Int
  code : Int
  res : Nat
  trace : List Nat
  steps : Nat
  ended : Bool
  st : List Acn
  depth : Nat

def Mch.top (s : Mch) : Acn := s.st.getLastD ⟨0, 0, noC, noC⟩
def Mch.reg (s : Mch) (i : Int) : Nat := s.regs.getD i.toNat 0
def Mch.setR (s : Mch) (i : Int) (v : Nat) : Mch := { s with regs := s.regs.set i.toNat v }
def Mch.stop (s : Mch) (k : Int) : Mch := { s with kind := k, ended := true }
def Mch.setTop (s : Mch) (a : Acn) : Mch := { s with st := s.st.dropLast ++ [a] }
def Mch.enter (s : Mch) (f : Nat) : Mch := { s with st := s.st ++ [⟨f, 0, noC, noC⟩], depth := max s.depth (s.st.length + 1) }
/-- The last activation is gone; if it was the only one the run has ended. -/
def Mch.leave (s : Mch) : Mch :=
  let t : Mch := { s with st := s.st.dropLast }
  if s.st.length ≤ 1 then ({ t with res := s.reg 0 } : Mch).stop 0 else t
/-- Add to Equal. -/
def Mch.applyM (s : Mch) (x : Ins) : Mch := if opOk x.op (s.reg x.c) then s.setR x.a (opRes x.op (s.reg x.b) (s.reg x.c)) else s.stop 2
def Mch.computeM (s : Mch) (x : Ins) : Mch :=
  if x.op = 0 then s.setR x.a x.imm.toNat
  else if x.op = 1 then s.setR x.a (s.reg x.b)
  else if x.op = 11 then s.setR x.a (pairV (s.reg x.b) (s.reg x.c))
  else if x.op = 12 then s.setR x.a (highV (s.reg x.b))
  else if x.op = 13 then ({ s with inp := s.inp.tail } : Mch).setR x.a (s.inp.headD 0)
  else if x.op = 14 then { s with trace := s.trace ++ [s.reg x.a] }
  else s.applyM x
/-- A value that is read: without one the run ends. -/
def Mch.read (s : Mch) (o : Option Nat) : Mch := if o = none then s.stop 3 else s
def Mch.caller (s : Mch) : Acn := s.st.getD (s.st.length - 2) ⟨0, 0, noC, noC⟩
def slotSz (F : Pg) (f : Nat) (k : Int) : Int := sizeAt (F.getD f ⟨0, [], []⟩).slots k
def Mch.accessM (F : Pg) (s : Mch) (x : Ins) : Mch :=
  if x.op = 15 then (s.read (s.top.sl x.b)).setR x.a ((s.top.sl x.b).getD 0)
  else if x.op = 16 then s.setTop { s.top with sl := updC s.top.sl x.a (truncV (s.reg x.b) (slotSz F s.top.f x.a)) }
  else if x.op = 17 then (s.read (s.top.sl x.b)).setTop { s.top with sl := updC s.top.sl x.a ((s.top.sl x.b).getD 0) }
  else if x.op = 18 then s.setTop { s.top with ar := updC s.top.ar x.a (s.reg x.b) }
  else (s.read (s.caller.ar x.b)).setR x.a ((s.caller.ar x.b).getD 0)
def Mch.jump (s : Mch) (n : Nat) : Mch := s.setTop { s.top with pc := n }
def Mch.transferM (s : Mch) (x : Ins) : Mch :=
  if x.op = 20 then s.jump x.a.toNat
  else if x.op = 21 then (if s.reg x.a % 18446744073709551616 = 0 then s else s.jump x.b.toNat)
  else if x.op = 22 then s.enter x.a.toNat
  else if x.op = 23 then s.leave
  else ({ s with code := x.imm } : Mch).stop 1
/-- The next instruction. -/
def insAt (F : Pg) (f pc : Nat) : Ins := (F.getD f ⟨0, [], []⟩).code.getD pc ⟨24, 0, 0, 0, 0⟩
def Mch.next (F : Pg) (s : Mch) : Ins := insAt F s.top.f s.top.pc
/-- The machine behind the instruction's fetch. -/
def Mch.fetched (s : Mch) : Mch := ({ s with steps := s.steps + 1 } : Mch).jump (s.top.pc + 1)
def Mch.exec (F : Pg) (s : Mch) (x : Ins) : Mch :=
  if 15 ≤ x.op ∧ x.op ≤ 19 then s.accessM F x else if 20 ≤ x.op ∧ x.op ≤ 24 then s.transferM x else s.computeM x
def Mch.stepM (F : Pg) (s : Mch) : Mch := s.fetched.exec F (s.next F)
/-- k steps, or fewer if the run ends before. -/
def iterM (F : Pg) : Nat → Mch → Mch
  | 0, s => s
  | k + 1, s => if s.ended then s else iterM F k (s.stepM F)
def startM (inp : List Nat) : Mch := ⟨List.replicate 8 0, inp, 0, 0, 0, [], 0, false, [⟨0, 0, noC, noC⟩], 1⟩
/-- A run with so much fuel. -/
def Mch.fuelled (s : Mch) : Mch := if s.ended then s else s.stop 4
def runM (F : Pg) (inp : List Nat) (fuel : Nat) : Mch := (iterM F fuel (startM inp)).fuelled

section
variable {F : Pg} {s : Mch}
theorem iterM_ended (h : s.ended = true) : ∀ k, iterM F k s = s
  | 0 => rfl
  | k + 1 => by rw [iterM, if_pos h]
theorem iterM_add (n : Nat) : ∀ (m : Nat) (s : Mch), iterM F (n + m) s = iterM F m (iterM F n s) := by
  induction n with
  | zero => intro m s; rw [Nat.zero_add]; rfl
  | succ n ih =>
    intro m s
    rw [show n + 1 + m = (n + m) + 1 by omega, iterM, iterM]
    by_cases h : s.ended = true
    · rw [if_pos h, if_pos h, iterM_ended h]
    · rw [if_neg h, if_neg h, ih]
theorem iterM_succ (k : Nat) (s : Mch) : iterM F (k + 1) s = if (iterM F k s).ended then iterM F k s else (iterM F k s).stepM F := by
  rw [iterM_add k 1 s, iterM]
  rfl
/-- What a step leaves of output and steps. -/
structure Moved (s t : Mch) : Prop where
  steps : t.steps = s.steps + 1
  trace : ∃ l, t.trace = s.trace ++ l
  kind : t.ended = true → 0 ≤ t.kind ∧ t.kind ≤ 3
theorem Moved.of {t : Mch} (h1 : t.steps = s.steps + 1) (h2 : t.trace = s.trace) (h3 : t.ended = true → 0 ≤ t.kind ∧ t.kind ≤ 3) : Moved s t := ⟨h1, ⟨[], by rw [h2, List.append_nil]⟩, h3⟩
theorem read_steps (s : Mch) (o : Option Nat) : (s.read o).steps = s.steps ∧ (s.read o).trace = s.trace ∧ (s.read o).depth = s.depth ∧ (s.read o).st = s.st ∧ (s.read o).regs = s.regs ∧ (s.read o).inp = s.inp := by
  unfold Mch.read; split <;> exact ⟨rfl, rfl, rfl, rfl, rfl, rfl⟩
theorem read_kind (s : Mch) (o : Option Nat) (h : s.ended = false) : (s.read o).ended = true → 0 ≤ (s.read o).kind ∧ (s.read o).kind ≤ 3 := by
  unfold Mch.read
  split
  · intro _; exact ⟨show (0 : Int) ≤ 3 by decide, show (3 : Int) ≤ 3 by decide⟩
  · intro h2; rw [h] at h2; cases h2
theorem step_moved (h : s.ended = false) : Moved s (s.stepM F) := by
  have hf : ∀ x : Mch, x.ended = false → x.ended = true → 0 ≤ x.kind ∧ x.kind ≤ 3 := fun x h1 h2 => by rw [h1] at h2; cases h2
  have k3 : (0 : Int) ≤ 3 ∧ (3 : Int) ≤ 3 := ⟨by decide, by decide⟩
  have hfe : s.fetched.ended = false := h
  unfold Mch.stepM Mch.exec
  generalize s.next F = x
  split
  · unfold Mch.accessM
    split
    · obtain ⟨r1, r2, _⟩ := read_steps s.fetched (s.fetched.top.sl x.b)
      exact Moved.of r1 r2 (read_kind _ _ hfe)
    · split
      · exact Moved.of rfl rfl (hf _ h)
      · split
        · obtain ⟨r1, r2, _⟩ := read_steps s.fetched (s.fetched.top.sl x.b)
          exact Moved.of r1 r2 (read_kind _ _ hfe)
        · split
          · exact Moved.of rfl rfl (hf _ h)
          · obtain ⟨r1, r2, _⟩ := read_steps s.fetched (s.fetched.caller.ar x.b)
            exact Moved.of r1 r2 (read_kind _ _ hfe)
  · split
    · unfold Mch.transferM
      split
      · exact Moved.of rfl rfl (hf _ h)
      · split
        · split
          · exact Moved.of rfl rfl (hf _ h)
          · exact Moved.of rfl rfl (hf _ h)
        · split
          · exact Moved.of rfl rfl (hf _ h)
          · split
            · unfold Mch.leave
              dsimp only
              split
              · exact Moved.of rfl rfl (fun _ => ⟨show (0 : Int) ≤ 0 by decide, show (0 : Int) ≤ 3 by decide⟩)
              · exact Moved.of rfl rfl (hf _ h)
            · exact Moved.of rfl rfl (fun _ => ⟨show (0 : Int) ≤ 1 by decide, show (1 : Int) ≤ 3 by decide⟩)
    · unfold Mch.computeM
      split
      · exact Moved.of rfl rfl (hf _ h)
      · split
        · exact Moved.of rfl rfl (hf _ h)
        · split
          · exact Moved.of rfl rfl (hf _ h)
          · split
            · exact Moved.of rfl rfl (hf _ h)
            · split
              · exact Moved.of rfl rfl (hf _ h)
              · split
                · exact ⟨rfl, ⟨_, rfl⟩, hf _ h⟩
                · unfold Mch.applyM
                  split
                  · exact Moved.of rfl rfl (hf _ h)
                  · exact Moved.of rfl rfl (fun _ => ⟨show (0 : Int) ≤ 2 by decide, show (2 : Int) ≤ 3 by decide⟩)
/-- What k steps leave. -/
structure Went (k : Nat) (s t : Mch) : Prop where
  most : t.steps ≤ s.steps + k
  least : s.steps ≤ t.steps
  all : t.ended = false → t.steps = s.steps + k
  trace : ∃ l, t.trace = s.trace ++ l
  kind : t.ended = true → 0 ≤ t.kind ∧ t.kind ≤ 3
theorem iter_went : ∀ (k : Nat) (s : Mch), (s.ended = true → 0 ≤ s.kind ∧ s.kind ≤ 3) → Went k s (iterM F k s)
  | 0, s, h => ⟨Nat.le_refl _, Nat.le_refl _, fun _ => rfl, ⟨[], by rw [List.append_nil]; rfl⟩, h⟩
  | k + 1, s, h => by
    rw [iterM]
    by_cases he : s.ended = true
    · rw [if_pos he]
      exact ⟨by omega, Nat.le_refl _, (fun h2 => by rw [he] at h2; cases h2), ⟨[], by rw [List.append_nil]⟩, h⟩
    · rw [if_neg he]
      have he' : s.ended = false := by simpa using he
      have hm := step_moved (F := F) he'
      have hw := iter_went k (s.stepM F) hm.kind
      have h1 := hm.steps
      obtain ⟨l1, hl1⟩ := hm.trace
      obtain ⟨l2, hl2⟩ := hw.trace
      exact ⟨by have := hw.most; omega, by have := hw.least; omega, fun h2 => by have := hw.all h2; omega, ⟨l1 ++ l2, by rw [hl2, hl1, List.append_assoc]⟩, hw.kind⟩
theorem run_went (F : Pg) (inp : List Nat) (n : Nat) : Went n (startM inp) (iterM F n (startM inp)) := iter_went n _ (fun h => by cases h)
theorem fuelled_ended (s : Mch) : s.fuelled.ended = true := by
  unfold Mch.fuelled; split
  · assumption
  · rfl
theorem fuelled_same (s : Mch) : s.fuelled.steps = s.steps ∧ s.fuelled.trace = s.trace := by
  unfold Mch.fuelled; split <;> exact ⟨rfl, rfl⟩
theorem fuelled_kind {s : Mch} (h : s.ended = true → 0 ≤ s.kind ∧ s.kind ≤ 3) : s.fuelled.kind = 4 ↔ s.ended = false := by
  unfold Mch.fuelled
  by_cases he : s.ended = true
  · rw [if_pos he]
    have := h he
    exact ⟨fun e => by omega, fun e => by rw [he] at e; cases e⟩
  · rw [if_neg he]
    exact ⟨fun _ => by simpa using he, fun _ => rfl⟩
/-- More fuel: a run that has ended by itself stays; another one's trace grows. -/
theorem more_fuel (F : Pg) (inp : List Nat) (n m : Nat) : (runM F inp n).kind ≠ 4 → runM F inp (n + m) = runM F inp n := fun h => by
  have hw := run_went F inp n
  have he : (iterM F n (startM inp)).ended = true := by
    cases e : (iterM F n (startM inp)).ended with
    | true => rfl
    | false => exact absurd ((fuelled_kind hw.kind).2 e) h
  unfold runM
  rw [iterM_add, iterM_ended he]
theorem run_most (F : Pg) (inp : List Nat) (n : Nat) : (runM F inp n).steps ≤ n := by
  have hw := run_went F inp n
  have := hw.most
  have h0 : (startM inp).steps = 0 := rfl
  unfold runM
  rw [(fuelled_same _).1]
  omega
theorem run_fuel {inp : List Nat} {n : Nat} (h : (runM F inp n).kind = 4) : (runM F inp n).steps = n ∧ (iterM F n (startM inp)).ended = false := by
  have hw := run_went F inp n
  have he := (fuelled_kind hw.kind).1 h
  have := hw.all he
  have h0 : (startM inp).steps = 0 := rfl
  unfold runM
  rw [(fuelled_same _).1]
  exact ⟨by omega, he⟩
theorem more_trace (F : Pg) (inp : List Nat) (n m : Nat) : ∃ l, (runM F inp (n + m)).trace = (runM F inp n).trace ++ l := by
  have hw := run_went F inp n
  have h2 := iter_went (F := F) m (iterM F n (startM inp)) hw.kind
  unfold runM
  rw [(fuelled_same _).2, (fuelled_same _).2, iterM_add]
  exact h2.trace
theorem more_steps (F : Pg) (inp : List Nat) (n m : Nat) : (runM F inp n).steps ≤ (runM F inp (n + m)).steps := by
  have hw := run_went F inp n
  have h2 := iter_went (F := F) m (iterM F n (startM inp)) hw.kind
  unfold runM
  rw [(fuelled_same _).1, (fuelled_same _).1, iterM_add]
  exact h2.least
/-- A run that ends with n + 1 units, but not with n, takes n + 1 steps. -/
theorem one_more {inp : List Nat} {n : Nat} (h : (runM F inp n).kind = 4) (h2 : (runM F inp (n + 1)).kind ≠ 4) : (runM F inp (n + 1)).steps = n + 1 := by
  obtain ⟨h3, h4⟩ := run_fuel h
  have hm := step_moved (F := F) h4
  have hw := run_went F inp n
  have h5 := hw.all h4
  have h0 : (startM inp).steps = 0 := rfl
  unfold runM
  rw [(fuelled_same _).1, iterM_succ, if_neg (by rw [h4]; decide), hm.steps]
  omega
theorem run_zero (F : Pg) (inp : List Nat) : (runM F inp 0).kind = 4 ∧ (runM F inp 0).steps = 0 := ⟨rfl, rfl⟩
end
end Go.Proofs.YtipjeihfhnilcaaDoor
end

section
/-
  What every state of a run of a right program keeps (chapter 8). Nothing here names the program.
-/
namespace Go.Proofs.YtipjeihfhnilcaaDoor
open Go.RowKit

/-- A state from which a run of F goes on. -/
structure Vld (F : Pg) (s : Mch) : Prop where
  r8 : s.regs.length = 8
  rv : ∀ V ∈ s.regs, V < two128
  iv : ∀ v ∈ s.inp, v < 18446744073709551616
  ne : 1 ≤ s.st.length
  fn : ∀ a ∈ s.st, ∃ f, F[a.f]? = some f ∧ a.pc < f.code.length
  cv : ∀ a ∈ s.st, (∀ i v, a.sl i = some v → v < two128) ∧ (∀ i v, a.ar i = some v → v < two128)
  zero : ∀ a, s.st[0]? = some a → a.f = 0
  len : s.st.length ≤ s.steps + 1
  dep : s.depth ≤ s.steps + 1
  tl : s.trace.length ≤ s.steps
section
variable {F : Pg} {s : Mch}
theorem Vld.split (h : Vld F s) : ∃ ys z, s.st = ys ++ [z] ∧ s.top = z ∧ s.st.dropLast = ys := by
  have hn : s.st ≠ [] := by intro e; have := h.ne; rw [e] at this; simp at this
  obtain ⟨ys, z, e⟩ : ∃ ys z, s.st = ys ++ [z] := ⟨s.st.dropLast, s.st.getLast hn, (List.dropLast_concat_getLast hn).symm⟩
  refine ⟨ys, z, e, ?_, by rw [e, List.dropLast_concat]⟩
  unfold Mch.top
  rw [e, List.getLastD_concat]
theorem Vld.next_at (h : Vld F s) : ∃ f, F[s.top.f]? = some f ∧ s.top.pc < f.code.length ∧ f.code[s.top.pc]? = some (s.next F) := by
  obtain ⟨ys, z, e, ht, _⟩ := h.split
  obtain ⟨f, h1, h2⟩ := h.fn z (by rw [e]; simp)
  rw [ht]
  refine ⟨f, h1, h2, ?_⟩
  have eF : F.getD z.f ⟨0, [], []⟩ = f := by rw [List.getD_eq_getElem?_getD, h1]; rfl
  unfold Mch.next insAt
  rw [ht, eF, List.getD_eq_getElem?_getD, List.getElem?_eq_getElem h2]
  rfl
theorem Vld.reg (h : Vld F s) (i : Int) : s.reg i < two128 := by
  unfold Mch.reg
  rw [List.getD_eq_getElem?_getD]
  cases e : s.regs[i.toNat]? with
  | none => decide
  | some V => exact h.rv V (List.mem_of_getElem? e)
theorem Vld.setR (h : Vld F s) (i : Int) {v : Nat} (hv : v < two128) : Vld F (s.setR i v) :=
  ⟨by show (s.regs.set _ _).length = 8; rw [List.length_set]; exact h.r8, fun V hV => by
    rcases List.mem_or_eq_of_mem_set hV with h1 | h1
    · exact h.rv V h1
    · rw [h1]; exact hv, h.iv, h.ne, h.fn, h.cv, h.zero, h.len, h.dep, h.tl⟩
theorem Vld.stop (h : Vld F s) (k : Int) : Vld F (s.stop k) := ⟨h.r8, h.rv, h.iv, h.ne, h.fn, h.cv, h.zero, h.len, h.dep, h.tl⟩
theorem Vld.read (h : Vld F s) (o : Option Nat) : Vld F (s.read o) := by
  unfold Mch.read
  split
  · exact h.stop 3
  · exact h
/-- Another activation runs, of the same function. -/
theorem Vld.setTop (h : Vld F s) (a : Acn) (hf : a.f = s.top.f) (hp : ∃ f, F[a.f]? = some f ∧ a.pc < f.code.length) (hc : (∀ i v, a.sl i = some v → v < two128) ∧ (∀ i v, a.ar i = some v → v < two128)) : Vld F (s.setTop a) := by
  obtain ⟨ys, z, e, ht, hd⟩ := h.split
  have hst : (s.setTop a).st = ys ++ [a] := by show s.st.dropLast ++ [a] = _; rw [hd]
  have hl : (s.setTop a).st.length = s.st.length := by rw [hst, e]; simp
  refine ⟨h.r8, h.rv, h.iv, by rw [hl]; exact h.ne, fun b hb => ?_, fun b hb => ?_, fun b hb => ?_, by rw [hl]; exact h.len, h.dep, h.tl⟩
  · rw [hst] at hb
    rcases List.mem_append.1 hb with hb | hb
    · exact h.fn b (by rw [e]; exact List.mem_append_left _ hb)
    · obtain rfl : b = a := by simpa using hb
      exact hp
  · rw [hst] at hb
    rcases List.mem_append.1 hb with hb | hb
    · exact h.cv b (by rw [e]; exact List.mem_append_left _ hb)
    · obtain rfl : b = a := by simpa using hb
      exact hc
  · rw [hst] at hb
    cases ys with
    | nil =>
      have hb : a = b := by simpa using hb
      rw [← hb, hf, ht]
      exact h.zero z (by rw [e]; rfl)
    | cons y r =>
      have hb : y = b := by simpa using hb
      rw [← hb]
      exact h.zero y (by rw [e]; rfl)
theorem Vld.counted (h : Vld F s) : Vld F { s with steps := s.steps + 1 } := ⟨h.r8, h.rv, h.iv, h.ne, h.fn, h.cv, h.zero, by have := h.len; show s.st.length ≤ s.steps + 1 + 1; omega, by have := h.dep; show s.depth ≤ s.steps + 1 + 1; omega, by have := h.tl; show s.trace.length ≤ s.steps + 1; omega⟩
theorem Vld.top_cv (h : Vld F s) : (∀ i v, s.top.sl i = some v → v < two128) ∧ (∀ i v, s.top.ar i = some v → v < two128) := by
  obtain ⟨ys, z, e, ht, _⟩ := h.split
  rw [ht]
  exact h.cv z (by rw [e]; simp)
theorem Vld.jumped (h : Vld F s) {n : Nat} {f : Fn} (hf : F[s.top.f]? = some f) (hn : n < f.code.length) : Vld F (({ s with steps := s.steps + 1 } : Mch).jump n) :=
  h.counted.setTop _ rfl ⟨f, hf, hn⟩ h.top_cv
theorem Vld.fetched (h : Vld F s) {f : Fn} (hf : F[s.top.f]? = some f) (hn : s.top.pc + 1 < f.code.length) : Vld F s.fetched := h.jumped hf hn
theorem fetched_top (h : Vld F s) : s.fetched.top = { s.top with pc := s.top.pc + 1 } := by
  unfold Mch.fetched Mch.jump Mch.setTop Mch.top
  dsimp only
  rw [List.getLastD_concat]
theorem fetched_jump (h : Vld F s) (n : Nat) : s.fetched.jump n = ({ s with steps := s.steps + 1 } : Mch).jump n := by
  have ht := fetched_top h
  unfold Mch.jump at *
  unfold Mch.setTop
  rw [ht]
  unfold Mch.fetched Mch.jump Mch.setTop
  dsimp only
  rw [List.dropLast_concat]
  rfl
theorem lt64 {n : Nat} (h : n < 18446744073709551616) : n < two128 := by unfold two128; omega
theorem Vld.computeM (h : Vld F s) (x : Ins) (hm : 0 ≤ x.imm ∧ x.imm ≤ 18446744073709551615) (hsp : s.trace.length + 1 ≤ s.steps) : Vld F (s.computeM x) := by
  unfold Mch.computeM
  split
  · exact h.setR _ (lt64 (by omega))
  · split
    · exact h.setR _ (h.reg _)
    · split
      · exact h.setR _ (by unfold pairV two128; omega)
      · split
        · exact h.setR _ (by unfold highV two128; omega)
        · split
          · have h2 : Vld F { s with inp := s.inp.tail } := ⟨h.r8, h.rv, fun v hv => h.iv v (List.mem_of_mem_tail hv), h.ne, h.fn, h.cv, h.zero, h.len, h.dep, h.tl⟩
            refine h2.setR _ (lt64 ?_)
            cases e : s.inp with
            | nil => decide
            | cons v r => exact h.iv v (by rw [e]; simp)
          · split
            · exact ⟨h.r8, h.rv, h.iv, h.ne, h.fn, h.cv, h.zero, h.len, h.dep, by show (s.trace ++ [_]).length ≤ s.steps; rw [List.length_append]; exact hsp⟩
            · unfold Mch.applyM
              split
              · exact h.setR _ (opRes_lt _ _ _ (h.reg _) (h.reg _))
              · exact h.stop 2
theorem updC_lt {m : Cl} {i : Int} {v : Nat} (hm : ∀ i v, m i = some v → v < two128) (hv : v < two128) : ∀ j u, updC m i v j = some u → u < two128 := fun j u hu => by
  unfold updC at hu
  split at hu
  · injection hu with hu; rw [← hu]; exact hv
  · exact hm j u hu
theorem getD_lt {o : Option Nat} (h : ∀ v, o = some v → v < two128) : o.getD 0 < two128 := by
  cases o with
  | none => decide
  | some v => exact h v rfl
theorem Vld.caller_cv (h : Vld F s) : (∀ i v, s.caller.ar i = some v → v < two128) := fun i v hv => by
  unfold Mch.caller at hv
  rw [List.getD_eq_getElem?_getD] at hv
  cases e : s.st[s.st.length - 2]? with
  | none => rw [e] at hv; cases hv
  | some a => rw [e] at hv; exact (h.cv a (List.mem_of_getElem? e)).2 i v hv
theorem Vld.top_fn (h : Vld F s) : ∃ f, F[s.top.f]? = some f ∧ s.top.pc < f.code.length := by
  obtain ⟨f, h1, h2, _⟩ := h.next_at
  exact ⟨f, h1, h2⟩
theorem read_top (s : Mch) (o : Option Nat) : (s.read o).top = s.top := by unfold Mch.read; split <;> rfl
theorem Vld.accessM (h : Vld F s) (x : Ins) : Vld F (s.accessM F x) := by
  have hc := h.top_cv
  unfold Mch.accessM
  split
  · exact (h.read _).setR _ (getD_lt fun v hv => hc.1 _ v hv)
  · split
    · exact h.setTop _ rfl h.top_fn ⟨updC_lt hc.1 (truncV_lt _ _), hc.2⟩
    · split
      · exact (h.read _).setTop _ (by rw [read_top]) h.top_fn ⟨updC_lt hc.1 (getD_lt fun v hv => hc.1 _ v hv), hc.2⟩
      · split
        · exact h.setTop _ rfl h.top_fn ⟨hc.1, updC_lt hc.2 (h.reg _)⟩
        · exact (h.read _).setR _ (getD_lt fun v hv => h.caller_cv _ v hv)
theorem Vld.enter (h : Vld F s) {n : Nat} {f : Fn} (hf : F[n]? = some f) (hc : 1 ≤ f.code.length) (hs : s.st.length + 1 ≤ s.steps + 1) : Vld F (s.enter n) := by
  have hst : (s.enter n).st = s.st ++ [⟨n, 0, noC, noC⟩] := rfl
  refine ⟨h.r8, h.rv, h.iv, by rw [hst]; simp, fun a ha => ?_, fun a ha => ?_, fun a ha => ?_, by rw [hst, List.length_append]; exact hs, ?_, h.tl⟩
  · rw [hst] at ha
    rcases List.mem_append.1 ha with ha | ha
    · exact h.fn a ha
    · obtain rfl : a = ⟨n, 0, noC, noC⟩ := by simpa using ha
      exact ⟨f, hf, hc⟩
  · rw [hst] at ha
    rcases List.mem_append.1 ha with ha | ha
    · exact h.cv a ha
    · obtain rfl : a = ⟨n, 0, noC, noC⟩ := by simpa using ha
      exact ⟨(fun i v hv => by cases hv), (fun i v hv => by cases hv)⟩
  · rw [hst] at ha
    refine h.zero a ?_
    rwa [List.getElem?_append_left (by have := h.ne; omega)] at ha
  · show max s.depth (s.st.length + 1) ≤ s.steps + 1
    have := h.dep
    omega
end
end Go.Proofs.YtipjeihfhnilcaaDoor
end

section
/-
  A step keeps what every state of a run of a right program keeps (chapter 8). Nothing here names the program.
-/
namespace Go.Proofs.YtipjeihfhnilcaaDoor
open Go.RowKit

section
variable {F : Pg} {s : Mch}
/-- Imm fields of 64 bits. -/
def ImmF (F : Pg) : Prop := ∀ f ∈ F, ∀ x ∈ f.code, 0 ≤ x.imm ∧ x.imm ≤ 18446744073709551615
theorem vopnd_reg {N : Nat} {f : Fn} {n : Int} (h : opndE N f 6 n = 0) : n.toNat < f.code.length := by
  have h1 := withB_true.1 (opndE_zero.1 h)
  have : cntV N f 6 = f.code.length := rfl
  omega
theorem vopnd_fn {N : Nat} {f : Fn} {n : Int} (h : opndE N f 3 n = 0) : n.toNat < N := by
  have h1 := withB_true.1 (opndE_zero.1 h)
  have : cntV N f 3 = N := rfl
  omega
theorem fn_of {F : Pg} (hF : pgE F = 0) {n : Nat} {f : Fn} (h : F[n]? = some f) : fnE F.length f = 0 := (pgE_zero.1 hF).2.2 f (List.mem_of_getElem? h)
theorem fetched_st (h : Vld F s) : s.fetched.st.length = s.st.length ∧ s.fetched.st.dropLast = s.st.dropLast := by
  obtain ⟨ys, z, e, ht, hd⟩ := h.split
  have hst : s.fetched.st = s.st.dropLast ++ [{ s.top with pc := s.top.pc + 1 }] := rfl
  exact ⟨by rw [hst, hd, e]; simp, by rw [hst, List.dropLast_concat]⟩
theorem vld_step (hF : pgE F = 0) (him : ImmF F) (h : Vld F s) : (s.stepM F).ended = true ∨ Vld F (s.stepM F) := by
  obtain ⟨f, hf, hp, hx⟩ := h.next_at
  obtain ⟨hc, _, _, hins, hcl⟩ := fnE_zero.1 (fn_of hF hf)
  have hxm := List.mem_of_getElem? hx
  have hxe := hins _ hxm
  have hxi := him f (List.mem_of_getElem? hf) _ hxm
  obtain ⟨ho, e1, e2, e3, e4, _⟩ := insE_zero.1 hxe
  obtain ⟨hfl, hfd⟩ := fetched_st h
  unfold Mch.stepM Mch.exec
  generalize hxx : s.next F = x at *
  obtain ⟨op, xa, xb, xc, imm⟩ := x
  dsimp only at *
  by_cases h1 : 15 ≤ op ∧ op ≤ 19
  · rw [if_pos h1]
    have hnt : termB op = false := by
      unfold termB
      simp only [Bool.or_eq_false_iff, beq_eq_false_iff_ne]
      omega
    exact .inr ((h.fetched hf (not_last hcl hx hnt)).accessM _)
  · rw [if_neg h1]
    by_cases h2 : 20 ≤ op ∧ op ≤ 24
    · rw [if_pos h2]
      unfold Mch.transferM
      dsimp only
      rcases (show op = 20 ∨ op = 21 ∨ op = 22 ∨ op = 23 ∨ op = 24 by omega) with rfl | rfl | rfl | rfl | rfl
      · rw [if_pos rfl, fetched_jump h]
        exact .inr (h.jumped hf (vopnd_reg e1))
      · rw [if_neg (by decide), if_pos rfl]
        split
        · exact .inr (h.fetched hf (not_last hcl hx rfl))
        · rw [fetched_jump h]
          exact .inr (h.jumped hf (vopnd_reg e2))
      · rw [if_neg (by decide), if_neg (by decide), if_pos rfl]
        have hn := vopnd_fn e1
        obtain ⟨f2, hf2⟩ : ∃ f2, F[xa.toNat]? = some f2 := ⟨_, List.getElem?_eq_getElem hn⟩
        refine .inr ((h.fetched hf (not_last hcl hx rfl)).enter hf2 (closed_some (fnE_zero.1 (fn_of hF hf2)).2.2.2.2) ?_)
        have := h.len
        show s.fetched.st.length + 1 ≤ s.steps + 1 + 1
        omega
      · rw [if_neg (by decide), if_neg (by decide), if_neg (by decide), if_pos rfl]
        unfold Mch.leave
        dsimp only
        split
        · exact .inl rfl
        · rename_i hl
          rw [hfl] at hl
          rw [hfd]
          obtain ⟨ys, z, e, ht, hd⟩ := h.split
          have hyl : s.st.length = ys.length + 1 := by rw [e]; simp
          refine .inr ⟨h.r8, h.rv, h.iv, ?_, fun a ha => ?_, fun a ha => ?_, fun a ha => ?_, ?_, ?_, ?_⟩
          · show 1 ≤ s.st.dropLast.length
            rw [hd]; omega
          · exact h.fn a (List.dropLast_subset _ ha)
          · exact h.cv a (List.dropLast_subset _ ha)
          · refine h.zero a ?_
            have ha2 : ys[0]? = some a := by rw [← hd]; exact ha
            rw [e, List.getElem?_append_left (by omega)]
            exact ha2
          · show s.st.dropLast.length ≤ s.steps + 1 + 1
            have := h.len
            rw [List.length_dropLast]
            omega
          · have := h.dep
            show s.depth ≤ s.steps + 1 + 1
            omega
          · have := h.tl
            show s.trace.length ≤ s.steps + 1
            omega
      · rw [if_neg (by decide), if_neg (by decide), if_neg (by decide), if_neg (by decide)]
        exact .inl rfl
    · rw [if_neg h2]
      have hnt : termB op = false := by
        unfold termB
        simp only [Bool.or_eq_false_iff, beq_eq_false_iff_ne]
        omega
      refine .inr ((h.fetched hf (not_last hcl hx hnt)).computeM _ hxi ?_)
      have := h.tl
      show s.trace.length + 1 ≤ s.steps + 1
      omega
theorem vld_start (hF : pgE F = 0) {inp : List Nat} (hi : ∀ v ∈ inp, v < 18446744073709551616) : Vld F (startM inp) := by
  obtain ⟨_, ⟨f, r, e, hp⟩, hall⟩ := pgE_zero.1 hF
  refine ⟨by simp [startM], fun V hV => ?_, hi, Nat.le_refl _, fun a ha => ?_, fun a ha => ?_, fun a ha => ?_, Nat.le_refl _, Nat.le_refl _, Nat.le_refl _⟩
  · have : V = 0 := by simpa [startM] using hV
    rw [this]; decide
  · obtain rfl : a = ⟨0, 0, noC, noC⟩ := by simpa [startM] using ha
    exact ⟨f, by rw [e]; rfl, closed_some (fnE_zero.1 (hall f (by rw [e]; simp))).2.2.2.2⟩
  · obtain rfl : a = ⟨0, 0, noC, noC⟩ := by simpa [startM] using ha
    exact ⟨(fun i v hv => by cases hv), (fun i v hv => by cases hv)⟩
  · have : (⟨0, 0, noC, noC⟩ : Acn) = a := by simpa [startM] using ha
    rw [← this]
end
end Go.Proofs.YtipjeihfhnilcaaDoor
end

section
/-
  Equality of two values as the program asks it ('==', '!='): the run of the operation. No function of the program is named here.
-/
namespace Go.Proofs.YtipjeihfhnilcaaDoor
open Go.RowKit

theorem vv_fields : Tryd.prog.underlying 33 = some (.struct (Tryd.prog.fieldsOf 33)) := by kernel_rfl
theorem vv_held : Tryd.prog.stoodInHeld 33 = false := by kernel_rfl
theorem equalIn_val (l h m k : Int) (w : World) : (Op.equalIn 10000 33 (.agg #[.int .u64 l, .int .u64 h]) (.agg #[.int .u64 m, .int .u64 k])).run Tryd.prog w = .ok (decide (l = m) && decide (h = k)) w := by
  rw [show (10000 : Nat) = 9999 + 1 from rfl, run_equalIn_agg w 9999 33 _ _ vv_fields vv_held]
  have u := Tryd.underlying31
  have a := Tryd.isAgg31
  have z := Tryd.sizeOf31
  simp only [Program.fieldsOf, Tryd.underlying33]
  go_simp
  by_cases h1 : l = m <;> by_cases h2 : h = k <;> simp [h1, h2]

theorem run_eq_vv (X Y : Nat) (w : World) (hX : X < two128) (hY : Y < two128) : (binOp .eql 33 (.agg #[.int .u64 (lo X), .int .u64 (hi X)]) (.agg #[.int .u64 (lo Y), .int .u64 (hi Y)])).run Tryd.prog w = .ok (.bool (decide (X = Y))) w := by
  rw [run_eql_struct, equalIn_val, Result.andThen_ok, ← Bool.decide_and, decide_eq_decide.2 (eq_words hX hY)]
theorem run_ne_vv (X Y : Nat) (w : World) (hX : X < two128) (hY : Y < two128) : (binOp .neq 33 (.agg #[.int .u64 (lo X), .int .u64 (hi X)]) (.agg #[.int .u64 (lo Y), .int .u64 (hi Y)])).run Tryd.prog w = .ok (.bool (!decide (X = Y))) w := by
  rw [run_neq_struct, equalIn_val, Result.andThen_ok, ← Bool.decide_and, decide_eq_decide.2 (eq_words hX hY)]
theorem run_eq_zero (X : Nat) (w : World) (hX : X < two128) : (binOp .eql 33 (.agg #[.int .u64 (lo X), .int .u64 (hi X)]) (.agg #[.int .u64 0, .int .u64 0])).run Tryd.prog w = .ok (.bool (decide (X = 0))) w := run_eq_vv X 0 w hX two128_pos
/-- Two values whose words agree. -/
theorem run_ne_same (X Y : Nat) (w : World) (h : X % two128 = Y % two128) : (binOp .neq 33 (.agg #[.int .u64 (lo X), .int .u64 (hi X)]) (.agg #[.int .u64 (lo Y), .int .u64 (hi Y)])).run Tryd.prog w = .ok (.bool false) w := by
  rw [run_neq_struct, equalIn_val, (vv_congr h).1, (vv_congr h).2]; simp [Result.andThen]
theorem run_eq_same (X Y : Nat) (w : World) (h : X % two128 = Y % two128) : (binOp .eql 33 (.agg #[.int .u64 (lo X), .int .u64 (hi X)]) (.agg #[.int .u64 (lo Y), .int .u64 (hi Y)])).run Tryd.prog w = .ok (.bool true) w := by
  rw [run_eql_struct, equalIn_val, (vv_congr h).1, (vv_congr h).2]; simp [Result.andThen]
end Go.Proofs.YtipjeihfhnilcaaDoor
end
