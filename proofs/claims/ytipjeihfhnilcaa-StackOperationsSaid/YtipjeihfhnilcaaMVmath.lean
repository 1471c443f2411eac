import Derived.Test.YtipjeihfhnilcaaRows
import Derived.Laws.BitsAllLaws
set_option linter.unusedVariables false
set_option linter.unusedSimpArgs false
section
/-
  Plain mathematics of values of 128 bits as natural numbers: the two words, sums, differences, products, division bit by bit. No function of the program is named here.
-/
namespace Go.Proofs.Ytipjeihfhnilcaa

/-- 2^128, and 2^64, behind names. -/
def two128 : Nat := 340282366920938463463374607431768211456
def two64 : Nat := 18446744073709551616
theorem two128_eq : two128 = 2 ^ 128 := by decide
theorem two64_eq : two64 = 2 ^ 64 := by decide
theorem two_sq : two128 = two64 * two64 := by decide
theorem two64_pos : 0 < two64 := by decide
theorem two128_pos : 0 < two128 := by decide

/-- The low word and the high word of a number. -/
def lo (V : Nat) : Int := ((V % 18446744073709551616 : Nat) : Int)
def hi (V : Nat) : Int := ((V / 18446744073709551616 % 18446744073709551616 : Nat) : Int)
/-- The number of two words. -/
def num (l h : Int) : Nat := l.toNat + 18446744073709551616 * h.toNat

/-- 1 or 0. -/
def bn (b : Bool) : Nat := if b then 1 else 0
theorem lo_b (V : Nat) : 0 ≤ lo V ∧ lo V ≤ 18446744073709551615 := by unfold lo; omega
theorem hi_b (V : Nat) : 0 ≤ hi V ∧ hi V ≤ 18446744073709551615 := by unfold hi; omega
theorem num_lt {l h : Int} (l1 : l ≤ 18446744073709551615) (h1 : h ≤ 18446744073709551615) : num l h < two128 := by unfold num two128; omega
theorem lo_num {l h : Int} (l0 : 0 ≤ l) (l1 : l ≤ 18446744073709551615) (h0 : 0 ≤ h) (h1 : h ≤ 18446744073709551615) : lo (num l h) = l := by unfold num lo; omega
theorem hi_num {l h : Int} (l0 : 0 ≤ l) (l1 : l ≤ 18446744073709551615) (h0 : 0 ≤ h) (h1 : h ≤ 18446744073709551615) : hi (num l h) = h := by unfold num hi; omega
theorem num_lo_hi {V : Nat} (h : V < two128) : num (lo V) (hi V) = V := by unfold num lo hi; unfold two128 at h; omega
theorem val_eq {V : Nat} (h : V < two128) : (V : Int) = lo V + 18446744073709551616 * hi V := by unfold lo hi; unfold two128 at h; omega

/-- The words of a number, given as the number is: what each operation's answer must be. -/
theorem words {V : Nat} {l h : Int} (l0 : 0 ≤ l) (l1 : l ≤ 18446744073709551615) (e : (l + 18446744073709551616 * h) % 340282366920938463463374607431768211456 = (V : Int) % 340282366920938463463374607431768211456)
    (h0 : 0 ≤ h) (h1 : h ≤ 18446744073709551615) : l = lo V ∧ h = hi V := by
  unfold lo hi; omega

theorem lo_mod (V : Nat) : lo (V % two128) = lo V := by unfold lo two128; omega
theorem hi_mod (V : Nat) : hi (V % two128) = hi V := by unfold hi two128; omega

theorem eq_words {X Y : Nat} (hX : X < two128) (hY : Y < two128) : (lo X = lo Y ∧ hi X = hi Y) ↔ X = Y := by
  constructor
  · intro ⟨h1, h2⟩
    have := val_eq hX
    have := val_eq hY
    omega
  · rintro rfl; exact ⟨rfl, rfl⟩
theorem zero_words {X : Nat} (hX : X < two128) : (lo X = 0 ∧ hi X = 0) ↔ X = 0 := by
  have := eq_words hX (Y := 0) two128_pos
  rw [← this]
  exact ⟨fun ⟨a, b⟩ => ⟨by rw [a]; rfl, by rw [b]; rfl⟩, fun ⟨a, b⟩ => ⟨by rw [a]; rfl, by rw [b]; rfl⟩⟩
theorem lt_words {X Y : Nat} (hX : X < two128) (hY : Y < two128) : X < Y ↔ (hi X < hi Y ∨ (hi X = hi Y ∧ lo X < lo Y)) := by
  have := val_eq hX
  have := val_eq hY
  have := lo_b X
  have := lo_b Y
  constructor
  · intro h; omega
  · intro h; omega

theorem or_bit (x b : Nat) (hx : x % 2 = 0) (hb : b ≤ 1) : x ||| b = x + b := by
  apply Nat.eq_of_testBit_eq
  intro i
  rw [Nat.testBit_or]
  cases i with
  | zero => simp only [Nat.testBit_zero]; rw [hx, show (x + b) % 2 = b % 2 by omega]; simp
  | succ i => rw [Nat.testBit_succ, Nat.testBit_succ, Nat.testBit_succ, show b / 2 = 0 by omega, show (x + b) / 2 = x / 2 by omega]; simp
theorem or_bit_u64 (a b : Int) (a0 : 0 ≤ a) (a1 : a ≤ 18446744073709551615) (ha : a % 2 = 0) (b0 : 0 ≤ b) (b1 : b ≤ 1) : bits .or .u64 a b = a + b := by
  rw [u64_or a b a0 (by omega) b0 (by omega), or_bit _ _ (by omega) (by omega)]
  omega
theorem and_bit_u64 (a : Int) (a0 : 0 ≤ a) (a1 : a ≤ 18446744073709551615) : bits .and .u64 a 1 = a % 2 := by
  obtain ⟨n, rfl⟩ := Int.eq_ofNat_of_zero_le a0
  rw [show (1 : Int) = ((1 : Nat) : Int) from rfl, u64_and_nat n 1 (by omega) (by omega), Nat.and_one_is_mod]
  omega

theorem double_lo (X : Nat) (b : Int) (b0 : 0 ≤ b) (b1 : b ≤ 1) : bits .or .u64 (IntKind.u64.wrap (lo X * 2)) b = lo (2 * X + b.toNat) := by
  rw [IntKind.wrap_u64, or_bit_u64 _ _ (by omega) (by omega) (by omega) b0 b1]
  unfold lo; omega
theorem double_hi (X : Nat) (b : Int) (b0 : 0 ≤ b) (b1 : b ≤ 1) : bits .or .u64 (IntKind.u64.wrap (hi X * 2)) (lo X / 9223372036854775808) = hi (2 * X + b.toNat) := by
  have := lo_b X
  rw [IntKind.wrap_u64, or_bit_u64 _ _ (by omega) (by omega) (by omega) (by omega) (by omega)]
  unfold lo hi; omega
theorem twice_lo (X : Nat) : IntKind.u64.wrap (lo X * 2) = lo (2 * X) := by
  rw [IntKind.wrap_u64]
  unfold lo; omega
theorem twice_hi (X : Nat) : bits .or .u64 (IntKind.u64.wrap (hi X * 2)) (lo X / 9223372036854775808) = hi (2 * X) := by
  have := double_hi X 0 (by omega) (by omega)
  simpa using this

theorem sum_lo (X Y : Nat) : (lo X + lo Y) % 18446744073709551616 = lo (X + Y) := by unfold lo; omega
theorem sum_hi (X Y : Nat) : (hi X + hi Y + (lo X + lo Y) / 18446744073709551616) % 18446744073709551616 = hi (X + Y) := by unfold lo hi; omega
theorem diff_lo (X Y : Nat) (hY : Y < two128) : (lo X - lo Y) % 18446744073709551616 = lo (X + two128 - Y) := by unfold two128 at *; unfold lo; omega
/-- What is borrowed. -/
def brw (x y c : Int) : Int := if x < y + c then 1 else 0
theorem brw_b (x y c : Int) : 0 ≤ brw x y c ∧ brw x y c ≤ 1 := by unfold brw; split <;> omega
theorem diff_hi (X Y : Nat) (hY : Y < two128) : (hi X - hi Y - brw (lo X) (lo Y) 0) % 18446744073709551616 = hi (X + two128 - Y) := by unfold two128 at *; unfold brw lo hi; split <;> omega
theorem lo_mul (X Y : Nat) : lo X * lo Y = ((X % 18446744073709551616 * (Y % 18446744073709551616) : Nat) : Int) := by unfold lo; simp
theorem prod_lo (X Y : Nat) : lo X * lo Y % 18446744073709551616 = lo (X * Y) := by
  rw [lo_mul]
  unfold lo
  rw [Nat.mul_mod X Y]
  omega
theorem prod_nat (a b c d : Nat) : (a + 18446744073709551616 * b) * (c + 18446744073709551616 * d) / 18446744073709551616 % 18446744073709551616 = (a * c / 18446744073709551616 + a * d + b * c) % 18446744073709551616 := by
  have e : (a + 18446744073709551616 * b) * (c + 18446744073709551616 * d) = a * c + 18446744073709551616 * (a * d + b * c) + 340282366920938463463374607431768211456 * (b * d) := by
    rw [Nat.add_mul, Nat.mul_add, Nat.mul_add, Nat.mul_left_comm a, Nat.mul_assoc _ b c, Nat.mul_mul_mul_comm]
    omega
  rw [e]
  generalize a * c = p
  generalize a * d = q
  generalize b * c = r
  generalize b * d = t
  omega
theorem prod_hi (X Y : Nat) (hX : X < two128) (hY : Y < two128) :
    IntKind.u64.wrap (IntKind.u64.wrap (lo X * lo Y / 18446744073709551616 + IntKind.u64.wrap (lo X * hi Y)) + IntKind.u64.wrap (hi X * lo Y)) = hi (X * Y) := by
  have e : hi (X * Y) = ((X * Y / 18446744073709551616 % 18446744073709551616 : Nat) : Int) := rfl
  have eX : X = X % 18446744073709551616 + 18446744073709551616 * (X / 18446744073709551616 % 18446744073709551616) := by unfold two128 at hX; omega
  have eY : Y = Y % 18446744073709551616 + 18446744073709551616 * (Y / 18446744073709551616 % 18446744073709551616) := by unfold two128 at hY; omega
  rw [e, eX, eY, prod_nat, ← eX, ← eY]
  simp only [IntKind.wrap_u64]
  have e1 : lo X * hi Y = ((X % 18446744073709551616 * (Y / 18446744073709551616 % 18446744073709551616) : Nat) : Int) := by unfold lo hi; simp
  have e2 : hi X * lo Y = ((X / 18446744073709551616 % 18446744073709551616 * (Y % 18446744073709551616) : Nat) : Int) := by unfold lo hi; simp
  rw [e1, e2, lo_mul]
  generalize X % 18446744073709551616 * (Y % 18446744073709551616) = p
  generalize X % 18446744073709551616 * (Y / 18446744073709551616 % 18446744073709551616) = q
  generalize X / 18446744073709551616 % 18446744073709551616 * (Y % 18446744073709551616) = r
  omega
theorem div_uniq {a b d c : Nat} (hc : c < b) (h : c + b * d = a) : a / b = d ∧ a % b = c := (Nat.div_mod_unique (by omega)).2 ⟨h, hc⟩
/-- One step of the long division in base 2. -/
theorem div_less (A b Y : Nat) (h : 2 * (A % Y) + b < Y) : (2 * A + b) / Y = 2 * (A / Y) ∧ (2 * A + b) % Y = 2 * (A % Y) + b := by
  refine div_uniq h ?_
  have := Nat.div_add_mod A Y
  rw [Nat.mul_left_comm]
  omega
theorem div_more (A b Y : Nat) (hb : b ≤ 1) (hY : 0 < Y) (h : Y ≤ 2 * (A % Y) + b) : (2 * A + b) / Y = 2 * (A / Y) + 1 ∧ (2 * A + b) % Y = 2 * (A % Y) + b - Y := by
  have hr := Nat.mod_lt A hY
  refine div_uniq (by omega) ?_
  have := Nat.div_add_mod A Y
  rw [Nat.mul_add, Nat.mul_left_comm]
  omega

theorem vv_congr {V V' : Nat} (h : V % two128 = V' % two128) : lo V = lo V' ∧ hi V = hi V' := by
  rw [← lo_mod V, ← lo_mod V', ← hi_mod V, ← hi_mod V', h]; exact ⟨rfl, rfl⟩

theorem sub_mod128 (a b : Nat) (h : b ≤ a) : (a + two128 - b) % two128 = (a - b) % two128 := by
  rw [show a + two128 - b = a - b + two128 by unfold two128; omega, Nat.add_mod_right]
theorem half_pow (X j : Nat) : X / 2 ^ j = 2 * (X / 2 ^ (j + 1)) + X / 2 ^ j % 2 := by
  rw [Nat.pow_succ, ← Nat.div_div_eq_div_mul]; omega
/-- The bit that is taken at step k. -/
theorem top_bit (X k : Nat) (hk : k < 128) : (hi (X * 2 ^ k % two128) / 9223372036854775808).toNat = X / 2 ^ (127 - k) % 2 := by
  obtain ⟨j, hj⟩ : ∃ j, 127 - k = j := ⟨_, rfl⟩
  have e128 : two128 = 2 ^ k * 2 ^ (j + 1) := by rw [← Nat.pow_add, show k + (j + 1) = 128 by omega]; rfl
  have e1 : (hi (X * 2 ^ k % two128) / 9223372036854775808).toNat = X * 2 ^ k % two128 / 2 ^ 127 := by
    have hlt : X * 2 ^ k % two128 < two128 := Nat.mod_lt _ two128_pos
    generalize X * 2 ^ k % two128 = V at *
    rw [show (2 : Nat) ^ 127 = 170141183460469231731687303715884105728 by decide]
    unfold two128 at hlt
    unfold hi
    omega
  rw [e1, hj, e128, Nat.mul_comm X, Nat.mul_mod_mul_left, show (2 : Nat) ^ 127 = 2 ^ k * 2 ^ j by rw [← Nat.pow_add, show k + j = 127 by omega], Nat.mul_div_mul_left _ _ (Nat.two_pow_pos k), Nat.pow_succ, Nat.mod_mul_right_div_self]
theorem next_x (X k : Nat) : 2 * (X * 2 ^ k % two128) % two128 = X * 2 ^ (k + 1) % two128 := by
  rw [Nat.mul_mod_mod, Nat.pow_succ, Nat.mul_comm 2, Nat.mul_assoc]
theorem next_a (X k : Nat) (hk : k < 128) : X / 2 ^ (128 - (k + 1)) = 2 * (X / 2 ^ (128 - k)) + X / 2 ^ (127 - k) % 2 := by
  have := half_pow X (127 - k)
  rw [show 127 - k + 1 = 128 - k by omega] at this
  rw [show 128 - (k + 1) = 127 - k by omega]
  omega
theorem quot_zero (X Y : Nat) (hX : X < two128) : X / 2 ^ (128 - 0) / Y = 0 ∧ X / 2 ^ (128 - 0) % Y = 0 := by
  have e : X / 2 ^ (128 - 0) = 0 := Nat.div_eq_of_lt hX
  rw [e]; simp
/-- All of a step: what the program computes, and what it must be. -/
theorem quot_step (X Y k : Nat) (hX : X < two128) (hk : k < 128) (hY : 0 < Y) (xk qk rk : Nat) (hx : xk = X * 2 ^ k % two128) (hq : qk = X / 2 ^ (128 - k) / Y) (hr : rk = X / 2 ^ (128 - k) % Y) :
    2 * xk % two128 = X * 2 ^ (k + 1) % two128 ∧ 2 * rk + (hi xk / 9223372036854775808).toNat < two128 ∧
    (2 * rk + (hi xk / 9223372036854775808).toNat < Y → 2 * qk = X / 2 ^ (128 - (k + 1)) / Y ∧ 2 * rk + (hi xk / 9223372036854775808).toNat = X / 2 ^ (128 - (k + 1)) % Y) ∧
    (Y ≤ 2 * rk + (hi xk / 9223372036854775808).toNat → 2 * qk + 1 = X / 2 ^ (128 - (k + 1)) / Y ∧ 2 * rk + (hi xk / 9223372036854775808).toNat - Y = X / 2 ^ (128 - (k + 1)) % Y) := by
  subst hx
  rw [top_bit X k hk, next_a X k hk]
  refine ⟨next_x X k, ?_, ?_, ?_⟩
  · have h1 := next_a X k hk
    have h2 : X / 2 ^ (128 - (k + 1)) ≤ X := Nat.div_le_self _ _
    have h3 := Nat.mod_le (X / 2 ^ (128 - k)) Y
    omega
  · intro h
    have := div_less (X / 2 ^ (128 - k)) (X / 2 ^ (127 - k) % 2) Y (by omega)
    omega
  · intro h
    have := div_more (X / 2 ^ (128 - k)) (X / 2 ^ (127 - k) % 2) Y (by omega) hY (by omega)
    omega
end Go.Proofs.Ytipjeihfhnilcaa
end
