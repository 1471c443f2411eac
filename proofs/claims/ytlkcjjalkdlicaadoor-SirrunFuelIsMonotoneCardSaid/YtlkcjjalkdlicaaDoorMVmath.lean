import Derived.Test.YtlkcjjalkdlicaaDoorRows
import Derived.Test.YtlkcjjalkdlicaaDoorMKit
import Derived.Laws.BitsAllLaws
import Derived.Laws.Rows
set_option linter.unusedVariables false
set_option linter.unusedSimpArgs false
section
/-
  Plain mathematics of values of 128 bits as natural numbers: the two words, sums, differences, products, division bit by bit. No function of the program is named here.
-/
namespace Go.Proofs.YtlkcjjalkdlicaaDoor

/-- 2^128, and 2^64, behind names. -/
def two128 : Nat := 340282366920938463463374607431768211456
def two64 : Nat := 18446744073709551616
theorem two128_eq : two128 = 2 ^ 128 := by decide
theorem two64_eq : two64 = 2 ^ 64 := by decide
theorem two_sq : two128 = two64 * two64 := by decide
theorem two64_pos : 0 < two64 := by decide
theorem two128_pos : 0 < two128 := by decide

/-- The low word and the high word of a number. -/
def lo (V : Nat) : Int := ((V % 18446744073709551616 : Nat) : Int)
def hi (V : Nat) : Int := ((V / 18446744073709551616 % 18446744073709551616 : Nat) : Int)
/-- The number of two words. -/
def num (l h : Int) : Nat := l.toNat + 18446744073709551616 * h.toNat

/-- 1 or 0. -/
def bn (b : Bool) : Nat := if b then 1 else 0
theorem lo_b (V : Nat) : 0 ≤ lo V ∧ lo V ≤ 18446744073709551615 := by unfold lo; omega
theorem hi_b (V : Nat) : 0 ≤ hi V ∧ hi V ≤ 18446744073709551615 := by unfold hi; omega
theorem num_lt {l h : Int} (l1 : l ≤ 18446744073709551615) (h1 : h ≤ 18446744073709551615) : num l h < two128 := by unfold num two128; omega
theorem lo_num {l h : Int} (l0 : 0 ≤ l) (l1 : l ≤ 18446744073709551615) (h0 : 0 ≤ h) (h1 : h ≤ 18446744073709551615) : lo (num l h) = l := by unfold num lo; omega
theorem hi_num {l h : Int} (l0 : 0 ≤ l) (l1 : l ≤ 18446744073709551615) (h0 : 0 ≤ h) (h1 : h ≤ 18446744073709551615) : hi (num l h) = h := by unfold num hi; omega
theorem num_lo_hi {V : Nat} (h : V < two128) : num (lo V) (hi V) = V := by unfold num lo hi; unfold two128 at h; omega
theorem val_eq {V : Nat} (h : V < two128) : (V : Int) = lo V + 18446744073709551616 * hi V := by unfold lo hi; unfold two128 at h; omega

/-- The words of a number, given as the number is: what each operation's answer must be. -/
theorem words {V : Nat} {l h : Int} (l0 : 0 ≤ l) (l1 : l ≤ 18446744073709551615) (e : (l + 18446744073709551616 * h) % 340282366920938463463374607431768211456 = (V : Int) % 340282366920938463463374607431768211456)
    (h0 : 0 ≤ h) (h1 : h ≤ 18446744073709551615) : l = lo V ∧ h = hi V := by
  unfold lo hi; omega

theorem lo_mod (V : Nat) : lo (V % two128) = lo V := by unfold lo two128; omega
theorem hi_mod (V : Nat) : hi (V % two128) = hi V := by unfold hi two128; omega

theorem eq_words {X Y : Nat} (hX : X < two128) (hY : Y < two128) : (lo X = lo Y ∧ hi X = hi Y) ↔ X = Y := by
  constructor
  · intro ⟨h1, h2⟩
    have := val_eq hX
    have := val_eq hY
    omega
  · rintro rfl; exact ⟨rfl, rfl⟩
theorem zero_words {X : Nat} (hX : X < two128) : (lo X = 0 ∧ hi X = 0) ↔ X = 0 := by
  have := eq_words hX (Y := 0) two128_pos
  rw [← this]
  exact ⟨fun ⟨a, b⟩ => ⟨by rw [a]; rfl, by rw [b]; rfl⟩, fun ⟨a, b⟩ => ⟨by rw [a]; rfl, by rw [b]; rfl⟩⟩
theorem lt_words {X Y : Nat} (hX : X < two128) (hY : Y < two128) : X < Y ↔ (hi X < hi Y ∨ (hi X = hi Y ∧ lo X < lo Y)) := by
  have := val_eq hX
  have := val_eq hY
  have := lo_b X
  have := lo_b Y
  constructor
  · intro h; omega
  · intro h; omega

theorem or_bit (x b : Nat) (hx : x % 2 = 0) (hb : b ≤ 1) : x ||| b = x + b := by
  apply Nat.eq_of_testBit_eq
  intro i
  rw [Nat.testBit_or]
  cases i with
  | zero => simp only [Nat.testBit_zero]; rw [hx, show (x + b) % 2 = b % 2 by omega]; simp
  | succ i => rw [Nat.testBit_succ, Nat.testBit_succ, Nat.testBit_succ, show b / 2 = 0 by omega, show (x + b) / 2 = x / 2 by omega]; simp
theorem or_bit_u64 (a b : Int) (a0 : 0 ≤ a) (a1 : a ≤ 18446744073709551615) (ha : a % 2 = 0) (b0 : 0 ≤ b) (b1 : b ≤ 1) : bits .or .u64 a b = a + b := by
  rw [u64_or a b a0 (by omega) b0 (by omega), or_bit _ _ (by omega) (by omega)]
  omega
theorem and_bit_u64 (a : Int) (a0 : 0 ≤ a) (a1 : a ≤ 18446744073709551615) : bits .and .u64 a 1 = a % 2 := by
  obtain ⟨n, rfl⟩ := Int.eq_ofNat_of_zero_le a0
  rw [show (1 : Int) = ((1 : Nat) : Int) from rfl, u64_and_nat n 1 (by omega) (by omega), Nat.and_one_is_mod]
  omega

theorem double_lo (X : Nat) (b : Int) (b0 : 0 ≤ b) (b1 : b ≤ 1) : bits .or .u64 (IntKind.u64.wrap (lo X * 2)) b = lo (2 * X + b.toNat) := by
  rw [IntKind.wrap_u64, or_bit_u64 _ _ (by omega) (by omega) (by omega) b0 b1]
  unfold lo; omega
theorem double_hi (X : Nat) (b : Int) (b0 : 0 ≤ b) (b1 : b ≤ 1) : bits .or .u64 (IntKind.u64.wrap (hi X * 2)) (lo X / 9223372036854775808) = hi (2 * X + b.toNat) := by
  have := lo_b X
  rw [IntKind.wrap_u64, or_bit_u64 _ _ (by omega) (by omega) (by omega) (by omega) (by omega)]
  unfold lo hi; omega
theorem twice_lo (X : Nat) : IntKind.u64.wrap (lo X * 2) = lo (2 * X) := by
  rw [IntKind.wrap_u64]
  unfold lo; omega
theorem twice_hi (X : Nat) : bits .or .u64 (IntKind.u64.wrap (hi X * 2)) (lo X / 9223372036854775808) = hi (2 * X) := by
  have := double_hi X 0 (by omega) (by omega)
  simpa using this

theorem sum_lo (X Y : Nat) : (lo X + lo Y) % 18446744073709551616 = lo (X + Y) := by unfold lo; omega
theorem sum_hi (X Y : Nat) : (hi X + hi Y + (lo X + lo Y) / 18446744073709551616) % 18446744073709551616 = hi (X + Y) := by unfold lo hi; omega
theorem diff_lo (X Y : Nat) (hY : Y < two128) : (lo X - lo Y) % 18446744073709551616 = lo (X + two128 - Y) := by unfold two128 at *; unfold lo; omega
/-- What is borrowed. -/
def brw (x y c : Int) : Int := if x < y + c then 1 else 0
theorem brw_b (x y c : Int) : 0 ≤ brw x y c ∧ brw x y c ≤ 1 := by unfold brw; split <;> omega
theorem diff_hi (X Y : Nat) (hY : Y < two128) : (hi X - hi Y - brw (lo X) (lo Y) 0) % 18446744073709551616 = hi (X + two128 - Y) := by unfold two128 at *; unfold brw lo hi; split <;> omega
theorem lo_mul (X Y : Nat) : lo X * lo Y = ((X % 18446744073709551616 * (Y % 18446744073709551616) : Nat) : Int) := by unfold lo; simp
theorem prod_lo (X Y : Nat) : lo X * lo Y % 18446744073709551616 = lo (X * Y) := by
  rw [lo_mul]
  unfold lo
  rw [Nat.mul_mod X Y]
  omega
theorem prod_nat (a b c d : Nat) : (a + 18446744073709551616 * b) * (c + 18446744073709551616 * d) / 18446744073709551616 % 18446744073709551616 = (a * c / 18446744073709551616 + a * d + b * c) % 18446744073709551616 := by
  have e : (a + 18446744073709551616 * b) * (c + 18446744073709551616 * d) = a * c + 18446744073709551616 * (a * d + b * c) + 340282366920938463463374607431768211456 * (b * d) := by
    rw [Nat.add_mul, Nat.mul_add, Nat.mul_add, Nat.mul_left_comm a, Nat.mul_assoc _ b c, Nat.mul_mul_mul_comm]
    omega
  rw [e]
  generalize a * c = p
  generalize a * d = q
  generalize b * c = r
  generalize b * d = t
  omega
theorem prod_hi (X Y : Nat) (hX : X < two128) (hY : Y < two128) :
    IntKind.u64.wrap (IntKind.u64.wrap (lo X * lo Y / 18446744073709551616 + IntKind.u64.wrap (lo X * hi Y)) + IntKind.u64.wrap (hi X * lo Y)) = hi (X * Y) := by
  have e : hi (X * Y) = ((X * Y / 18446744073709551616 % 18446744073709551616 : Nat) : Int) := rfl
  have eX : X = X % 18446744073709551616 + 18446744073709551616 * (X / 18446744073709551616 % 18446744073709551616) := by unfold two128 at hX; omega
  have eY : Y = Y % 18446744073709551616 + 18446744073709551616 * (Y / 18446744073709551616 % 18446744073709551616) := by unfold two128 at hY; omega
  rw [e, eX, eY, prod_nat, ← eX, ← eY]
  simp only [IntKind.wrap_u64]
  have e1 : lo X * hi Y = ((X % 18446744073709551616 * (Y / 18446744073709551616 % 18446744073709551616) : Nat) : Int) := by unfold lo hi; simp
  have e2 : hi X * lo Y = ((X / 18446744073709551616 % 18446744073709551616 * (Y % 18446744073709551616) : Nat) : Int) := by unfold lo hi; simp
  rw [e1, e2, lo_mul]
  generalize X % 18446744073709551616 * (Y % 18446744073709551616) = p
  generalize X % 18446744073709551616 * (Y / 18446744073709551616 % 18446744073709551616) = q
  generalize X / 18446744073709551616 % 18446744073709551616 * (Y % 18446744073709551616) = r
  omega
theorem div_uniq {a b d c : Nat} (hc : c < b) (h : c + b * d = a) : a / b = d ∧ a % b = c := (Nat.div_mod_unique (by omega)).2 ⟨h, hc⟩
/-- One step of the long division in base 2. -/
theorem div_less (A b Y : Nat) (h : 2 * (A % Y) + b < Y) : (2 * A + b) / Y = 2 * (A / Y) ∧ (2 * A + b) % Y = 2 * (A % Y) + b := by
  refine div_uniq h ?_
  have := Nat.div_add_mod A Y
  rw [Nat.mul_left_comm]
  omega
theorem div_more (A b Y : Nat) (hb : b ≤ 1) (hY : 0 < Y) (h : Y ≤ 2 * (A % Y) + b) : (2 * A + b) / Y = 2 * (A / Y) + 1 ∧ (2 * A + b) % Y = 2 * (A % Y) + b - Y := by
  have hr := Nat.mod_lt A hY
  refine div_uniq (by omega) ?_
  have := Nat.div_add_mod A Y
  rw [Nat.mul_add, Nat.mul_left_comm]
  omega

theorem vv_congr {V V' : Nat} (h : V % two128 = V' % two128) : lo V = lo V' ∧ hi V = hi V' := by
  rw [← lo_mod V, ← lo_mod V', ← hi_mod V, ← hi_mod V', h]; exact ⟨rfl, rfl⟩

theorem sub_mod128 (a b : Nat) (h : b ≤ a) : (a + two128 - b) % two128 = (a - b) % two128 := by
  rw [show a + two128 - b = a - b + two128 by unfold two128; omega, Nat.add_mod_right]
theorem half_pow (X j : Nat) : X / 2 ^ j = 2 * (X / 2 ^ (j + 1)) + X / 2 ^ j % 2 := by
  rw [Nat.pow_succ, ← Nat.div_div_eq_div_mul]; omega
/-- The bit that is taken at step k. -/
theorem top_bit (X k : Nat) (hk : k < 128) : (hi (X * 2 ^ k % two128) / 9223372036854775808).toNat = X / 2 ^ (127 - k) % 2 := by
  obtain ⟨j, hj⟩ : ∃ j, 127 - k = j := ⟨_, rfl⟩
  have e128 : two128 = 2 ^ k * 2 ^ (j + 1) := by rw [← Nat.pow_add, show k + (j + 1) = 128 by omega]; rfl
  have e1 : (hi (X * 2 ^ k % two128) / 9223372036854775808).toNat = X * 2 ^ k % two128 / 2 ^ 127 := by
    have hlt : X * 2 ^ k % two128 < two128 := Nat.mod_lt _ two128_pos
    generalize X * 2 ^ k % two128 = V at *
    rw [show (2 : Nat) ^ 127 = 170141183460469231731687303715884105728 by decide]
    unfold two128 at hlt
    unfold hi
    omega
  rw [e1, hj, e128, Nat.mul_comm X, Nat.mul_mod_mul_left, show (2 : Nat) ^ 127 = 2 ^ k * 2 ^ j by rw [← Nat.pow_add, show k + j = 127 by omega], Nat.mul_div_mul_left _ _ (Nat.two_pow_pos k), Nat.pow_succ, Nat.mod_mul_right_div_self]
theorem next_x (X k : Nat) : 2 * (X * 2 ^ k % two128) % two128 = X * 2 ^ (k + 1) % two128 := by
  rw [Nat.mul_mod_mod, Nat.pow_succ, Nat.mul_comm 2, Nat.mul_assoc]
theorem next_a (X k : Nat) (hk : k < 128) : X / 2 ^ (128 - (k + 1)) = 2 * (X / 2 ^ (128 - k)) + X / 2 ^ (127 - k) % 2 := by
  have := half_pow X (127 - k)
  rw [show 127 - k + 1 = 128 - k by omega] at this
  rw [show 128 - (k + 1) = 127 - k by omega]
  omega
theorem quot_zero (X Y : Nat) (hX : X < two128) : X / 2 ^ (128 - 0) / Y = 0 ∧ X / 2 ^ (128 - 0) % Y = 0 := by
  have e : X / 2 ^ (128 - 0) = 0 := Nat.div_eq_of_lt hX
  rw [e]; simp
/-- All of a step: what the program computes, and what it must be. -/
theorem quot_step (X Y k : Nat) (hX : X < two128) (hk : k < 128) (hY : 0 < Y) (xk qk rk : Nat) (hx : xk = X * 2 ^ k % two128) (hq : qk = X / 2 ^ (128 - k) / Y) (hr : rk = X / 2 ^ (128 - k) % Y) :
    2 * xk % two128 = X * 2 ^ (k + 1) % two128 ∧ 2 * rk + (hi xk / 9223372036854775808).toNat < two128 ∧
    (2 * rk + (hi xk / 9223372036854775808).toNat < Y → 2 * qk = X / 2 ^ (128 - (k + 1)) / Y ∧ 2 * rk + (hi xk / 9223372036854775808).toNat = X / 2 ^ (128 - (k + 1)) % Y) ∧
    (Y ≤ 2 * rk + (hi xk / 9223372036854775808).toNat → 2 * qk + 1 = X / 2 ^ (128 - (k + 1)) / Y ∧ 2 * rk + (hi xk / 9223372036854775808).toNat - Y = X / 2 ^ (128 - (k + 1)) % Y) := by
  subst hx
  rw [top_bit X k hk, next_a X k hk]
  refine ⟨next_x X k, ?_, ?_, ?_⟩
  · have h1 := next_a X k hk
    have h2 : X / 2 ^ (128 - (k + 1)) ≤ X := Nat.div_le_self _ _
    have h3 := Nat.mod_le (X / 2 ^ (128 - k)) Y
    omega
  · intro h
    have := div_less (X / 2 ^ (128 - k)) (X / 2 ^ (127 - k) % 2) Y (by omega)
    omega
  · intro h
    have := div_more (X / 2 ^ (128 - k)) (X / 2 ^ (127 - k) % 2) Y (by omega) hY (by omega)
    omega
end Go.Proofs.YtlkcjjalkdlicaaDoor
end

section
/-
  Words for the block that holds one value of 128 bits: 'Box w g V': block g holds just the two words of V. No function of the program is named here.
-/
namespace Go.Proofs.YtlkcjjalkdlicaaDoor
open Go.RowKit

/-- A value of 128 bits as Go has it. -/
abbrev vv (V : Nat) : Value := .agg #[.int .u64 (lo V), .int .u64 (hi V)]

/-- Block g is just the two words of V, not frozen. -/
def Box (w : World) (g V : Nat) : Prop := w.heap[g]? = some (.cells #[.int .u64 (lo V), .int .u64 (hi V)] 33 (0, 0))

section
variable {w w' : World} {g V : Nat}
theorem Box.lt (h : Box w g V) : g < w.heap.size := by
  rcases Nat.lt_or_ge g w.heap.size with hlt | hge
  · exact hlt
  · unfold Box at h; rw [Array.getElem?_eq_none hge] at h; cases h
theorem Box.c0 (h : Box w g V) : w.cell? ⟨g, 0, none⟩ = some (.int .u64 (lo V)) := cell_of_row w g 0 _ _ (0, 0) h
theorem Box.c1 (h : Box w g V) : w.cell? ⟨g, 1, none⟩ = some (.int .u64 (hi V)) := cell_of_row w g 1 _ _ (0, 0) h
theorem Box.z (h : Box w g V) (i : Nat) : w.frozen? ⟨g, i, none⟩ = false := by
  unfold Box at h
  simp [World.frozen?, h]
theorem Box.facts (h : Box w g V) : w.cell? ⟨g, 0, none⟩ = some (.int .u64 (lo V)) ∧ w.cell? ⟨g, 1, none⟩ = some (.int .u64 (hi V)) ∧ w.frozen? ⟨g, 0, none⟩ = false ∧ w.frozen? ⟨g, 1, none⟩ = false :=
  ⟨h.c0, h.c1, h.z 0, h.z 1⟩
theorem Box.new (w : World) (V : Nat) : Box (w.alloc (.cells #[.int .u64 (lo V), .int .u64 (hi V)] 33)) w.heap.size V := heap_alloc_new w _
theorem Box.drew (h : Box w g V) : Box w.drew g V := h
theorem Box.drewN (h : Box w g V) (n : Nat) : Box (w.drewN n) g V := h
theorem Box.alloc (h : Box w g V) (o : Obj) : Box (w.alloc o) g V := (Below.heap_alloc w o g h.lt).trans h
theorem Box.far (h : Box w g V) {p : Addr} (hp : g ≠ p.block) (u : Value) : Box (w.setCell p u) g V := (Below.heap_setCell w p u g hp).trans h
theorem Box.below {B : Nat} (h : Box w g V) (hb : Below B w w') (hg : g < B) : Box w' g V := (hb.block g hg).trans h
theorem Box.call (h : Box w g V) (hb : Below w.heap.size w w') : Box w' g V := h.below hb h.lt
theorem Box.set_ (h : Box w g V) (V' : Nat) : Box ((w.setCell ⟨g, 0, none⟩ (.int .u64 (lo V'))).setCell ⟨g, 1, none⟩ (.int .u64 (hi V'))) g V' := by
  unfold Box at h ⊢
  simp [World.setCell, Array.getElem?_modify, h]
theorem Box.set0 (h : Box w g V) (V' : Nat) (e : hi V = hi V') : Box (w.setCell ⟨g, 0, none⟩ (.int .u64 (lo V'))) g V' := by
  unfold Box at h ⊢
  simp [World.setCell, Array.getElem?_modify, h, e]
theorem Box.far2 (h : Box w g V) {g' : Nat} (hp : g ≠ g') (u u' : Value) : Box ((w.setCell ⟨g', 0, none⟩ u).setCell ⟨g', 1, none⟩ u') g V := (h.far (p := ⟨g', 0, none⟩) hp u).far (p := ⟨g', 1, none⟩) hp u'
theorem Box.at_ {g' : Nat} (h : Box w g V) (e : g = g') : Box w g' V := e ▸ h
theorem Box.congr {V' : Nat} (h : Box w g V) (e : V % two128 = V' % two128) : Box w g V' := by
  unfold Box at h ⊢
  rw [← (vv_congr e).1, ← (vv_congr e).2]; exact h
theorem Box.same {V' : Nat} (h : Box w g V) (e : V = V') : Box w g V' := e ▸ h
end

/-- After a store of a value at block g: what lies below B is as it was, if g is not. -/
theorem below_set {B g : Nat} {w w' : World} (h : Below B w w') (hg : B ≤ g) (u u' : Value) : Below B w ((w'.setCell ⟨g, 0, none⟩ u).setCell ⟨g, 1, none⟩ u') :=
  (h.setCell (p := ⟨g, 0, none⟩) hg u).setCell (p := ⟨g, 1, none⟩) hg u'
/-- A contract's world at a great enough block number. -/
theorem size_set (w : World) (p : Addr) (u : Value) : (w.setCell p u).heap.size = w.heap.size := by simp [World.setCell]
end Go.Proofs.YtlkcjjalkdlicaaDoor
end

section
/-
  What an operation on two values must give, as numbers; equality of two values as Go asks it. No function of the program is named here.
-/
namespace Go.Proofs.YtlkcjjalkdlicaaDoor
open Go.RowKit

/-- The result of an operation, and whether there is one. -/
def opRes (op : Int) (X Y : Nat) : Nat :=
  if op = 2 then (X + Y) % two128 else if op = 3 then (X + two128 - Y) % two128 else if op = 4 then X * Y % two128 else if op = 5 then X / Y else
  if op = 6 then X &&& Y else if op = 7 then X ||| Y else if op = 8 then X ^^^ Y else if op = 9 then bn (decide (X < Y)) else if op = 10 then bn (decide (X = Y)) else 0
def opOk (op : Int) (Y : Nat) : Bool := decide (2 ≤ op ∧ op ≤ 10 ∧ ¬ (op = 5 ∧ Y = 0))

theorem opRes_lt (op : Int) (X Y : Nat) (hX : X < two128) (hY : Y < two128) : opRes op X Y < two128 := by
  have h2 : (1 : Nat) < two128 := by decide
  have hb : ∀ b, bn b < two128 := fun b => by unfold bn; split <;> omega
  have hx := hX
  have hy := hY
  rw [two128_eq] at hx hy
  unfold opRes
  repeat' split
  all_goals first
    | exact Nat.mod_lt _ two128_pos
    | exact Nat.lt_of_le_of_lt (Nat.div_le_self _ _) hX
    | exact hb _
    | exact two128_pos
    | (rw [two128_eq]; exact Nat.and_lt_two_pow _ hy)
    | (rw [two128_eq]; exact Nat.or_lt_two_pow hx hy)
    | (rw [two128_eq]; exact Nat.xor_lt_two_pow hx hy)

theorem and_lo (X Y : Nat) : bits .and .u64 (lo X) (lo Y) = lo (X &&& Y) := by
  unfold lo
  rw [u64_and_nat _ _ (by omega) (by omega), show (18446744073709551616 : Nat) = 2 ^ 64 by decide, Nat.and_mod_two_pow]
theorem or_lo (X Y : Nat) : bits .or .u64 (lo X) (lo Y) = lo (X ||| Y) := by
  unfold lo
  rw [u64_or_nat _ _ (by omega) (by omega), show (18446744073709551616 : Nat) = 2 ^ 64 by decide, Nat.or_mod_two_pow]
theorem xor_lo (X Y : Nat) : bits .xor .u64 (lo X) (lo Y) = lo (X ^^^ Y) := by
  unfold lo
  rw [u64_xor_nat _ _ (by omega) (by omega), show (18446744073709551616 : Nat) = 2 ^ 64 by decide, Nat.xor_mod_two_pow]
theorem hi_lo (X : Nat) : hi X = lo (X >>> 64) := by
  unfold hi lo; rw [Nat.shiftRight_eq_div_pow]
theorem and_hi (X Y : Nat) : bits .and .u64 (hi X) (hi Y) = hi (X &&& Y) := by
  rw [hi_lo, hi_lo, hi_lo, and_lo, Nat.shiftRight_and_distrib]
theorem or_hi (X Y : Nat) : bits .or .u64 (hi X) (hi Y) = hi (X ||| Y) := by
  rw [hi_lo, hi_lo, hi_lo, or_lo, Nat.shiftRight_or_distrib]
theorem xor_hi (X Y : Nat) : bits .xor .u64 (hi X) (hi Y) = hi (X ^^^ Y) := by
  rw [hi_lo, hi_lo, hi_lo, xor_lo, Nat.shiftRight_xor_distrib]
end Go.Proofs.YtlkcjjalkdlicaaDoor
end

section
/-
  Plain mathematics of the reference for values: single bits, sums, products and quotients bit by bit. No function of the program is named here.
-/
namespace Go.Proofs.YtlkcjjalkdlicaaDoor

/-- Bit k of X. -/
def bt (X k : Nat) : Nat := X / 2 ^ k % 2
theorem bt_le (X k : Nat) : bt X k ≤ 1 := by unfold bt; omega
theorem pow_cast (k : Nat) : (2 : Int) ^ k = ((2 ^ k : Nat) : Int) := by simp
theorem pow_lt64 {k : Nat} (h : k < 64) : 2 ^ k < 18446744073709551616 := by
  rw [show (18446744073709551616 : Nat) = 2 ^ 64 by decide]; exact Nat.pow_lt_pow_right (by omega) h
theorem lo_div (X k : Nat) (hk : k < 64) : X % 18446744073709551616 / 2 ^ k % 2 = X / 2 ^ k % 2 := by
  obtain ⟨j, hj⟩ : ∃ j, 64 = k + (j + 1) := ⟨63 - k, by omega⟩
  rw [show (18446744073709551616 : Nat) = 2 ^ 64 by decide, hj, Nat.pow_add, Nat.mod_mul_right_div_self, Nat.pow_succ, Nat.mul_comm, Nat.mod_mul_right_mod]
theorem hi_div (X k : Nat) (hX : X < two128) (hk : 64 ≤ k) : X / 18446744073709551616 % 18446744073709551616 / 2 ^ (k - 64) = X / 2 ^ k := by
  have e : X / 18446744073709551616 % 18446744073709551616 = X / 2 ^ 64 := by
    rw [show (2 : Nat) ^ 64 = 18446744073709551616 by decide]
    unfold two128 at hX; omega
  rw [e, Nat.div_div_eq_div_mul, ← Nat.pow_add, show 64 + (k - 64) = k by omega]
theorem bit_lo (X k : Nat) (hk : k < 64) : bits .and .u64 (lo X / 2 ^ k) 1 = ((bt X k : Nat) : Int) := by
  unfold bt
  have h := lo_b X
  have hb : 0 ≤ lo X / 2 ^ k ∧ lo X / 2 ^ k ≤ 18446744073709551615 := by
    unfold lo
    rw [pow_cast, ← Int.natCast_ediv]
    have := Nat.div_le_self (X % 18446744073709551616) (2 ^ k)
    generalize X % 18446744073709551616 / 2 ^ k = q at *
    omega
  rw [and_bit_u64 _ hb.1 hb.2]
  unfold lo
  rw [pow_cast, ← Int.natCast_ediv, ← lo_div X k hk]
  omega
theorem bit_hi (X k : Nat) (hX : X < two128) (hk : 64 ≤ k) : bits .and .u64 (hi X / 2 ^ (k - 64)) 1 = ((bt X k : Nat) : Int) := by
  unfold bt
  have h := hi_b X
  have hb : 0 ≤ hi X / 2 ^ (k - 64) ∧ hi X / 2 ^ (k - 64) ≤ 18446744073709551615 := by
    unfold hi
    rw [pow_cast, ← Int.natCast_ediv]
    have := Nat.div_le_self (X / 18446744073709551616 % 18446744073709551616) (2 ^ (k - 64))
    generalize X / 18446744073709551616 % 18446744073709551616 / 2 ^ (k - 64) = q at *
    omega
  rw [and_bit_u64 _ hb.1 hb.2]
  unfold hi
  rw [pow_cast, ← Int.natCast_ediv, hi_div X k hX hk]
  omega

/-- A bit that is not set. -/
theorem or_pow (a k : Nat) (h : a / 2 ^ k % 2 = 0) : a ||| 2 ^ k = a + 2 ^ k := by
  obtain ⟨q, hq⟩ : ∃ q, a / 2 ^ k = 2 * q := ⟨a / 2 ^ k / 2, by omega⟩
  have ha : a = 2 ^ k * (2 * q) + a % 2 ^ k := by rw [← hq]; exact (Nat.div_add_mod a (2 ^ k)).symm
  have hr := Nat.mod_lt a (Nat.two_pow_pos k)
  have e1 := Nat.two_pow_add_eq_or_of_lt hr (2 * q)
  have e2 := Nat.two_pow_add_eq_or_of_lt hr (2 * q + 1)
  have e3 : 2 ^ k * (2 * q) ||| 2 ^ k = 2 ^ k * (2 * q + 1) := by
    rw [← or_bit (2 * q) 1 (by omega) (by omega)]
    have := Nat.shiftLeft_or_distrib (a := 2 * q) (b := 1) (i := k)
    simp only [Nat.shiftLeft_eq, Nat.one_mul] at this
    rw [Nat.mul_comm (2 ^ k), Nat.mul_comm (2 ^ k)]
    exact this.symm
  calc a ||| 2 ^ k = (2 ^ k * (2 * q) ||| a % 2 ^ k) ||| 2 ^ k := by rw [← e1, ← ha]
    _ = (2 ^ k * (2 * q) ||| 2 ^ k) ||| a % 2 ^ k := by rw [Nat.or_assoc, Nat.or_comm (a % 2 ^ k), ← Nat.or_assoc]
    _ = 2 ^ k * (2 * q + 1) + a % 2 ^ k := by rw [e3, ← e2]
    _ = a + 2 ^ k := by rw [Nat.mul_add, Nat.mul_one]; omega
theorem wrap_pow {k : Nat} (hk : k < 64) : IntKind.u64.wrap (2 ^ k) = ((2 ^ k : Nat) : Int) := by
  have := pow_lt64 hk
  rw [pow_cast, IntKind.wrap_u64]
  generalize 2 ^ k = p at *
  omega
theorem low_bit_room (a k : Nat) (hk : k < 64) (h : a / 2 ^ k % 2 = 0) (ha : a < 18446744073709551616) : a + 2 ^ k < 18446744073709551616 := by
  have e := or_pow a k h
  have := Nat.or_lt_two_pow (n := 64) (x := a) (y := 2 ^ k) (by rw [show (2 : Nat) ^ 64 = 18446744073709551616 by decide]; exact ha) (by rw [show (2 : Nat) ^ 64 = 18446744073709551616 by decide]; exact pow_lt64 hk)
  rw [show (2 : Nat) ^ 64 = 18446744073709551616 by decide] at this
  omega
theorem set_lo (X k : Nat) (hk : k < 64) (h : X / 2 ^ k % 2 = 0) : bits .or .u64 (lo X) (IntKind.u64.wrap (2 ^ k)) = lo (X + 2 ^ k) ∧ hi X = hi (X + 2 ^ k) := by
  have h1 : X % 18446744073709551616 / 2 ^ k % 2 = 0 := by rw [lo_div X k hk]; exact h
  have h2 := low_bit_room (X % 18446744073709551616) k hk h1 (by omega)
  have h3 := pow_lt64 hk
  rw [wrap_pow hk]
  unfold lo hi
  rw [u64_or_nat _ _ (by omega) h3, or_pow _ k h1]
  generalize 2 ^ k = p at *
  constructor <;> omega
theorem set_hi (X k : Nat) (hX : X < two128) (hk : 64 ≤ k) (hk2 : k < 128) (h : X / 2 ^ k % 2 = 0) : bits .or .u64 (hi X) (IntKind.u64.wrap (2 ^ (k - 64))) = hi (X + 2 ^ k) ∧ lo X = lo (X + 2 ^ k) := by
  have h1 : X / 18446744073709551616 % 18446744073709551616 / 2 ^ (k - 64) % 2 = 0 := by rw [hi_div X k hX hk]; exact h
  have h2 := low_bit_room (X / 18446744073709551616 % 18446744073709551616) (k - 64) (by omega) h1 (by omega)
  have h3 := pow_lt64 (show k - 64 < 64 by omega)
  have e : 2 ^ k = 18446744073709551616 * 2 ^ (k - 64) := by
    rw [show (18446744073709551616 : Nat) = 2 ^ 64 by decide, ← Nat.pow_add, show 64 + (k - 64) = k by omega]
  rw [wrap_pow (show k - 64 < 64 by omega), e]
  unfold lo hi
  rw [u64_or_nat _ _ (by omega) h3, or_pow _ _ h1]
  generalize 2 ^ (k - 64) = p at *
  constructor <;> omega
/-- The sum of the lowest k bits, and what is carried. -/
def addOut (X Y k : Nat) : Nat := (X % 2 ^ k + Y % 2 ^ k) % 2 ^ k
def addCar (X Y k : Nat) : Nat := (X % 2 ^ k + Y % 2 ^ k) / 2 ^ k
theorem addCar_le (X Y k : Nat) : addCar X Y k ≤ 1 := by
  have h1 := Nat.mod_lt X (Nat.two_pow_pos k)
  have h2 := Nat.mod_lt Y (Nat.two_pow_pos k)
  unfold addCar
  have := Nat.div_lt_of_lt_mul (show X % 2 ^ k + Y % 2 ^ k < 2 ^ k * 2 by omega)
  omega
theorem addOut_lt (X Y k : Nat) : addOut X Y k < 2 ^ k := Nat.mod_lt _ (Nat.two_pow_pos k)
theorem addOut_128 (X Y k : Nat) (hk : k < 128) : addOut X Y k < two128 := by
  have h := addOut_lt X Y k
  have h2 : 2 ^ k < 2 ^ 128 := Nat.pow_lt_pow_right (by omega) hk
  rw [two128_eq]; omega
theorem addOut_bit (X Y k : Nat) : bt (addOut X Y k) k = 0 := by
  unfold bt
  rw [Nat.div_eq_of_lt (addOut_lt X Y k)]
theorem add_step (X Y k : Nat) : addOut X Y (k + 1) = addOut X Y k + 2 ^ k * ((bt X k + bt Y k + addCar X Y k) % 2) ∧ addCar X Y (k + 1) = (bt X k + bt Y k + addCar X Y k) / 2 := by
  have hd := Nat.div_add_mod (X % 2 ^ k + Y % 2 ^ k) (2 ^ k)
  have hlt := addOut_lt X Y k
  have e : X % 2 ^ (k + 1) + Y % 2 ^ (k + 1) = (addOut X Y k + 2 ^ k * ((bt X k + bt Y k + addCar X Y k) % 2)) + 2 ^ (k + 1) * ((bt X k + bt Y k + addCar X Y k) / 2) := by
    have hs := Nat.div_add_mod (bt X k + bt Y k + addCar X Y k) 2
    rw [Nat.mod_pow_succ, Nat.mod_pow_succ, Nat.pow_succ, Nat.mul_assoc (2 ^ k) 2]
    have e2 : addOut X Y k + 2 ^ k * ((bt X k + bt Y k + addCar X Y k) % 2) + 2 ^ k * (2 * ((bt X k + bt Y k + addCar X Y k) / 2)) = addOut X Y k + 2 ^ k * (bt X k + bt Y k + addCar X Y k) := by
      rw [Nat.add_assoc, ← Nat.mul_add]; congr 2; omega
    rw [e2, Nat.mul_add, Nat.mul_add]
    unfold bt
    unfold addOut addCar at *
    omega
  have hb : addOut X Y k + 2 ^ k * ((bt X k + bt Y k + addCar X Y k) % 2) < 2 ^ (k + 1) := by
    rw [Nat.pow_succ]
    have : (bt X k + bt Y k + addCar X Y k) % 2 = 0 ∨ (bt X k + bt Y k + addCar X Y k) % 2 = 1 := by omega
    rcases this with h | h <;> rw [h] <;> omega
  have hh := div_uniq hb e.symm
  exact ⟨hh.2, hh.1⟩
theorem add_zero (X Y : Nat) : addOut X Y 0 = 0 ∧ addCar X Y 0 = 0 := by unfold addOut addCar; simp [Nat.mod_one]
theorem add_all (X Y : Nat) : addOut X Y 128 % two128 = (X + Y) % two128 := by
  unfold addOut
  rw [← two128_eq, Nat.mod_mod, ← Nat.add_mod]

/-- The product so far: the bits of Y from k on. -/
def mulOut (X Y k : Nat) : Nat := X * (Y / 2 ^ k) % two128
theorem mulOut_lt (X Y k : Nat) : mulOut X Y k < two128 := Nat.mod_lt _ two128_pos
theorem mul_step0 (X Y k : Nat) (h : bt Y k = 0) : 2 * mulOut X Y (k + 1) % two128 = mulOut X Y k % two128 := by
  unfold mulOut bt at *
  rw [Nat.mul_mod_mod, Nat.mod_mod, half_pow Y k, h, Nat.mul_left_comm]; rfl
theorem mul_step1 (X Y k : Nat) (h : bt Y k = 1) : (2 * mulOut X Y (k + 1) + X) % two128 = mulOut X Y k % two128 := by
  unfold mulOut bt at *
  rw [Nat.mod_mod, half_pow Y k, h, Nat.mul_add, Nat.mul_one, Nat.mul_left_comm, Nat.add_mod, Nat.mul_mod_mod, ← Nat.add_mod]
theorem mul_zero' (X Y : Nat) (hY : Y < two128) : mulOut X Y 128 = 0 := by
  unfold mulOut
  rw [Nat.div_eq_of_lt (by rw [← two128_eq]; exact hY)]; simp
theorem mul_all (X Y : Nat) : mulOut X Y 0 = X * Y % two128 := by unfold mulOut; simp

/-- The quotient so far, from bit k on, and the rest. -/
def divOut (X Y k : Nat) : Nat := 2 ^ k * (X / 2 ^ k / Y)
def divRest (X Y k : Nat) : Nat := X / 2 ^ k % Y
theorem divRest_lt (X Y k : Nat) (hY : 0 < Y) : divRest X Y k < Y := Nat.mod_lt _ hY
theorem div_zero' (X Y : Nat) (hX : X < two128) : divOut X Y 128 = 0 ∧ divRest X Y 128 = 0 := by
  have e : X / 2 ^ 128 = 0 := Nat.div_eq_of_lt (by rw [← two128_eq]; exact hX)
  unfold divOut divRest
  rw [e]; simp
theorem div_all (X Y : Nat) : divOut X Y 0 = X / Y := by unfold divOut; simp
theorem divOut_le (X Y k : Nat) : divOut X Y k ≤ X := by
  unfold divOut
  exact Nat.le_trans (Nat.mul_le_mul_left _ (Nat.div_le_self _ _)) (Nat.mul_div_le X (2 ^ k))
theorem divOut_bit (X Y k : Nat) : bt (divOut X Y (k + 1)) k = 0 := by
  unfold bt divOut
  rw [Nat.pow_succ, Nat.mul_assoc, Nat.mul_div_cancel_left _ (Nat.two_pow_pos k)]
  omega
/-- One step of the reference's division. -/
theorem rdiv_step (X Y k : Nat) (hY : 0 < Y) :
    (2 * divRest X Y (k + 1) + bt X k < Y → divOut X Y (k + 1) = divOut X Y k ∧ 2 * divRest X Y (k + 1) + bt X k = divRest X Y k) ∧
    (Y ≤ 2 * divRest X Y (k + 1) + bt X k → divOut X Y (k + 1) + 2 ^ k = divOut X Y k ∧ 2 * divRest X Y (k + 1) + bt X k - Y = divRest X Y k) := by
  have hh := half_pow X k
  constructor
  · intro h
    have h1 := div_less (X / 2 ^ (k + 1)) (bt X k) Y h
    unfold divOut divRest bt at *
    rw [← hh] at h1
    rw [h1.1, h1.2, Nat.pow_succ, Nat.mul_assoc]
    exact ⟨rfl, rfl⟩
  · intro h
    have h1 := div_more (X / 2 ^ (k + 1)) (bt X k) Y (bt_le X k) hY h
    unfold divOut divRest bt at *
    rw [← hh] at h1
    rw [h1.1, h1.2, Nat.pow_succ, Nat.mul_assoc, Nat.mul_add, Nat.mul_one]
    exact ⟨rfl, rfl⟩
/-- The highest bit. -/
theorem top_of (R : Nat) (hR : R < two128) : (R < 170141183460469231731687303715884105728 → (hi R / 9223372036854775808 == 1) = false) ∧ (170141183460469231731687303715884105728 ≤ R → (hi R / 9223372036854775808 == 1) = true) := by
  unfold two128 at hR
  constructor
  · intro h
    rw [beq_eq_false_iff_ne]
    unfold hi
    omega
  · intro h
    rw [beq_iff_eq]
    unfold hi
    omega
theorem or_even (R b : Nat) (hb : b ≤ 1) : bits .or .u64 (lo (2 * R)) (b : Int) = lo (2 * R + b) := by
  have h := lo_b (2 * R)
  rw [or_bit_u64 _ _ h.1 h.2 (by unfold lo; omega) (by omega) (by omega)]
  unfold lo; omega
theorem hi_even (R b : Nat) (hb : b ≤ 1) : hi (2 * R) = hi (2 * R + b) := by unfold hi; omega
theorem sub_over (N Y : Nat) (h : Y ≤ N) (hY : Y < two128) : (N % two128 + two128 - Y) % two128 % two128 = (N - Y) % two128 := by
  unfold two128 at *; omega
end Go.Proofs.YtlkcjjalkdlicaaDoor
end
