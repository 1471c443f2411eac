import Derived.Test.YtafegghdhdgioabGreatRows
import Derived.WalkKit
import Derived.ProofKit
import Derived.Deep.Draws
import Derived.Laws.BitsAllLaws
import Derived.Laws.CopyOwn
import Derived.Laws.AppendOwnNone
import Derived.Laws.Rows
import Derived.Deep.QuietTactic
import Derived.BigQuiet
set_option linter.unusedVariables false
set_option linter.unusedSimpArgs false
section
/-
  Words for memory that the walks of this seat use: 'Sees': a slice's address yields these cells, below a given block. No condition; nothing here names the program's functions.
-/
namespace Go.Proofs.YtafegghdhdgioabGreat
open Go.RowKit

/-- At the address A stand the cells xs, one place each, in a block below B. (An empty list asks nothing of A: nil is let in.) -/
def Sees (w : World) (B : Nat) (A : Option Addr) (xs : List Value) : Prop :=
  ∀ (k : Nat) (u : Value), xs[k]? = some u → ∃ b off, A = some ⟨b, off, none⟩ ∧ b < B ∧ w.cell? ⟨b, off + k, none⟩ = some u

section
variable {w w' : World} {B B' : Nat} {A : Option Addr} {xs ys : List Value}

theorem Sees.nil_ (w : World) (B : Nat) (A : Option Addr) : Sees w B A [] := fun k u h => by simp at h

theorem Sees.keep (h : Sees w B A xs) (hk : ∀ p : Addr, p.block < B → w'.cell? p = w.cell? p) : Sees w' B A xs := fun k u hu => by
  obtain ⟨b, off, e, hb, hc⟩ := h k u hu
  exact ⟨b, off, e, hb, (hk _ hb).trans hc⟩

theorem Sees.more (h : Sees w B A xs) (hB : B ≤ B') : Sees w B' A xs := fun k u hu => by
  obtain ⟨b, off, e, hb, hc⟩ := h k u hu
  exact ⟨b, off, e, by omega, hc⟩

theorem Sees.below (h : Sees w B A xs) (hb : Below B w w') : Sees w' B A xs := h.keep fun _ hp => hb.cell hp
theorem Sees.draws (h : Sees w B A xs) (n : Nat) : Sees (w.drewN n) B A xs := h
theorem Sees.draw (h : Sees w B A xs) : Sees w.drew B A xs := h
theorem Sees.undraws {n : Nat} (h : Sees (w.drewN n) B A xs) : Sees w B A xs := h
theorem Sees.alloc (h : Sees w B A xs) (hB : B ≤ w.heap.size) (o : Obj) : Sees (w.alloc o) B A xs := h.keep fun p hp => World.cell?_alloc_lt w o p (by omega)

/-- A list that begins as this one does. -/
theorem Sees.part (h : Sees w B A xs) (hp : ∀ (k : Nat) (u : Value), ys[k]? = some u → xs[k]? = some u) : Sees w B A ys := fun k u hu => h k u (hp k u hu)
theorem Sees.take (h : Sees w B A xs) (n : Nat) : Sees w B A (xs.take n) := h.part fun k u hu => by
  rw [List.getElem?_take] at hu
  split at hu <;> simp_all
theorem Sees.left (h : Sees w B A (xs ++ ys)) : Sees w B A xs := h.part fun k u hu => by
  have hk : k < xs.length := by
    rcases Nat.lt_or_ge k xs.length with h1 | h1
    · exact h1
    · rw [List.getElem?_eq_none h1] at hu; simp at hu
  rw [List.getElem?_append_left hk]; exact hu

/-- From place k on: 's[k:]' with a place left behind it. -/
theorem Sees.drop (h : Sees w B A xs) (k : Nat) : Sees w B (A.map (·.add k)) (xs.drop k) := fun j u hu => by
  rw [List.getElem?_drop] at hu
  obtain ⟨b, off, e, hb, hc⟩ := h _ u hu
  refine ⟨b, off + k, ?_, hb, ?_⟩
  · subst e
    simp only [Option.map_some, Addr.add]
    split <;> simp_all
  · rw [Nat.add_assoc]; exact hc

/-- A row of the call's own. -/
theorem Sees.own {base : Nat} {e : TypeId} {n c : Nat} (h : w.ownsRow base e 1 (.slice A n c) n xs) : Sees w w.heap.size A xs := fun k u hu => by
  have hl := h.1
  have hk : k < xs.length := by
    rcases Nat.lt_or_ge k xs.length with h1 | h1
    · exact h1
    · rw [List.getElem?_eq_none h1] at hu; simp at hu
  rcases h.2 with ⟨he, h0⟩ | ⟨g, cap, cur, he, hg, hh, _⟩
  · omega
  · have hA : A = some ⟨g, 0, none⟩ := by injection he
    subst hA
    have hlt : g < w.heap.size := by
      rcases Nat.lt_or_ge g w.heap.size with h1 | h1
      · exact h1
      · rw [Array.getElem?_eq_none h1] at hh; simp at hh
    refine ⟨g, 0, rfl, hlt, ?_⟩
    have := h.cells (g := g) rfl k u hu
    rw [Nat.zero_add]
    simpa [Addr.add] using (by
      have e2 : (⟨g, 0, none⟩ : Addr).add k = ⟨g, k, none⟩ := by
        unfold Addr.add
        split <;> simp_all
      rw [← e2]; exact this)
end

/-- Bytes as cells. -/
def cellsU8 (zs : List Int) : List Value := zs.map (Value.int .u8)

theorem get_u8 {zs : List Int} {k : Nat} (h : k < zs.length) : (cellsU8 zs)[k]? = some (.int .u8 (zs.getD k 0)) := by
  simp [cellsU8, List.getElem?_map, List.getElem?_eq_getElem h, List.getD_eq_getElem?_getD]

/-- The byte at place k, and where it stands. -/
theorem byte_at {w : World} {B : Nat} {A : Option Addr} {zs : List Int} {k : Nat} (h : Sees w B A (cellsU8 zs)) (hk : k < zs.length) (hz : ∀ z ∈ zs, 0 ≤ z ∧ z ≤ 255) :
    ∃ b off z, A = some ⟨b, off, none⟩ ∧ b < B ∧ w.cell? ⟨b, off + k, none⟩ = some (.int .u8 z) ∧ 0 ≤ z ∧ z ≤ 255 ∧ Hid (zs[k]? = some z) := by
  obtain ⟨b, off, e, hb, hc⟩ := h k (.int .u8 zs[k]) (by simp [cellsU8, List.getElem?_map, List.getElem?_eq_getElem hk])
  have hz' := hz zs[k] (List.getElem_mem hk)
  exact ⟨b, off, zs[k], e, hb, hc, hz'.1, hz'.2, List.getElem?_eq_getElem hk⟩
theorem take_more {zs : List Int} {k : Nat} {z : Int} (h : zs[k]? = some z) : zs.take (k + 1) = zs.take k ++ [z] := by
  rw [List.take_add_one, h]; rfl

/-- A fact kept from the walk. -/
theorem hide {p : Prop} (h : p) : Hid p := h

theorem ret_int {k : IntKind} {a b : Int} (h : a = b) : Ending.returned (.int k a) = .returned (.int k b) := by rw [h]
end Go.Proofs.YtafegghdhdgioabGreat
end

section
/-
  Plain mathematics of values of 128 bits as natural numbers: the two words, sums, differences, products, division bit by bit. No function of the program is named here.
-/
namespace Go.Proofs.YtafegghdhdgioabGreat

/-- 2^128, and 2^64, behind names. -/
def two128 : Nat := 340282366920938463463374607431768211456
def two64 : Nat := 18446744073709551616
theorem two128_eq : two128 = 2 ^ 128 := by decide
theorem two64_eq : two64 = 2 ^ 64 := by decide
theorem two_sq : two128 = two64 * two64 := by decide
theorem two64_pos : 0 < two64 := by decide
theorem two128_pos : 0 < two128 := by decide

/-- The low word and the high word of a number. -/
def lo (V : Nat) : Int := ((V % 18446744073709551616 : Nat) : Int)
def hi (V : Nat) : Int := ((V / 18446744073709551616 % 18446744073709551616 : Nat) : Int)
/-- The number of two words. -/
def num (l h : Int) : Nat := l.toNat + 18446744073709551616 * h.toNat

/-- 1 or 0. -/
def bn (b : Bool) : Nat := if b then 1 else 0
theorem lo_b (V : Nat) : 0 ≤ lo V ∧ lo V ≤ 18446744073709551615 := by unfold lo; omega
theorem hi_b (V : Nat) : 0 ≤ hi V ∧ hi V ≤ 18446744073709551615 := by unfold hi; omega
theorem num_lt {l h : Int} (l1 : l ≤ 18446744073709551615) (h1 : h ≤ 18446744073709551615) : num l h < two128 := by unfold num two128; omega
theorem lo_num {l h : Int} (l0 : 0 ≤ l) (l1 : l ≤ 18446744073709551615) (h0 : 0 ≤ h) (h1 : h ≤ 18446744073709551615) : lo (num l h) = l := by unfold num lo; omega
theorem hi_num {l h : Int} (l0 : 0 ≤ l) (l1 : l ≤ 18446744073709551615) (h0 : 0 ≤ h) (h1 : h ≤ 18446744073709551615) : hi (num l h) = h := by unfold num hi; omega
theorem num_lo_hi {V : Nat} (h : V < two128) : num (lo V) (hi V) = V := by unfold num lo hi; unfold two128 at h; omega
theorem val_eq {V : Nat} (h : V < two128) : (V : Int) = lo V + 18446744073709551616 * hi V := by unfold lo hi; unfold two128 at h; omega

/-- The words of a number, given as the number is: what each operation's answer must be. -/
theorem words {V : Nat} {l h : Int} (l0 : 0 ≤ l) (l1 : l ≤ 18446744073709551615) (e : (l + 18446744073709551616 * h) % 340282366920938463463374607431768211456 = (V : Int) % 340282366920938463463374607431768211456)
    (h0 : 0 ≤ h) (h1 : h ≤ 18446744073709551615) : l = lo V ∧ h = hi V := by
  unfold lo hi; omega

theorem lo_mod (V : Nat) : lo (V % two128) = lo V := by unfold lo two128; omega
theorem hi_mod (V : Nat) : hi (V % two128) = hi V := by unfold hi two128; omega

theorem eq_words {X Y : Nat} (hX : X < two128) (hY : Y < two128) : (lo X = lo Y ∧ hi X = hi Y) ↔ X = Y := by
  constructor
  · intro ⟨h1, h2⟩
    have := val_eq hX
    have := val_eq hY
    omega
  · rintro rfl; exact ⟨rfl, rfl⟩
theorem zero_words {X : Nat} (hX : X < two128) : (lo X = 0 ∧ hi X = 0) ↔ X = 0 := by
  have := eq_words hX (Y := 0) two128_pos
  rw [← this]
  exact ⟨fun ⟨a, b⟩ => ⟨by rw [a]; rfl, by rw [b]; rfl⟩, fun ⟨a, b⟩ => ⟨by rw [a]; rfl, by rw [b]; rfl⟩⟩
theorem lt_words {X Y : Nat} (hX : X < two128) (hY : Y < two128) : X < Y ↔ (hi X < hi Y ∨ (hi X = hi Y ∧ lo X < lo Y)) := by
  have := val_eq hX
  have := val_eq hY
  have := lo_b X
  have := lo_b Y
  constructor
  · intro h; omega
  · intro h; omega

theorem or_bit (x b : Nat) (hx : x % 2 = 0) (hb : b ≤ 1) : x ||| b = x + b := by
  apply Nat.eq_of_testBit_eq
  intro i
  rw [Nat.testBit_or]
  cases i with
  | zero => simp only [Nat.testBit_zero]; rw [hx, show (x + b) % 2 = b % 2 by omega]; simp
  | succ i => rw [Nat.testBit_succ, Nat.testBit_succ, Nat.testBit_succ, show b / 2 = 0 by omega, show (x + b) / 2 = x / 2 by omega]; simp
theorem or_bit_u64 (a b : Int) (a0 : 0 ≤ a) (a1 : a ≤ 18446744073709551615) (ha : a % 2 = 0) (b0 : 0 ≤ b) (b1 : b ≤ 1) : bits .or .u64 a b = a + b := by
  rw [u64_or a b a0 (by omega) b0 (by omega), or_bit _ _ (by omega) (by omega)]
  omega
theorem and_bit_u64 (a : Int) (a0 : 0 ≤ a) (a1 : a ≤ 18446744073709551615) : bits .and .u64 a 1 = a % 2 := by
  obtain ⟨n, rfl⟩ := Int.eq_ofNat_of_zero_le a0
  rw [show (1 : Int) = ((1 : Nat) : Int) from rfl, u64_and_nat n 1 (by omega) (by omega), Nat.and_one_is_mod]
  omega

theorem double_lo (X : Nat) (b : Int) (b0 : 0 ≤ b) (b1 : b ≤ 1) : bits .or .u64 (IntKind.u64.wrap (lo X * 2)) b = lo (2 * X + b.toNat) := by
  rw [IntKind.wrap_u64, or_bit_u64 _ _ (by omega) (by omega) (by omega) b0 b1]
  unfold lo; omega
theorem double_hi (X : Nat) (b : Int) (b0 : 0 ≤ b) (b1 : b ≤ 1) : bits .or .u64 (IntKind.u64.wrap (hi X * 2)) (lo X / 9223372036854775808) = hi (2 * X + b.toNat) := by
  have := lo_b X
  rw [IntKind.wrap_u64, or_bit_u64 _ _ (by omega) (by omega) (by omega) (by omega) (by omega)]
  unfold lo hi; omega
theorem twice_lo (X : Nat) : IntKind.u64.wrap (lo X * 2) = lo (2 * X) := by
  rw [IntKind.wrap_u64]
  unfold lo; omega
theorem twice_hi (X : Nat) : bits .or .u64 (IntKind.u64.wrap (hi X * 2)) (lo X / 9223372036854775808) = hi (2 * X) := by
  have := double_hi X 0 (by omega) (by omega)
  simpa using this

theorem sum_lo (X Y : Nat) : (lo X + lo Y) % 18446744073709551616 = lo (X + Y) := by unfold lo; omega
theorem sum_hi (X Y : Nat) : (hi X + hi Y + (lo X + lo Y) / 18446744073709551616) % 18446744073709551616 = hi (X + Y) := by unfold lo hi; omega
theorem diff_lo (X Y : Nat) (hY : Y < two128) : (lo X - lo Y) % 18446744073709551616 = lo (X + two128 - Y) := by unfold two128 at *; unfold lo; omega
/-- What is borrowed. -/
def brw (x y c : Int) : Int := if x < y + c then 1 else 0
theorem brw_b (x y c : Int) : 0 ≤ brw x y c ∧ brw x y c ≤ 1 := by unfold brw; split <;> omega
theorem diff_hi (X Y : Nat) (hY : Y < two128) : (hi X - hi Y - brw (lo X) (lo Y) 0) % 18446744073709551616 = hi (X + two128 - Y) := by unfold two128 at *; unfold brw lo hi; split <;> omega
theorem lo_mul (X Y : Nat) : lo X * lo Y = ((X % 18446744073709551616 * (Y % 18446744073709551616) : Nat) : Int) := by unfold lo; simp
theorem prod_lo (X Y : Nat) : lo X * lo Y % 18446744073709551616 = lo (X * Y) := by
  rw [lo_mul]
  unfold lo
  rw [Nat.mul_mod X Y]
  omega
theorem prod_nat (a b c d : Nat) : (a + 18446744073709551616 * b) * (c + 18446744073709551616 * d) / 18446744073709551616 % 18446744073709551616 = (a * c / 18446744073709551616 + a * d + b * c) % 18446744073709551616 := by
  have e : (a + 18446744073709551616 * b) * (c + 18446744073709551616 * d) = a * c + 18446744073709551616 * (a * d + b * c) + 340282366920938463463374607431768211456 * (b * d) := by
    rw [Nat.add_mul, Nat.mul_add, Nat.mul_add, Nat.mul_left_comm a, Nat.mul_assoc _ b c, Nat.mul_mul_mul_comm]
    omega
  rw [e]
  generalize a * c = p
  generalize a * d = q
  generalize b * c = r
  generalize b * d = t
  omega
theorem prod_hi (X Y : Nat) (hX : X < two128) (hY : Y < two128) :
    IntKind.u64.wrap (IntKind.u64.wrap (lo X * lo Y / 18446744073709551616 + IntKind.u64.wrap (lo X * hi Y)) + IntKind.u64.wrap (hi X * lo Y)) = hi (X * Y) := by
  have e : hi (X * Y) = ((X * Y / 18446744073709551616 % 18446744073709551616 : Nat) : Int) := rfl
  have eX : X = X % 18446744073709551616 + 18446744073709551616 * (X / 18446744073709551616 % 18446744073709551616) := by unfold two128 at hX; omega
  have eY : Y = Y % 18446744073709551616 + 18446744073709551616 * (Y / 18446744073709551616 % 18446744073709551616) := by unfold two128 at hY; omega
  rw [e, eX, eY, prod_nat, ← eX, ← eY]
  simp only [IntKind.wrap_u64]
  have e1 : lo X * hi Y = ((X % 18446744073709551616 * (Y / 18446744073709551616 % 18446744073709551616) : Nat) : Int) := by unfold lo hi; simp
  have e2 : hi X * lo Y = ((X / 18446744073709551616 % 18446744073709551616 * (Y % 18446744073709551616) : Nat) : Int) := by unfold lo hi; simp
  rw [e1, e2, lo_mul]
  generalize X % 18446744073709551616 * (Y % 18446744073709551616) = p
  generalize X % 18446744073709551616 * (Y / 18446744073709551616 % 18446744073709551616) = q
  generalize X / 18446744073709551616 % 18446744073709551616 * (Y % 18446744073709551616) = r
  omega
theorem div_uniq {a b d c : Nat} (hc : c < b) (h : c + b * d = a) : a / b = d ∧ a % b = c := (Nat.div_mod_unique (by omega)).2 ⟨h, hc⟩
/-- One step of the long division in base 2. -/
theorem div_less (A b Y : Nat) (h : 2 * (A % Y) + b < Y) : (2 * A + b) / Y = 2 * (A / Y) ∧ (2 * A + b) % Y = 2 * (A % Y) + b := by
  refine div_uniq h ?_
  have := Nat.div_add_mod A Y
  rw [Nat.mul_left_comm]
  omega
theorem div_more (A b Y : Nat) (hb : b ≤ 1) (hY : 0 < Y) (h : Y ≤ 2 * (A % Y) + b) : (2 * A + b) / Y = 2 * (A / Y) + 1 ∧ (2 * A + b) % Y = 2 * (A % Y) + b - Y := by
  have hr := Nat.mod_lt A hY
  refine div_uniq (by omega) ?_
  have := Nat.div_add_mod A Y
  rw [Nat.mul_add, Nat.mul_left_comm]
  omega

theorem vv_congr {V V' : Nat} (h : V % two128 = V' % two128) : lo V = lo V' ∧ hi V = hi V' := by
  rw [← lo_mod V, ← lo_mod V', ← hi_mod V, ← hi_mod V', h]; exact ⟨rfl, rfl⟩

theorem sub_mod128 (a b : Nat) (h : b ≤ a) : (a + two128 - b) % two128 = (a - b) % two128 := by
  rw [show a + two128 - b = a - b + two128 by unfold two128; omega, Nat.add_mod_right]
theorem half_pow (X j : Nat) : X / 2 ^ j = 2 * (X / 2 ^ (j + 1)) + X / 2 ^ j % 2 := by
  rw [Nat.pow_succ, ← Nat.div_div_eq_div_mul]; omega
/-- The bit that is taken at step k. -/
theorem top_bit (X k : Nat) (hk : k < 128) : (hi (X * 2 ^ k % two128) / 9223372036854775808).toNat = X / 2 ^ (127 - k) % 2 := by
  obtain ⟨j, hj⟩ : ∃ j, 127 - k = j := ⟨_, rfl⟩
  have e128 : two128 = 2 ^ k * 2 ^ (j + 1) := by rw [← Nat.pow_add, show k + (j + 1) = 128 by omega]; rfl
  have e1 : (hi (X * 2 ^ k % two128) / 9223372036854775808).toNat = X * 2 ^ k % two128 / 2 ^ 127 := by
    have hlt : X * 2 ^ k % two128 < two128 := Nat.mod_lt _ two128_pos
    generalize X * 2 ^ k % two128 = V at *
    rw [show (2 : Nat) ^ 127 = 170141183460469231731687303715884105728 by decide]
    unfold two128 at hlt
    unfold hi
    omega
  rw [e1, hj, e128, Nat.mul_comm X, Nat.mul_mod_mul_left, show (2 : Nat) ^ 127 = 2 ^ k * 2 ^ j by rw [← Nat.pow_add, show k + j = 127 by omega], Nat.mul_div_mul_left _ _ (Nat.two_pow_pos k), Nat.pow_succ, Nat.mod_mul_right_div_self]
theorem next_x (X k : Nat) : 2 * (X * 2 ^ k % two128) % two128 = X * 2 ^ (k + 1) % two128 := by
  rw [Nat.mul_mod_mod, Nat.pow_succ, Nat.mul_comm 2, Nat.mul_assoc]
theorem next_a (X k : Nat) (hk : k < 128) : X / 2 ^ (128 - (k + 1)) = 2 * (X / 2 ^ (128 - k)) + X / 2 ^ (127 - k) % 2 := by
  have := half_pow X (127 - k)
  rw [show 127 - k + 1 = 128 - k by omega] at this
  rw [show 128 - (k + 1) = 127 - k by omega]
  omega
theorem quot_zero (X Y : Nat) (hX : X < two128) : X / 2 ^ (128 - 0) / Y = 0 ∧ X / 2 ^ (128 - 0) % Y = 0 := by
  have e : X / 2 ^ (128 - 0) = 0 := Nat.div_eq_of_lt hX
  rw [e]; simp
/-- All of a step: what the program computes, and what it must be. -/
theorem quot_step (X Y k : Nat) (hX : X < two128) (hk : k < 128) (hY : 0 < Y) (xk qk rk : Nat) (hx : xk = X * 2 ^ k % two128) (hq : qk = X / 2 ^ (128 - k) / Y) (hr : rk = X / 2 ^ (128 - k) % Y) :
    2 * xk % two128 = X * 2 ^ (k + 1) % two128 ∧ 2 * rk + (hi xk / 9223372036854775808).toNat < two128 ∧
    (2 * rk + (hi xk / 9223372036854775808).toNat < Y → 2 * qk = X / 2 ^ (128 - (k + 1)) / Y ∧ 2 * rk + (hi xk / 9223372036854775808).toNat = X / 2 ^ (128 - (k + 1)) % Y) ∧
    (Y ≤ 2 * rk + (hi xk / 9223372036854775808).toNat → 2 * qk + 1 = X / 2 ^ (128 - (k + 1)) / Y ∧ 2 * rk + (hi xk / 9223372036854775808).toNat - Y = X / 2 ^ (128 - (k + 1)) % Y) := by
  subst hx
  rw [top_bit X k hk, next_a X k hk]
  refine ⟨next_x X k, ?_, ?_, ?_⟩
  · have h1 := next_a X k hk
    have h2 : X / 2 ^ (128 - (k + 1)) ≤ X := Nat.div_le_self _ _
    have h3 := Nat.mod_le (X / 2 ^ (128 - k)) Y
    omega
  · intro h
    have := div_less (X / 2 ^ (128 - k)) (X / 2 ^ (127 - k) % 2) Y (by omega)
    omega
  · intro h
    have := div_more (X / 2 ^ (128 - k)) (X / 2 ^ (127 - k) % 2) Y (by omega) hY (by omega)
    omega
end Go.Proofs.YtafegghdhdgioabGreat
end

section
/-
  Rows that the call itself made: kept over what is 'Below' them; an append whose source is told by 'Sees' (nil let in); a row made and filled by copy. No function of the program is named here.
-/
namespace Go.Proofs.YtafegghdhdgioabGreat
open Go.RowKit

section
variable {w w' : World} {base : Nat} {e : TypeId} {size n : Nat} {v : Value} {xs : List Value}

theorem own_below (h : w.ownsRow base e size v n xs) (hb : Below w.heap.size w w') : w'.ownsRow base e size v n xs := by
  refine ⟨h.1, ?_⟩
  rcases h.2 with h2 | ⟨g, cap, cur, hv, hg, hh, hr⟩
  · exact .inl h2
  · refine .inr ⟨g, cap, cur, hv, hg, ?_, hr⟩
    have hlt : g < w.heap.size := by
      rcases Nat.lt_or_ge g w.heap.size with h1 | h1
      · exact h1
      · rw [Array.getElem?_eq_none h1] at hh; simp at hh
    rw [hb.block g hlt]; exact hh
theorem own_draws (h : w.ownsRow base e size v n xs) (k : Nat) : (w.drewN k).ownsRow base e size v n xs := h
theorem below_draws {B : Nat} {a : World} (h : Below B a w) (k : Nat) : Below B a (w.drewN k) := ⟨h.os, h.tape, h.output, h.size, h.block⟩
/-- The form of an owned row's value. -/
theorem own_form (h : w.ownsRow base e size v n xs) : ∃ A c, v = .slice A n c ∧ (A = none → c = 0) ∧ n ≤ maxLen := by
  rcases h.2 with ⟨rfl, rfl⟩ | ⟨g, cap, cur, rfl, _, _, hc, hm, _⟩
  · exact ⟨none, 0, rfl, fun _ => rfl, by omega⟩
  · exact ⟨some ⟨g, 0, none⟩, cap, rfl, fun hn => by simp at hn, by omega⟩
theorem own_block (h : w.ownsRow base e size v n xs) (hn : 0 < n) : ∃ g c, v = .slice (some ⟨g, 0, none⟩) n c ∧ base ≤ g ∧ g < w.heap.size ∧ n ≤ c ∧ c ≤ maxLen := by
  rcases h.2 with ⟨rfl, rfl⟩ | ⟨g, cap, cur, rfl, hg, hh, hc, hm, _⟩
  · omega
  · refine ⟨g, cap, rfl, hg, ?_, hc, hm⟩
    rcases Nat.lt_or_ge g w.heap.size with h1 | h1
    · exact h1
    · rw [Array.getElem?_eq_none h1] at hh; simp at hh
theorem own_len (h : w.ownsRow base e 1 v n xs) : xs.length = n := by have := h.1; omega
/-- What the caller held is as it was: an append to a row of the call's own. -/
theorem below_append {B : Nat} {a : World} (hb : Below B a w) (h : w.ownsRow base e size v n xs) (hB : B ≤ base) (hg : w.grownBy w' v.ownBlock) (hs : B ≤ w.heap.size) : Below B a w' :=
  hb.grown hg hs fun k hk => by have := (h.lt k hk).1; omega

theorem below_step {w0 w w' : World} (h : Below w0.heap.size w0 w) (h' : Below w.heap.size w w') : Below w0.heap.size w0 w' := h.trans (h'.mono h.size)
theorem one_new (w : World) (x : Value) (t : TypeId) : ∀ (j : Nat) (u : Value), [x][j]? = some u → (w.alloc (.cells #[x] t)).cell? ((⟨w.heap.size, 0, none⟩ : Addr).add j) = some u := by
  intro j u hu
  cases j with
  | zero =>
    simp at hu
    subst hu
    rw [WideShapes.add_plain, World.cell?_alloc_at _ _ _ _ rfl]
    rfl
  | succ j => simp at hu

theorem Sees.src {B : Nat} {A : Option Addr} (h : Sees w B A xs) (hp : 0 < xs.length) : ∃ ad, A = some ad ∧ ∀ (j : Nat) (u : Value), xs[j]? = some u → w.cell? (ad.add j) = some u := by
  obtain ⟨b, off, rfl, _, _⟩ := h 0 xs[0] (List.getElem?_eq_getElem hp)
  refine ⟨_, rfl, fun j u hu => ?_⟩
  obtain ⟨b', off', he, _, hc⟩ := h j u hu
  injection he with he
  injection he with h1 h2
  subst h1 h2
  rw [WideShapes.add_plain]; exact hc
end

/-- append(v, x...), v nil or a row of the call's own, x any slice that 'Sees' tells. -/
theorem wpList_append_sees {P : Program} {w : World} {ops : Array Oper} {rest : List Oper} {o : Oper} {a : Act} {Q : Exit → Act → World → Prop} (hgd : o.guard = none) (s x : Operand) (t : TypeId)
    (ho : o.op = .call { callee := .builtin .append, args := #[s, x], argTypes := #[t, t] })
    (base : Nat) (e : TypeId) (i : TypeInfo) (z : Value) (bytes : Nat) (ht : P.underlying t = some (.slice e)) (hi : P.info? e = some i) (hz : i.zero = some z)
    (hsize : i.size = 1) (hby : i.bytes = bytes) (hzs : z.cells.size = 1)
    (v : Value) (n : Nat) (xs : List Value) (hs : a.eval s = v) (hown : w.ownsRow base e 1 v n xs)
    (B : Nat) (A : Option Addr) (m c : Nat) (news : List Value) (hx : a.eval x = .slice A m c) (hA : Hid (A = none → c = 0)) (hl : news.length = m) (hsee : Sees w B A news) (h1 : ∀ u ∈ news, u.oneCell' = true)
    (h63 : n + m ≤ maxLen) (hbytes : (n + m) * bytes ≤ 140737488355328) (hbase : base ≤ w.heap.size)
    (h : ∀ v' w', w'.ownsRow base e 1 v' (n + m) (xs ++ news) → w.grownBy w' v.ownBlock → wpList P ops Q rest (a.put o.dst v') w') : wpList P ops Q (o :: rest) a w := by
  rcases A with _ | ad
  · have hm : news = [] := by
      rcases news with _ | ⟨u, r⟩
      · rfl
      · obtain ⟨_, _, he, _⟩ := hsee 0 u rfl
        simp at he
    subst hm
    simp at hl
    subst hl
    obtain rfl := hA.out rfl
    exact wpList_append_own_none hgd s x t ho base e i 1 ht hi v n xs hs hown hx (h v w (by simpa using hown) (World.grownBy.refl w _))
  · refine wpList_append_own w hgd s x t ho base e i z 1 bytes ht hi hz hsize hby hzs (by decide) v n xs hs hown ad m c news hx (by omega) (fun j u hu => ?_) h1 h63 hbytes hbase (fun v' w' h2 h3 _ => h v' w' h2 h3)
    rcases Nat.lt_or_ge 0 news.length with hp | hp
    · obtain ⟨ad', he, hc⟩ := hsee.src hp
      injection he with he
      subst he
      exact hc j u hu
    · have : news = [] := List.eq_nil_of_length_eq_zero (by omega)
      subst this
      simp at hu

/-- A row made with room for more, and filled from its head on. -/
theorem own_filled {w : World} {base g n L : Nat} {e : TypeId} {z : Value} {cs : List Value} (hn : cs.length = n) (hg : w.heap[g]? = some (.cells (splice (List.replicate (n + L) z) 0 cs).toArray e (0, 0))) (hb : base ≤ g) (hm : n + L ≤ maxLen) :
    w.ownsRow base e 1 (.slice (some ⟨g, 0, none⟩) n (n + L)) n cs := by
  subst hn
  refine ⟨by simp, .inr ⟨g, cs.length + L, _, rfl, hb, hg, by omega, hm, ?_, ?_⟩⟩
  · simp [splice]
  · simp [splice]

theorem madeCells_list (z : Value) (k : Nat) : madeCells #[z] k = (List.replicate k z).toArray := by
  rw [← toList_madeCells_one z k]
end Go.Proofs.YtafegghdhdgioabGreat
end

section
/-
  Words for blocks that are known whole, for slices of pairs of ints, and for what a call leaves as it was. No function of the program is named here.
-/
namespace Go.Proofs.YtafegghdhdgioabGreat
open Go.RowKit

/-- Block g is just these cells, of element type t, not frozen. -/
def Row (w : World) (g t : Nat) (cs : List Value) : Prop := w.heap[g]? = some (.cells cs.toArray t (0, 0))

section
variable {w w' : World} {g t : Nat} {cs : List Value}
theorem Row.lt (h : Row w g t cs) : g < w.heap.size := by
  rcases Nat.lt_or_ge g w.heap.size with hlt | hge
  · exact hlt
  · unfold Row at h; rw [Array.getElem?_eq_none hge] at h; cases h
theorem Row.cell (h : Row w g t cs) {k : Nat} {v : Value} (hk : cs[k]? = some v) : w.cell? ⟨g, k, none⟩ = some v := by
  rw [cell_of_row w g k _ _ (0, 0) h]
  simpa using hk
theorem Row.free (h : Row w g t cs) (k : Nat) : w.frozen? ⟨g, k, none⟩ = false := by
  unfold Row at h
  simp [World.frozen?, h]
theorem Row.new (w : World) (t : Nat) (cs : List Value) : Row (w.alloc (.cells cs.toArray t)) w.heap.size t cs := heap_alloc_new w _
theorem Row.drew (h : Row w g t cs) : Row w.drew g t cs := h
theorem Row.drewN (h : Row w g t cs) (n : Nat) : Row (w.drewN n) g t cs := h
theorem Row.alloc (h : Row w g t cs) (o : Obj) : Row (w.alloc o) g t cs := (Below.heap_alloc w o g h.lt).trans h
theorem Row.call (h : Row w g t cs) (hb : Below w.heap.size w w') : Row w' g t cs := (hb.block g h.lt).trans h
theorem Row.below {B : Nat} (h : Row w g t cs) (hb : Below B w w') (hg : g < B) : Row w' g t cs := (hb.block g hg).trans h
theorem Row.far (h : Row w g t cs) {p : Addr} (hp : g ≠ p.block) (u : Value) : Row (w.setCell p u) g t cs := (Below.heap_setCell w p u g hp).trans h
theorem Row.grown (h : Row w g t cs) {row : Option Nat} (hg : w.grownBy w' row) (hne : some g ≠ row) : Row w' g t cs := (hg.block g h.lt hne).trans h
theorem Row.at_ {g' : Nat} (h : Row w g t cs) (e : g = g') : Row w g' t cs := e ▸ h
theorem Row.set_ (h : Row w g t cs) (k : Nat) (u : Value) : Row (w.setCell ⟨g, k, none⟩ u) g t (cs.set k u) := by
  unfold Row at h ⊢
  simp [World.setCell, Array.getElem?_modify, h]
theorem Row.ne_ {g' t' : Nat} {cs' : List Value} (h : Row w g t cs) (h' : Row w g' t' cs') (hne : t ≠ t') : g ≠ g' := by
  rintro rfl
  unfold Row at h h'
  rw [h] at h'
  injection h' with h'
  injection h' with _ ht
  exact hne ht
end

theorem keep_cellB {W w1 : World} {p : Addr} {v : Value} (hb : Below W.heap.size W w1) (h : W.cell? p = some v) : w1.cell? p = some v := (hb.cell (World.block_lt_of_cell? _ _ h)).trans h
theorem below_call {w w' w'' : World} (h : Below w.heap.size w w') (hc : Below w'.heap.size w' w'') : Below w.heap.size w w'' := h.trans (hc.mono h.size)
theorem below1 (w : World) (o : Obj) : Below w.heap.size w (w.alloc o) := (Below.refl _ _).alloc (Nat.le_refl _) _
theorem below2 (w : World) (o p : Obj) : Below w.heap.size w ((w.alloc o).alloc p) := (below1 w o).alloc (by simp) _
theorem below3 (w : World) (o p q : Obj) : Below w.heap.size w (((w.alloc o).alloc p).alloc q) := (below2 w o p).alloc (by simp; omega) _

/-- The worlds in which all that lay in W lies as it did: the class in which a region that only reads, and whose callees make memory of their own alone, is walked once. -/
structure After (W : World) where
  w : World
  b : Below W.heap.size W w
instance (W : World) : Nonempty (After W) := ⟨⟨W, Below.refl _ _⟩⟩
theorem wp_region_after {P : Program} {id : Nat} {Q : Exit → Act → World → Prop} {a : Act} {W : World} {l : List Oper} (hm : P.follows .mixedOrders = true) (hB : Region.lexB .any l.toArray = true)
    (h : wpQuiet P l.toArray (fun w' => ∃ p : After W, w' = p.w) (fun a' => ∀ w', (∃ p : After W, w' = p.w) → Q .normal a' w') l a) : (Code.region id l.toArray true).wp P Q a W :=
  wp_region_quiet (C := fun w' => ∃ p : After W, w' = p.w) hm hB ⟨⟨W.drew, (Below.refl _ _).drew⟩, rfl⟩ (by simpa using h)
theorem after_of {P : Program} {f : FuncId} {args : Array Value} {W : World} {p : After W} {v : Value} (h : Calls P f args p.w fun e w' => e = .returned v ∧ Below p.w.heap.size p.w w') : Calls P f args p.w fun e w'' => e = .returned v ∧ ∃ q : After W, w'' = q.w :=
  h.mono fun _ w' ⟨he, hb⟩ => ⟨he, ⟨w', below_call p.b hb⟩, rfl⟩
theorem after_same {P : Program} {f : FuncId} {args : Array Value} {W : World} {p : After W} {v : Value} (h : Calls P f args p.w fun e w' => e = .returned v ∧ p.w = w') : Calls P f args p.w fun e w'' => e = .returned v ∧ ∃ q : After W, w'' = q.w :=
  h.mono fun _ _ ⟨he, hb⟩ => ⟨he, p, hb.symm⟩
theorem after_cell {W : World} {a : Addr} {v : Value} (h : W.cell? a = some v) (p : After W) : p.w.cell? a = some v := keep_cellB p.b h

/-- A pair of ints by value: an interval, a slot. -/
abbrev pv (o s : Int) : Value := .agg #[.int .i64 o, .int .i64 s]
/-- The cells of a list of pairs. -/
def pcells (l : List (Int × Int)) : List Value := l.flatMap fun u => [.int .i64 u.1, .int .i64 u.2]
theorem pcells_length (l : List (Int × Int)) : (pcells l).length = l.length * 2 := by
  induction l with
  | nil => rfl
  | cons u r ih => simp only [pcells, List.flatMap_cons, List.length_append, List.length_cons, List.length_nil] at ih ⊢; omega
theorem pcells_append (l m : List (Int × Int)) : pcells (l ++ m) = pcells l ++ pcells m := by simp [pcells]
theorem pcells_one (o s : Int) : pcells [(o, s)] = [.int .i64 o, .int .i64 s] := rfl
theorem pcells_at (l : List (Int × Int)) (k : Nat) (u : Int × Int) (h : l[k]? = some u) : (pcells l)[k * 2]? = some (.int .i64 u.1) ∧ (pcells l)[k * 2 + 1]? = some (.int .i64 u.2) := by
  induction l generalizing k with
  | nil => simp at h
  | cons v r ih =>
    cases k with
    | zero => simp at h; subst h; exact ⟨rfl, rfl⟩
    | succ k =>
      have h' := ih k (by simpa using h)
      have e : pcells (v :: r) = .int .i64 v.1 :: .int .i64 v.2 :: pcells r := rfl
      rw [e, show (k + 1) * 2 = k * 2 + 1 + 1 by omega, show k * 2 + 1 + 1 + 1 = (k * 2 + 1) + 1 + 1 by omega]
      simpa using h'
theorem pcells_oneCell (l : List (Int × Int)) : ∀ v ∈ pcells l, v.oneCell' = true := by
  intro v hv
  simp only [pcells, List.mem_flatMap] at hv
  obtain ⟨u, _, hv⟩ := hv
  simp at hv
  rcases hv with rfl | rfl <;> rfl
/-- The pair at place k, and where it stands. -/
theorem pair_at {w : World} {B : Nat} {A : Option Addr} {l : List (Int × Int)} {k : Nat} (h : Sees w B A (pcells l)) (hk : k < l.length) :
    ∃ b off, A = some ⟨b, off, none⟩ ∧ b < B ∧ w.cell? ⟨b, off + k * 2, none⟩ = some (.int .i64 l[k].1) ∧ w.cell? ⟨b, off + k * 2 + 1, none⟩ = some (.int .i64 l[k].2) := by
  obtain ⟨h1, h2⟩ := pcells_at l k _ (List.getElem?_eq_getElem hk)
  obtain ⟨b, off, e, hb, hc⟩ := h _ _ h1
  obtain ⟨b', off', e', _, hc'⟩ := h _ _ h2
  have he := e.symm.trans e'
  injection he with he
  injection he with e1 e2
  subst e1 e2
  exact ⟨b, off, e, hb, hc, hc'⟩
/-- A row of the call's own, whatever its elements' size. -/
theorem Sees.ownN {w : World} {base size : Nat} {e : TypeId} {A : Option Addr} {n c : Nat} {xs : List Value} (h : w.ownsRow base e size (.slice A n c) n xs) : Sees w w.heap.size A xs := fun k u hu => by
  have hk : k < xs.length := by
    rcases Nat.lt_or_ge k xs.length with h1 | h1
    · exact h1
    · rw [List.getElem?_eq_none h1] at hu; simp at hu
  have hl := h.1
  rcases h.2 with ⟨he, h0⟩ | ⟨g, cap, cur, he, hg, hh, _⟩
  · subst h0; omega
  · have hA : A = some ⟨g, 0, none⟩ := by injection he
    subst hA
    have hlt : g < w.heap.size := by
      rcases Nat.lt_or_ge g w.heap.size with h1 | h1
      · exact h1
      · rw [Array.getElem?_eq_none h1] at hh; simp at hh
    refine ⟨g, 0, rfl, hlt, ?_⟩
    have := h.cells (g := g) rfl k u hu
    rwa [WideShapes.add_plain] at this
end Go.Proofs.YtafegghdhdgioabGreat
end

section
/-
  Words for the block that holds one value of 128 bits: 'Box w g V': block g holds just the two words of V. No function of the program is named here.
-/
namespace Go.Proofs.YtafegghdhdgioabGreat
open Go.RowKit

/-- A value of 128 bits as Go has it. -/
abbrev vv (V : Nat) : Value := .agg #[.int .u64 (lo V), .int .u64 (hi V)]

/-- Block g is just the two words of V, not frozen. -/
def Box (w : World) (g V : Nat) : Prop := w.heap[g]? = some (.cells #[.int .u64 (lo V), .int .u64 (hi V)] 38 (0, 0))

section
variable {w w' : World} {g V : Nat}
theorem Box.lt (h : Box w g V) : g < w.heap.size := by
  rcases Nat.lt_or_ge g w.heap.size with hlt | hge
  · exact hlt
  · unfold Box at h; rw [Array.getElem?_eq_none hge] at h; cases h
theorem Box.c0 (h : Box w g V) : w.cell? ⟨g, 0, none⟩ = some (.int .u64 (lo V)) := cell_of_row w g 0 _ _ (0, 0) h
theorem Box.c1 (h : Box w g V) : w.cell? ⟨g, 1, none⟩ = some (.int .u64 (hi V)) := cell_of_row w g 1 _ _ (0, 0) h
theorem Box.z (h : Box w g V) (i : Nat) : w.frozen? ⟨g, i, none⟩ = false := by
  unfold Box at h
  simp [World.frozen?, h]
theorem Box.facts (h : Box w g V) : w.cell? ⟨g, 0, none⟩ = some (.int .u64 (lo V)) ∧ w.cell? ⟨g, 1, none⟩ = some (.int .u64 (hi V)) ∧ w.frozen? ⟨g, 0, none⟩ = false ∧ w.frozen? ⟨g, 1, none⟩ = false :=
  ⟨h.c0, h.c1, h.z 0, h.z 1⟩
theorem Box.new (w : World) (V : Nat) : Box (w.alloc (.cells #[.int .u64 (lo V), .int .u64 (hi V)] 38)) w.heap.size V := heap_alloc_new w _
theorem Box.drew (h : Box w g V) : Box w.drew g V := h
theorem Box.drewN (h : Box w g V) (n : Nat) : Box (w.drewN n) g V := h
theorem Box.alloc (h : Box w g V) (o : Obj) : Box (w.alloc o) g V := (Below.heap_alloc w o g h.lt).trans h
theorem Box.far (h : Box w g V) {p : Addr} (hp : g ≠ p.block) (u : Value) : Box (w.setCell p u) g V := (Below.heap_setCell w p u g hp).trans h
theorem Box.below {B : Nat} (h : Box w g V) (hb : Below B w w') (hg : g < B) : Box w' g V := (hb.block g hg).trans h
theorem Box.call (h : Box w g V) (hb : Below w.heap.size w w') : Box w' g V := h.below hb h.lt
theorem Box.set_ (h : Box w g V) (V' : Nat) : Box ((w.setCell ⟨g, 0, none⟩ (.int .u64 (lo V'))).setCell ⟨g, 1, none⟩ (.int .u64 (hi V'))) g V' := by
  unfold Box at h ⊢
  simp [World.setCell, Array.getElem?_modify, h]
theorem Box.set0 (h : Box w g V) (V' : Nat) (e : hi V = hi V') : Box (w.setCell ⟨g, 0, none⟩ (.int .u64 (lo V'))) g V' := by
  unfold Box at h ⊢
  simp [World.setCell, Array.getElem?_modify, h, e]
theorem Box.far2 (h : Box w g V) {g' : Nat} (hp : g ≠ g') (u u' : Value) : Box ((w.setCell ⟨g', 0, none⟩ u).setCell ⟨g', 1, none⟩ u') g V := (h.far (p := ⟨g', 0, none⟩) hp u).far (p := ⟨g', 1, none⟩) hp u'
theorem Box.at_ {g' : Nat} (h : Box w g V) (e : g = g') : Box w g' V := e ▸ h
theorem Box.congr {V' : Nat} (h : Box w g V) (e : V % two128 = V' % two128) : Box w g V' := by
  unfold Box at h ⊢
  rw [← (vv_congr e).1, ← (vv_congr e).2]; exact h
theorem Box.same {V' : Nat} (h : Box w g V) (e : V = V') : Box w g V' := e ▸ h
end

/-- After a store of a value at block g: what lies below B is as it was, if g is not. -/
theorem below_set {B g : Nat} {w w' : World} (h : Below B w w') (hg : B ≤ g) (u u' : Value) : Below B w ((w'.setCell ⟨g, 0, none⟩ u).setCell ⟨g, 1, none⟩ u') :=
  (h.setCell (p := ⟨g, 0, none⟩) hg u).setCell (p := ⟨g, 1, none⟩) hg u'
/-- A contract's world at a great enough block number. -/
theorem size_set (w : World) (p : Addr) (u : Value) : (w.setCell p u).heap.size = w.heap.size := by simp [World.setCell]
end Go.Proofs.YtafegghdhdgioabGreat
end

section
/-
  What an operation on two values must give, as numbers; equality of two values as Go asks it. No function of the program is named here.
-/
namespace Go.Proofs.YtafegghdhdgioabGreat
open Go.RowKit

/-- The result of an operation, and whether there is one. -/
def opRes (op : Int) (X Y : Nat) : Nat :=
  if op = 2 then (X + Y) % two128 else if op = 3 then (X + two128 - Y) % two128 else if op = 4 then X * Y % two128 else if op = 5 then X / Y else
  if op = 6 then X &&& Y else if op = 7 then X ||| Y else if op = 8 then X ^^^ Y else if op = 9 then bn (decide (X < Y)) else if op = 10 then bn (decide (X = Y)) else 0
def opOk (op : Int) (Y : Nat) : Bool := decide (2 ≤ op ∧ op ≤ 10 ∧ ¬ (op = 5 ∧ Y = 0))

theorem opRes_lt (op : Int) (X Y : Nat) (hX : X < two128) (hY : Y < two128) : opRes op X Y < two128 := by
  have h2 : (1 : Nat) < two128 := by decide
  have hb : ∀ b, bn b < two128 := fun b => by unfold bn; split <;> omega
  have hx := hX
  have hy := hY
  rw [two128_eq] at hx hy
  unfold opRes
  repeat' split
  all_goals first
    | exact Nat.mod_lt _ two128_pos
    | exact Nat.lt_of_le_of_lt (Nat.div_le_self _ _) hX
    | exact hb _
    | exact two128_pos
    | (rw [two128_eq]; exact Nat.and_lt_two_pow _ hy)
    | (rw [two128_eq]; exact Nat.or_lt_two_pow hx hy)
    | (rw [two128_eq]; exact Nat.xor_lt_two_pow hx hy)

theorem and_lo (X Y : Nat) : bits .and .u64 (lo X) (lo Y) = lo (X &&& Y) := by
  unfold lo
  rw [u64_and_nat _ _ (by omega) (by omega), show (18446744073709551616 : Nat) = 2 ^ 64 by decide, Nat.and_mod_two_pow]
theorem or_lo (X Y : Nat) : bits .or .u64 (lo X) (lo Y) = lo (X ||| Y) := by
  unfold lo
  rw [u64_or_nat _ _ (by omega) (by omega), show (18446744073709551616 : Nat) = 2 ^ 64 by decide, Nat.or_mod_two_pow]
theorem xor_lo (X Y : Nat) : bits .xor .u64 (lo X) (lo Y) = lo (X ^^^ Y) := by
  unfold lo
  rw [u64_xor_nat _ _ (by omega) (by omega), show (18446744073709551616 : Nat) = 2 ^ 64 by decide, Nat.xor_mod_two_pow]
theorem hi_lo (X : Nat) : hi X = lo (X >>> 64) := by
  unfold hi lo; rw [Nat.shiftRight_eq_div_pow]
theorem and_hi (X Y : Nat) : bits .and .u64 (hi X) (hi Y) = hi (X &&& Y) := by
  rw [hi_lo, hi_lo, hi_lo, and_lo, Nat.shiftRight_and_distrib]
theorem or_hi (X Y : Nat) : bits .or .u64 (hi X) (hi Y) = hi (X ||| Y) := by
  rw [hi_lo, hi_lo, hi_lo, or_lo, Nat.shiftRight_or_distrib]
theorem xor_hi (X Y : Nat) : bits .xor .u64 (hi X) (hi Y) = hi (X ^^^ Y) := by
  rw [hi_lo, hi_lo, hi_lo, xor_lo, Nat.shiftRight_xor_distrib]
end Go.Proofs.YtafegghdhdgioabGreat
end
