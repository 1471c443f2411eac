import Derived.Test.YtipjeihfhnilcaaMVmath
import Derived.Test.YtipjeihfhnilcaaRows
import Derived.WalkKit
import Derived.ProofKit
import Derived.Deep.Draws
set_option linter.unusedVariables false
set_option linter.unusedSimpArgs false
section
/-
  Plain mathematics of the reference for values: single bits, sums, products and quotients bit by bit. No function of the program is named here.
-/
namespace Go.Proofs.Ytipjeihfhnilcaa

/-- Bit k of X. -/
def bt (X k : Nat) : Nat := X / 2 ^ k % 2
theorem bt_le (X k : Nat) : bt X k ≤ 1 := by unfold bt; omega
theorem pow_cast (k : Nat) : (2 : Int) ^ k = ((2 ^ k : Nat) : Int) := by simp
theorem pow_lt64 {k : Nat} (h : k < 64) : 2 ^ k < 18446744073709551616 := by
  rw [show (18446744073709551616 : Nat) = 2 ^ 64 by decide]; exact Nat.pow_lt_pow_right (by omega) h
theorem lo_div (X k : Nat) (hk : k < 64) : X % 18446744073709551616 / 2 ^ k % 2 = X / 2 ^ k % 2 := by
  obtain ⟨j, hj⟩ : ∃ j, 64 = k + (j + 1) := ⟨63 - k, by omega⟩
  rw [show (18446744073709551616 : Nat) = 2 ^ 64 by decide, hj, Nat.pow_add, Nat.mod_mul_right_div_self, Nat.pow_succ, Nat.mul_comm, Nat.mod_mul_right_mod]
theorem hi_div (X k : Nat) (hX : X < two128) (hk : 64 ≤ k) : X / 18446744073709551616 % 18446744073709551616 / 2 ^ (k - 64) = X / 2 ^ k := by
  have e : X / 18446744073709551616 % 18446744073709551616 = X / 2 ^ 64 := by
    rw [show (2 : Nat) ^ 64 = 18446744073709551616 by decide]
    unfold two128 at hX; omega
  rw [e, Nat.div_div_eq_div_mul, ← Nat.pow_add, show 64 + (k - 64) = k by omega]
theorem bit_lo (X k : Nat) (hk : k < 64) : bits .and .u64 (lo X / 2 ^ k) 1 = ((bt X k : Nat) : Int) := by
  unfold bt
  have h := lo_b X
  have hb : 0 ≤ lo X / 2 ^ k ∧ lo X / 2 ^ k ≤ 18446744073709551615 := by
    unfold lo
    rw [pow_cast, ← Int.natCast_ediv]
    have := Nat.div_le_self (X % 18446744073709551616) (2 ^ k)
    generalize X % 18446744073709551616 / 2 ^ k = q at *
    omega
  rw [and_bit_u64 _ hb.1 hb.2]
  unfold lo
  rw [pow_cast, ← Int.natCast_ediv, ← lo_div X k hk]
  omega
theorem bit_hi (X k : Nat) (hX : X < two128) (hk : 64 ≤ k) : bits .and .u64 (hi X / 2 ^ (k - 64)) 1 = ((bt X k : Nat) : Int) := by
  unfold bt
  have h := hi_b X
  have hb : 0 ≤ hi X / 2 ^ (k - 64) ∧ hi X / 2 ^ (k - 64) ≤ 18446744073709551615 := by
    unfold hi
    rw [pow_cast, ← Int.natCast_ediv]
    have := Nat.div_le_self (X / 18446744073709551616 % 18446744073709551616) (2 ^ (k - 64))
    generalize X / 18446744073709551616 % 18446744073709551616 / 2 ^ (k - 64) = q at *
    omega
  rw [and_bit_u64 _ hb.1 hb.2]
  unfold hi
  rw [pow_cast, ← Int.natCast_ediv, hi_div X k hX hk]
  omega

/-- A bit that is not set. -/
theorem or_pow (a k : Nat) (h : a / 2 ^ k % 2 = 0) : a ||| 2 ^ k = a + 2 ^ k := by
  obtain ⟨q, hq⟩ : ∃ q, a / 2 ^ k = 2 * q := ⟨a / 2 ^ k / 2, by omega⟩
  have ha : a = 2 ^ k * (2 * q) + a % 2 ^ k := by rw [← hq]; exact (Nat.div_add_mod a (2 ^ k)).symm
  have hr := Nat.mod_lt a (Nat.two_pow_pos k)
  have e1 := Nat.two_pow_add_eq_or_of_lt hr (2 * q)
  have e2 := Nat.two_pow_add_eq_or_of_lt hr (2 * q + 1)
  have e3 : 2 ^ k * (2 * q) ||| 2 ^ k = 2 ^ k * (2 * q + 1) := by
    rw [← or_bit (2 * q) 1 (by omega) (by omega)]
    have := Nat.shiftLeft_or_distrib (a := 2 * q) (b := 1) (i := k)
    simp only [Nat.shiftLeft_eq, Nat.one_mul] at this
    rw [Nat.mul_comm (2 ^ k), Nat.mul_comm (2 ^ k)]
    exact this.symm
  calc a ||| 2 ^ k = (2 ^ k * (2 * q) ||| a % 2 ^ k) ||| 2 ^ k := by rw [← e1, ← ha]
    _ = (2 ^ k * (2 * q) ||| 2 ^ k) ||| a % 2 ^ k := by rw [Nat.or_assoc, Nat.or_comm (a % 2 ^ k), ← Nat.or_assoc]
    _ = 2 ^ k * (2 * q + 1) + a % 2 ^ k := by rw [e3, ← e2]
    _ = a + 2 ^ k := by rw [Nat.mul_add, Nat.mul_one]; omega
theorem wrap_pow {k : Nat} (hk : k < 64) : IntKind.u64.wrap (2 ^ k) = ((2 ^ k : Nat) : Int) := by
  have := pow_lt64 hk
  rw [pow_cast, IntKind.wrap_u64]
  generalize 2 ^ k = p at *
  omega
theorem low_bit_room (a k : Nat) (hk : k < 64) (h : a / 2 ^ k % 2 = 0) (ha : a < 18446744073709551616) : a + 2 ^ k < 18446744073709551616 := by
  have e := or_pow a k h
  have := Nat.or_lt_two_pow (n := 64) (x := a) (y := 2 ^ k) (by rw [show (2 : Nat) ^ 64 = 18446744073709551616 by decide]; exact ha) (by rw [show (2 : Nat) ^ 64 = 18446744073709551616 by decide]; exact pow_lt64 hk)
  rw [show (2 : Nat) ^ 64 = 18446744073709551616 by decide] at this
  omega
theorem set_lo (X k : Nat) (hk : k < 64) (h : X / 2 ^ k % 2 = 0) : bits .or .u64 (lo X) (IntKind.u64.wrap (2 ^ k)) = lo (X + 2 ^ k) ∧ hi X = hi (X + 2 ^ k) := by
  have h1 : X % 18446744073709551616 / 2 ^ k % 2 = 0 := by rw [lo_div X k hk]; exact h
  have h2 := low_bit_room (X % 18446744073709551616) k hk h1 (by omega)
  have h3 := pow_lt64 hk
  rw [wrap_pow hk]
  unfold lo hi
  rw [u64_or_nat _ _ (by omega) h3, or_pow _ k h1]
  generalize 2 ^ k = p at *
  constructor <;> omega
theorem set_hi (X k : Nat) (hX : X < two128) (hk : 64 ≤ k) (hk2 : k < 128) (h : X / 2 ^ k % 2 = 0) : bits .or .u64 (hi X) (IntKind.u64.wrap (2 ^ (k - 64))) = hi (X + 2 ^ k) ∧ lo X = lo (X + 2 ^ k) := by
  have h1 : X / 18446744073709551616 % 18446744073709551616 / 2 ^ (k - 64) % 2 = 0 := by rw [hi_div X k hX hk]; exact h
  have h2 := low_bit_room (X / 18446744073709551616 % 18446744073709551616) (k - 64) (by omega) h1 (by omega)
  have h3 := pow_lt64 (show k - 64 < 64 by omega)
  have e : 2 ^ k = 18446744073709551616 * 2 ^ (k - 64) := by
    rw [show (18446744073709551616 : Nat) = 2 ^ 64 by decide, ← Nat.pow_add, show 64 + (k - 64) = k by omega]
  rw [wrap_pow (show k - 64 < 64 by omega), e]
  unfold lo hi
  rw [u64_or_nat _ _ (by omega) h3, or_pow _ _ h1]
  generalize 2 ^ (k - 64) = p at *
  constructor <;> omega
/-- The sum of the lowest k bits, and what is carried. -/
def addOut (X Y k : Nat) : Nat := (X % 2 ^ k + Y % 2 ^ k) % 2 ^ k
def addCar (X Y k : Nat) : Nat := (X % 2 ^ k + Y % 2 ^ k) / 2 ^ k
theorem addCar_le (X Y k : Nat) : addCar X Y k ≤ 1 := by
  have h1 := Nat.mod_lt X (Nat.two_pow_pos k)
  have h2 := Nat.mod_lt Y (Nat.two_pow_pos k)
  unfold addCar
  have := Nat.div_lt_of_lt_mul (show X % 2 ^ k + Y % 2 ^ k < 2 ^ k * 2 by omega)
  omega
theorem addOut_lt (X Y k : Nat) : addOut X Y k < 2 ^ k := Nat.mod_lt _ (Nat.two_pow_pos k)
theorem addOut_128 (X Y k : Nat) (hk : k < 128) : addOut X Y k < two128 := by
  have h := addOut_lt X Y k
  have h2 : 2 ^ k < 2 ^ 128 := Nat.pow_lt_pow_right (by omega) hk
  rw [two128_eq]; omega
theorem addOut_bit (X Y k : Nat) : bt (addOut X Y k) k = 0 := by
  unfold bt
  rw [Nat.div_eq_of_lt (addOut_lt X Y k)]
theorem add_step (X Y k : Nat) : addOut X Y (k + 1) = addOut X Y k + 2 ^ k * ((bt X k + bt Y k + addCar X Y k) % 2) ∧ addCar X Y (k + 1) = (bt X k + bt Y k + addCar X Y k) / 2 := by
  have hd := Nat.div_add_mod (X % 2 ^ k + Y % 2 ^ k) (2 ^ k)
  have hlt := addOut_lt X Y k
  have e : X % 2 ^ (k + 1) + Y % 2 ^ (k + 1) = (addOut X Y k + 2 ^ k * ((bt X k + bt Y k + addCar X Y k) % 2)) + 2 ^ (k + 1) * ((bt X k + bt Y k + addCar X Y k) / 2) := by
    have hs := Nat.div_add_mod (bt X k + bt Y k + addCar X Y k) 2
    rw [Nat.mod_pow_succ, Nat.mod_pow_succ, Nat.pow_succ, Nat.mul_assoc (2 ^ k) 2]
    have e2 : addOut X Y k + 2 ^ k * ((bt X k + bt Y k + addCar X Y k) % 2) + 2 ^ k * (2 * ((bt X k + bt Y k + addCar X Y k) / 2)) = addOut X Y k + 2 ^ k * (bt X k + bt Y k + addCar X Y k) := by
      rw [Nat.add_assoc, ← Nat.mul_add]; congr 2; omega
    rw [e2, Nat.mul_add, Nat.mul_add]
    unfold bt
    unfold addOut addCar at *
    omega
  have hb : addOut X Y k + 2 ^ k * ((bt X k + bt Y k + addCar X Y k) % 2) < 2 ^ (k + 1) := by
    rw [Nat.pow_succ]
    have : (bt X k + bt Y k + addCar X Y k) % 2 = 0 ∨ (bt X k + bt Y k + addCar X Y k) % 2 = 1 := by omega
    rcases this with h | h <;> rw [h] <;> omega
  have hh := div_uniq hb e.symm
  exact ⟨hh.2, hh.1⟩
theorem add_zero (X Y : Nat) : addOut X Y 0 = 0 ∧ addCar X Y 0 = 0 := by unfold addOut addCar; simp [Nat.mod_one]
theorem add_all (X Y : Nat) : addOut X Y 128 % two128 = (X + Y) % two128 := by
  unfold addOut
  rw [← two128_eq, Nat.mod_mod, ← Nat.add_mod]

/-- The product so far: the bits of Y from k on. -/
def mulOut (X Y k : Nat) : Nat := X * (Y / 2 ^ k) % two128
theorem mulOut_lt (X Y k : Nat) : mulOut X Y k < two128 := Nat.mod_lt _ two128_pos
theorem mul_step0 (X Y k : Nat) (h : bt Y k = 0) : 2 * mulOut X Y (k + 1) % two128 = mulOut X Y k % two128 := by
  unfold mulOut bt at *
  rw [Nat.mul_mod_mod, Nat.mod_mod, half_pow Y k, h, Nat.mul_left_comm]; rfl
theorem mul_step1 (X Y k : Nat) (h : bt Y k = 1) : (2 * mulOut X Y (k + 1) + X) % two128 = mulOut X Y k % two128 := by
  unfold mulOut bt at *
  rw [Nat.mod_mod, half_pow Y k, h, Nat.mul_add, Nat.mul_one, Nat.mul_left_comm, Nat.add_mod, Nat.mul_mod_mod, ← Nat.add_mod]
theorem mul_zero' (X Y : Nat) (hY : Y < two128) : mulOut X Y 128 = 0 := by
  unfold mulOut
  rw [Nat.div_eq_of_lt (by rw [← two128_eq]; exact hY)]; simp
theorem mul_all (X Y : Nat) : mulOut X Y 0 = X * Y % two128 := by unfold mulOut; simp

/-- The quotient so far, from bit k on, and the rest. -/
def divOut (X Y k : Nat) : Nat := 2 ^ k * (X / 2 ^ k / Y)
def divRest (X Y k : Nat) : Nat := X / 2 ^ k % Y
theorem divRest_lt (X Y k : Nat) (hY : 0 < Y) : divRest X Y k < Y := Nat.mod_lt _ hY
theorem div_zero' (X Y : Nat) (hX : X < two128) : divOut X Y 128 = 0 ∧ divRest X Y 128 = 0 := by
  have e : X / 2 ^ 128 = 0 := Nat.div_eq_of_lt (by rw [← two128_eq]; exact hX)
  unfold divOut divRest
  rw [e]; simp
theorem div_all (X Y : Nat) : divOut X Y 0 = X / Y := by unfold divOut; simp
theorem divOut_le (X Y k : Nat) : divOut X Y k ≤ X := by
  unfold divOut
  exact Nat.le_trans (Nat.mul_le_mul_left _ (Nat.div_le_self _ _)) (Nat.mul_div_le X (2 ^ k))
theorem divOut_bit (X Y k : Nat) : bt (divOut X Y (k + 1)) k = 0 := by
  unfold bt divOut
  rw [Nat.pow_succ, Nat.mul_assoc, Nat.mul_div_cancel_left _ (Nat.two_pow_pos k)]
  omega
/-- One step of the reference's division. -/
theorem rdiv_step (X Y k : Nat) (hY : 0 < Y) :
    (2 * divRest X Y (k + 1) + bt X k < Y → divOut X Y (k + 1) = divOut X Y k ∧ 2 * divRest X Y (k + 1) + bt X k = divRest X Y k) ∧
    (Y ≤ 2 * divRest X Y (k + 1) + bt X k → divOut X Y (k + 1) + 2 ^ k = divOut X Y k ∧ 2 * divRest X Y (k + 1) + bt X k - Y = divRest X Y k) := by
  have hh := half_pow X k
  constructor
  · intro h
    have h1 := div_less (X / 2 ^ (k + 1)) (bt X k) Y h
    unfold divOut divRest bt at *
    rw [← hh] at h1
    rw [h1.1, h1.2, Nat.pow_succ, Nat.mul_assoc]
    exact ⟨rfl, rfl⟩
  · intro h
    have h1 := div_more (X / 2 ^ (k + 1)) (bt X k) Y (bt_le X k) hY h
    unfold divOut divRest bt at *
    rw [← hh] at h1
    rw [h1.1, h1.2, Nat.pow_succ, Nat.mul_assoc, Nat.mul_add, Nat.mul_one]
    exact ⟨rfl, rfl⟩
/-- The highest bit. -/
theorem top_of (R : Nat) (hR : R < two128) : (R < 170141183460469231731687303715884105728 → (hi R / 9223372036854775808 == 1) = false) ∧ (170141183460469231731687303715884105728 ≤ R → (hi R / 9223372036854775808 == 1) = true) := by
  unfold two128 at hR
  constructor
  · intro h
    rw [beq_eq_false_iff_ne]
    unfold hi
    omega
  · intro h
    rw [beq_iff_eq]
    unfold hi
    omega
theorem or_even (R b : Nat) (hb : b ≤ 1) : bits .or .u64 (lo (2 * R)) (b : Int) = lo (2 * R + b) := by
  have h := lo_b (2 * R)
  rw [or_bit_u64 _ _ h.1 h.2 (by unfold lo; omega) (by omega) (by omega)]
  unfold lo; omega
theorem hi_even (R b : Nat) (hb : b ≤ 1) : hi (2 * R) = hi (2 * R + b) := by unfold hi; omega
theorem sub_over (N Y : Nat) (h : Y ≤ N) (hY : Y < two128) : (N % two128 + two128 - Y) % two128 % two128 = (N - Y) % two128 := by
  unfold two128 at *; omega
end Go.Proofs.Ytipjeihfhnilcaa
end

section
/-
  Words for memory that the walks of this seat use: 'Sees': a slice's address yields these cells, below a given block. No condition; nothing here names the program's functions.
-/
namespace Go.Proofs.Ytipjeihfhnilcaa
open Go.RowKit

/-- At the address A stand the cells xs, one place each, in a block below B. (An empty list asks nothing of A: nil is let in.) -/
def Sees (w : World) (B : Nat) (A : Option Addr) (xs : List Value) : Prop :=
  ∀ (k : Nat) (u : Value), xs[k]? = some u → ∃ b off, A = some ⟨b, off, none⟩ ∧ b < B ∧ w.cell? ⟨b, off + k, none⟩ = some u

section
variable {w w' : World} {B B' : Nat} {A : Option Addr} {xs ys : List Value}

theorem Sees.nil_ (w : World) (B : Nat) (A : Option Addr) : Sees w B A [] := fun k u h => by simp at h

theorem Sees.keep (h : Sees w B A xs) (hk : ∀ p : Addr, p.block < B → w'.cell? p = w.cell? p) : Sees w' B A xs := fun k u hu => by
  obtain ⟨b, off, e, hb, hc⟩ := h k u hu
  exact ⟨b, off, e, hb, (hk _ hb).trans hc⟩

theorem Sees.more (h : Sees w B A xs) (hB : B ≤ B') : Sees w B' A xs := fun k u hu => by
  obtain ⟨b, off, e, hb, hc⟩ := h k u hu
  exact ⟨b, off, e, by omega, hc⟩

theorem Sees.below (h : Sees w B A xs) (hb : Below B w w') : Sees w' B A xs := h.keep fun _ hp => hb.cell hp
theorem Sees.draws (h : Sees w B A xs) (n : Nat) : Sees (w.drewN n) B A xs := h
theorem Sees.draw (h : Sees w B A xs) : Sees w.drew B A xs := h
theorem Sees.undraws {n : Nat} (h : Sees (w.drewN n) B A xs) : Sees w B A xs := h
theorem Sees.alloc (h : Sees w B A xs) (hB : B ≤ w.heap.size) (o : Obj) : Sees (w.alloc o) B A xs := h.keep fun p hp => World.cell?_alloc_lt w o p (by omega)

/-- A list that begins as this one does. -/
theorem Sees.part (h : Sees w B A xs) (hp : ∀ (k : Nat) (u : Value), ys[k]? = some u → xs[k]? = some u) : Sees w B A ys := fun k u hu => h k u (hp k u hu)
theorem Sees.take (h : Sees w B A xs) (n : Nat) : Sees w B A (xs.take n) := h.part fun k u hu => by
  rw [List.getElem?_take] at hu
  split at hu <;> simp_all
theorem Sees.left (h : Sees w B A (xs ++ ys)) : Sees w B A xs := h.part fun k u hu => by
  have hk : k < xs.length := by
    rcases Nat.lt_or_ge k xs.length with h1 | h1
    · exact h1
    · rw [List.getElem?_eq_none h1] at hu; simp at hu
  rw [List.getElem?_append_left hk]; exact hu

/-- From place k on: 's[k:]' with a place left behind it. -/
theorem Sees.drop (h : Sees w B A xs) (k : Nat) : Sees w B (A.map (·.add k)) (xs.drop k) := fun j u hu => by
  rw [List.getElem?_drop] at hu
  obtain ⟨b, off, e, hb, hc⟩ := h _ u hu
  refine ⟨b, off + k, ?_, hb, ?_⟩
  · subst e
    simp only [Option.map_some, Addr.add]
    split <;> simp_all
  · rw [Nat.add_assoc]; exact hc

/-- A row of the call's own. -/
theorem Sees.own {base : Nat} {e : TypeId} {n c : Nat} (h : w.ownsRow base e 1 (.slice A n c) n xs) : Sees w w.heap.size A xs := fun k u hu => by
  have hl := h.1
  have hk : k < xs.length := by
    rcases Nat.lt_or_ge k xs.length with h1 | h1
    · exact h1
    · rw [List.getElem?_eq_none h1] at hu; simp at hu
  rcases h.2 with ⟨he, h0⟩ | ⟨g, cap, cur, he, hg, hh, _⟩
  · omega
  · have hA : A = some ⟨g, 0, none⟩ := by injection he
    subst hA
    have hlt : g < w.heap.size := by
      rcases Nat.lt_or_ge g w.heap.size with h1 | h1
      · exact h1
      · rw [Array.getElem?_eq_none h1] at hh; simp at hh
    refine ⟨g, 0, rfl, hlt, ?_⟩
    have := h.cells (g := g) rfl k u hu
    rw [Nat.zero_add]
    simpa [Addr.add] using (by
      have e2 : (⟨g, 0, none⟩ : Addr).add k = ⟨g, k, none⟩ := by
        unfold Addr.add
        split <;> simp_all
      rw [← e2]; exact this)
end

/-- Bytes as cells. -/
def cellsU8 (zs : List Int) : List Value := zs.map (Value.int .u8)

theorem get_u8 {zs : List Int} {k : Nat} (h : k < zs.length) : (cellsU8 zs)[k]? = some (.int .u8 (zs.getD k 0)) := by
  simp [cellsU8, List.getElem?_map, List.getElem?_eq_getElem h, List.getD_eq_getElem?_getD]

/-- The byte at place k, and where it stands. -/
theorem byte_at {w : World} {B : Nat} {A : Option Addr} {zs : List Int} {k : Nat} (h : Sees w B A (cellsU8 zs)) (hk : k < zs.length) (hz : ∀ z ∈ zs, 0 ≤ z ∧ z ≤ 255) :
    ∃ b off z, A = some ⟨b, off, none⟩ ∧ b < B ∧ w.cell? ⟨b, off + k, none⟩ = some (.int .u8 z) ∧ 0 ≤ z ∧ z ≤ 255 ∧ Hid (zs[k]? = some z) := by
  obtain ⟨b, off, e, hb, hc⟩ := h k (.int .u8 zs[k]) (by simp [cellsU8, List.getElem?_map, List.getElem?_eq_getElem hk])
  have hz' := hz zs[k] (List.getElem_mem hk)
  exact ⟨b, off, zs[k], e, hb, hc, hz'.1, hz'.2, List.getElem?_eq_getElem hk⟩
theorem take_more {zs : List Int} {k : Nat} {z : Int} (h : zs[k]? = some z) : zs.take (k + 1) = zs.take k ++ [z] := by
  rw [List.take_add_one, h]; rfl

/-- A fact kept from the walk. -/
theorem hide {p : Prop} (h : p) : Hid p := h

theorem ret_int {k : IntKind} {a b : Int} (h : a = b) : Ending.returned (.int k a) = .returned (.int k b) := by rw [h]
end Go.Proofs.Ytipjeihfhnilcaa
end
