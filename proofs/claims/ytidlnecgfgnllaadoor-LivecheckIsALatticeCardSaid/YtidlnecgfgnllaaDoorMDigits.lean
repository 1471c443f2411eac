import Derived.Test.YtidlnecgfgnllaaDoorRows
set_option linter.unusedVariables false
set_option linter.unusedSimpArgs false
section
/-
  Plain mathematics of base 128: 'digs v' are the bytes of the varint of v; 'lenv v' is their number; no program is named here.
-/
namespace Go.Proofs.YtidlnecgfgnllaaDoor

/-- The bytes of the varint of v. -/
def digs (v : Nat) : List Nat := if h : v < 128 then [v] else (v % 128 + 128) :: digs (v / 128)
termination_by v
decreasing_by omega

theorem digs_small {v : Nat} (h : v < 128) : digs v = [v] := by rw [digs]; simp [h]
theorem digs_great {v : Nat} (h : 128 ≤ v) : digs v = (v % 128 + 128) :: digs (v / 128) := by rw [digs]; simp [Nat.not_lt.2 h]

/-- Their number. -/
def lenv (v : Nat) : Nat := (digs v).length
theorem lenv_small {v : Nat} (h : v < 128) : lenv v = 1 := by simp [lenv, digs_small h]
theorem lenv_great {v : Nat} (h : 128 ≤ v) : lenv v = lenv (v / 128) + 1 := by simp [lenv, digs_great h]

theorem lenv_pos (v : Nat) : 1 ≤ lenv v := by
  rcases Nat.lt_or_ge v 128 with h | h
  · rw [lenv_small h]; omega
  · rw [lenv_great h]; omega

/-- The number of digits, by powers. -/
theorem lenv_eq (n : Nat) : ∀ v : Nat, (n = 0 ∨ 2 ^ (7 * n) ≤ v) → v < 2 ^ (7 * n + 7) → lenv v = n + 1 := by
  induction n with
  | zero => intro v _ h; exact lenv_small (by simpa using h)
  | succ n ih =>
    intro v h0 h1
    have e1 : 2 ^ (7 * (n + 1)) = 2 ^ (7 * n) * 128 := by rw [show 7 * (n + 1) = 7 * n + 7 by omega, Nat.pow_add]
    have e2 : 2 ^ (7 * (n + 1) + 7) = 2 ^ (7 * n + 7) * 128 := by rw [show 7 * (n + 1) + 7 = (7 * n + 7) + 7 by omega, Nat.pow_add]
    have hp : 1 ≤ 2 ^ (7 * n) := Nat.one_le_two_pow
    rcases h0 with h0 | h0
    · omega
    rw [e1] at h0
    rw [e2] at h1
    have hv : 128 ≤ v := by omega
    rw [lenv_great hv, ih (v / 128) ?_ ?_]
    · right; omega
    · omega

theorem lenv_le (v : Nat) (h : v < 18446744073709551616) : lenv v ≤ 10 := by
  have hs : ∀ n v : Nat, v < 2 ^ (7 * n + 7) → lenv v ≤ n + 1 := by
    intro n
    induction n with
    | zero => intro v h; rw [lenv_small (by simpa using h)]; omega
    | succ n ih =>
      intro v h
      rcases Nat.lt_or_ge v 128 with h1 | h1
      · rw [lenv_small h1]; omega
      · rw [lenv_great h1]
        have := ih (v / 128) (by
          have e2 : 2 ^ (7 * (n + 1) + 7) = 2 ^ (7 * n + 7) * 128 := by rw [show 7 * (n + 1) + 7 = (7 * n + 7) + 7 by omega, Nat.pow_add]
          omega)
        omega
  exact hs 9 v (by have : 2 ^ (7 * 9 + 7) = 1180591620717411303424 := by decide
                   omega)

/-- L is the number of bits of x. -/
def Bits (x L : Nat) : Prop := x < 2 ^ L ∧ (L = 0 ∨ 2 ^ (L - 1) ≤ x)

/-- From the number of bits to the number of digits. -/
theorem lenv_of_bits (v x L : Nat) (hx : x = v ∧ v % 2 = 1 ∨ x = v + 1 ∧ v % 2 = 0) (h : Bits x L) : (L + 7 - 1) / 7 = lenv v := by
  obtain ⟨h1, h2⟩ := h
  have hx1 : 1 ≤ x := by omega
  have hL : 1 ≤ L := by
    rcases Nat.eq_zero_or_pos L with h0 | h0
    · subst h0; simp at h1; omega
    · omega
  obtain h2 : 2 ^ (L - 1) ≤ x := by rcases h2 with h2 | h2 <;> omega
  have hn : L + 7 - 1 = 7 * ((L - 1) / 7) + (L - 1) % 7 + 7 := by omega
  have hq : (L + 7 - 1) / 7 = (L - 1) / 7 + 1 := by omega
  rw [hq]
  symm
  apply lenv_eq
  · rcases Nat.eq_zero_or_pos ((L - 1) / 7) with h0 | h0
    · left; exact h0
    · right
      have hle : 2 ^ (7 * ((L - 1) / 7)) ≤ 2 ^ (L - 1) := Nat.pow_le_pow_right (by omega) (by omega)
      have he : 2 ^ (7 * ((L - 1) / 7)) % 2 = 0 := by
        obtain ⟨k, hk⟩ : ∃ k, 7 * ((L - 1) / 7) = k + 1 := ⟨7 * ((L - 1) / 7) - 1, by omega⟩
        rw [hk, Nat.pow_succ]; omega
      omega
  · have hle : 2 ^ L ≤ 2 ^ (7 * ((L - 1) / 7) + 7) := Nat.pow_le_pow_right (by omega) (by omega)
    omega

/-- The table of the bits of a byte. -/
def bitsOfByte (x : Nat) : Nat := if x = 0 then 0 else if x < 2 then 1 else if x < 4 then 2 else if x < 8 then 3 else if x < 16 then 4 else if x < 32 then 5 else if x < 64 then 6 else if x < 128 then 7 else 8
theorem bits_of_byte (x : Nat) (h : x < 256) : Bits x (bitsOfByte x) := by
  unfold bitsOfByte Bits
  repeat' split
  all_goals (refine ⟨by simp; omega, by simp; try omega⟩)

/-- Bits of a number that was shifted. -/
theorem bits_shift (x s L : Nat) (hL : 1 ≤ L) (h : Bits (x / 2 ^ s) L) : Bits x (s + L) := by
  obtain ⟨h1, h2⟩ := h
  have hp : 0 < 2 ^ s := Nat.two_pow_pos s
  refine ⟨?_, .inr ?_⟩
  · rw [Nat.pow_add, Nat.mul_comm]
    exact (Nat.div_lt_iff_lt_mul hp).1 h1
  · rcases h2 with h2 | h2
    · omega
    · rw [show s + L - 1 = (L - 1) + s by omega, Nat.pow_add]
      exact (Nat.le_div_iff_mul_le hp).1 h2
theorem bits_pos (x L : Nat) (hx : 1 ≤ x) (h : Bits x L) : 1 ≤ L := by
  rcases Nat.eq_zero_or_pos L with h0 | h0
  · subst h0; have := h.1; simp at this; omega
  · omega
end Go.Proofs.YtidlnecgfgnllaaDoor
end
