/-
  Plain mathematics of the checksum: one step on 32 bits is one to one, so a change of one byte changes the checksum. No function of the program is named here.
-/
import Derived.Test.YtbfnbhjmbheokaaKit
namespace Go.Proofs.Ytbfnbhjmbheokaa
open Go.RowKit

/-- One bit. -/
def crcBit (c : Nat) : Nat := c / 2 ^^^ (c % 2) * 3988292384
/-- k bits. -/
def crcBits : Nat → Nat → Nat
  | 0, c => c
  | k + 1, c => crcBit (crcBits k c)
/-- One byte. -/
def crcByte (s : Nat) (z : Int) : Nat := crcBits 8 (s ^^^ z.toNat)
/-- Many bytes. -/
def crcAll (s : Nat) (zs : List Int) : Nat := zs.foldl crcByte s

theorem crcBit_even {c : Nat} (h : c % 2 = 0) : crcBit c = c / 2 := by simp [crcBit, h]
theorem crcBit_odd {c : Nat} (h : c % 2 = 1) : crcBit c = c / 2 ^^^ 3988292384 := by simp [crcBit, h]
theorem crcBit_lt {c : Nat} (h : c < 4294967296) : crcBit c < 4294967296 := by
  rcases Nat.mod_two_eq_zero_or_one c with h2 | h2
  · rw [crcBit_even h2]; omega
  · rw [crcBit_odd h2]
    have : c / 2 ^^^ 3988292384 < 2 ^ 32 := Nat.xor_lt_two_pow (by omega) (by decide)
    omega
theorem crcBits_lt {c : Nat} (h : c < 4294967296) : ∀ k, crcBits k c < 4294967296
  | 0 => h
  | k + 1 => crcBit_lt (crcBits_lt h k)

theorem top_even {c : Nat} (hc : c < 4294967296) (h : c % 2 = 0) : (crcBit c).testBit 31 = false := by
  rw [crcBit_even h]
  exact Nat.testBit_lt_two_pow (by omega)
theorem top_odd {c : Nat} (hc : c < 4294967296) (h : c % 2 = 1) : (crcBit c).testBit 31 = true := by
  rw [crcBit_odd h, Nat.testBit_xor, Nat.testBit_lt_two_pow (show c / 2 < 2 ^ 31 by omega)]
  decide
theorem xor_back (a b : Nat) : (a ^^^ b) ^^^ b = a := by rw [Nat.xor_assoc, Nat.xor_self, Nat.xor_zero]
theorem xor_inj {a b c : Nat} (h : a ^^^ c = b ^^^ c) : a = b := by rw [← xor_back a c, h, xor_back]
theorem xor_inj' {a b c : Nat} (h : c ^^^ a = c ^^^ b) : a = b := by rw [Nat.xor_comm c a, Nat.xor_comm c b] at h; exact xor_inj h

theorem crcBit_inj {a b : Nat} (ha : a < 4294967296) (hb : b < 4294967296) (h : crcBit a = crcBit b) : a = b := by
  rcases Nat.mod_two_eq_zero_or_one a with h1 | h1 <;> rcases Nat.mod_two_eq_zero_or_one b with h2 | h2
  · rw [crcBit_even h1, crcBit_even h2] at h; omega
  · have e1 := top_even ha h1
    have e2 := top_odd hb h2
    rw [h, e2] at e1; cases e1
  · have e1 := top_odd ha h1
    have e2 := top_even hb h2
    rw [h, e2] at e1; cases e1
  · rw [crcBit_odd h1, crcBit_odd h2] at h
    have := xor_inj h
    omega
theorem crcBits_inj {a b : Nat} (ha : a < 4294967296) (hb : b < 4294967296) : ∀ k, crcBits k a = crcBits k b → a = b
  | 0, h => h
  | k + 1, h => crcBits_inj ha hb k (crcBit_inj (crcBits_lt ha k) (crcBits_lt hb k) h)

theorem xor_lt32 {s n : Nat} (hs : s < 4294967296) (hn : n < 4294967296) : s ^^^ n < 4294967296 := by
  have : s ^^^ n < 2 ^ 32 := Nat.xor_lt_two_pow (by omega) (by omega)
  omega
theorem crcByte_lt {s : Nat} {z : Int} (hs : s < 4294967296) (hz : z ≤ 255) : crcByte s z < 4294967296 := crcBits_lt (xor_lt32 hs (by omega)) 8
theorem crcAll_lt : ∀ (zs : List Int) (s : Nat), s < 4294967296 → (∀ z ∈ zs, 0 ≤ z ∧ z ≤ 255) → crcAll s zs < 4294967296
  | [], _, hs, _ => hs
  | z :: r, _, hs, h => crcAll_lt r _ (crcByte_lt hs (h z List.mem_cons_self).2) (fun y hy => h y (List.mem_cons_of_mem _ hy))
theorem crcAll_inj : ∀ (zs : List Int) (a b : Nat), a < 4294967296 → b < 4294967296 → (∀ z ∈ zs, 0 ≤ z ∧ z ≤ 255) → crcAll a zs = crcAll b zs → a = b
  | [], _, _, _, _, _, h => h
  | z :: r, a, b, ha, hb, h, e => by
    have hz := h z List.mem_cons_self
    have h1 := crcAll_inj r _ _ (crcByte_lt ha hz.2) (crcByte_lt hb hz.2) (fun y hy => h y (List.mem_cons_of_mem _ hy)) e
    exact xor_inj (crcBits_inj (xor_lt32 ha (by omega)) (xor_lt32 hb (by omega)) 8 h1)

/-- One byte that differs. -/
theorem crcAll_ne (l r : List Int) (x y : Int) (hx : 0 ≤ x ∧ x ≤ 255) (hy : 0 ≤ y ∧ y ≤ 255) (hne : x ≠ y) (hl : ∀ z ∈ l, 0 ≤ z ∧ z ≤ 255) (hr : ∀ z ∈ r, 0 ≤ z ∧ z ≤ 255) (s : Nat) (hs : s < 4294967296) :
    crcAll s (l ++ x :: r) ≠ crcAll s (l ++ y :: r) := by
  intro e
  have hp := crcAll_lt l s hs hl
  have e' : crcAll (crcByte (crcAll s l) x) r = crcAll (crcByte (crcAll s l) y) r := by simpa [crcAll, List.foldl_append] using e
  have h1 := crcAll_inj r _ _ (crcByte_lt hp hx.2) (crcByte_lt hp hy.2) hr e'
  have h2 := crcBits_inj (xor_lt32 hp (by omega)) (xor_lt32 hp (by omega)) 8 h1
  have h3 := xor_inj' h2
  omega

theorem crc_set_ne (zs : List Int) (i : Nat) (z z' : Int) (h : zs[i]? = some z) (hz : ∀ z ∈ zs, 0 ≤ z ∧ z ≤ 255) (h0 : 0 ≤ z') (h1 : z' ≤ 255) (hne : z' ≠ z) : crcAll 4294967295 (zs.set i z') ≠ crcAll 4294967295 zs := by
  obtain ⟨hi, he⟩ := List.getElem?_eq_some_iff.1 h
  have e1 : zs.set i z' = zs.take i ++ z' :: zs.drop (i + 1) := by rw [List.set_eq_take_append_cons_drop, if_pos hi]
  have e2 : zs = zs.take i ++ z :: zs.drop (i + 1) := by rw [← he, List.getElem_cons_drop, List.take_append_drop]
  have hb := hz z (by rw [← he]; exact List.getElem_mem hi)
  have := crcAll_ne (zs.take i) (zs.drop (i + 1)) z' z ⟨h0, h1⟩ hb hne (fun y hy => hz y (List.mem_of_mem_take hy)) (fun y hy => hz y (List.mem_of_mem_drop hy)) 4294967295 (by omega)
  rw [e1]
  rwa [← e2] at this

theorem crcAll_snoc (s : Nat) (l : List Int) (z : Int) : crcAll s (l ++ [z]) = crcByte (crcAll s l) z := by simp [crcAll, List.foldl_append]
end Go.Proofs.Ytbfnbhjmbheokaa
