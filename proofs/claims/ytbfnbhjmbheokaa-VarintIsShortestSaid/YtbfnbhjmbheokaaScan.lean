/-
  Plain mathematics of reading a varint: 'scan' is what both readers compute; it inverts 'digsI', and what it accepts is 'digsI' of its value. No function of the program is named here.
-/
import Derived.Test.YtbfnbhjmbheokaaPut
namespace Go.Proofs.Ytbfnbhjmbheokaa
open Go.RowKit

/-- (the value, how many bytes, the error) of the varint at the head of the list, where i bytes of value v have been read. -/
def scan : List Int → Nat → Nat → Nat × Nat × Nat
  | [], _, _ => (0, 0, 1)
  | z :: r, i, v => if i = 9 ∧ 1 < z then (0, 0, 2) else if 128 ≤ z then scan r (i + 1) (v + (z.toNat - 128) * 128 ^ i) else if z = 0 ∧ 0 < i then (0, 0, 2) else (v + z.toNat * 128 ^ i, i + 1, 0)

theorem scan_fmt9 {z : Int} {r : List Int} {v : Nat} (h : 1 < z) : scan (z :: r) 9 v = (0, 0, 2) := by rw [scan, if_pos ⟨rfl, h⟩]
theorem scan_more {z : Int} {r : List Int} {i v : Nat} (hi : i < 9) (h : 128 ≤ z) : scan (z :: r) i v = scan r (i + 1) (v + (z.toNat - 128) * 128 ^ i) := by
  rw [scan, if_neg (by omega), if_pos h]
theorem scan_zero {r : List Int} {i v : Nat} (hi : 0 < i) : scan (0 :: r) i v = (0, 0, 2) := by
  rw [scan, if_neg (by omega), if_neg (by omega), if_pos ⟨rfl, hi⟩]
theorem scan_last {z : Int} {r : List Int} {i v : Nat} (h9 : i = 9 → z ≤ 1) (h : z < 128) (h0 : z = 0 → i = 0) : scan (z :: r) i v = (v + z.toNat * 128 ^ i, i + 1, 0) := by
  rw [scan, if_neg (by omega), if_neg (by omega), if_neg (by omega)]

theorem pow128 {i : Nat} (h : i ≤ 9) : 128 ^ i ≤ 9223372036854775808 := by
  have := Nat.pow_le_pow_right (n := 128) (by omega) h
  have e : 128 ^ 9 = 9223372036854775808 := by decide
  omega
theorem pow128_succ (i : Nat) : 128 ^ (i + 1) = 128 ^ i * 128 := Nat.pow_succ ..
theorem pow128_pos (i : Nat) : 0 < 128 ^ i := Nat.pow_pos (by omega)
theorem pow128_8 {i : Nat} (h : i ≤ 8) : 128 ^ i * 128 ≤ 9223372036854775808 := by rw [← pow128_succ]; exact pow128 (by omega)
theorem digit_lt {v d p : Nat} (hv : v < p) (hd : d ≤ 127) : v + d * p < p * 128 := by
  have : d * p ≤ 127 * p := Nat.mul_le_mul_right _ hd
  omega

theorem scan_le : ∀ (l : List Int) (i v : Nat), (∀ z ∈ l, 0 ≤ z ∧ z ≤ 255) → i ≤ 9 → v < 128 ^ i → (scan l i v).1 ≤ 18446744073709551615
  | [], _, _, _, _, _ => by simp [scan]
  | z :: r, i, v, hz, hi, hv => by
    have h := hz z List.mem_cons_self
    have hp := pow128 hi
    rw [scan]
    split
    · simp
    · split
      · rename_i h1 h2
        have h8 : i ≤ 8 := by omega
        exact scan_le r (i + 1) _ (fun y hy => hz y (List.mem_cons_of_mem _ hy)) (by omega) (by rw [pow128_succ]; exact digit_lt hv (by omega))
      · split
        · simp
        · rename_i h1 h2 h3
          show v + z.toNat * 128 ^ i ≤ _
          rcases Nat.lt_or_ge i 9 with h9 | h9
          · have := digit_lt (d := z.toNat) hv (by omega)
            have := pow128_8 (i := i) (by omega)
            omega
          · obtain rfl : i = 9 := by omega
            have hz1 : z.toNat ≤ 1 := by omega
            have : z.toNat * 128 ^ 9 ≤ 1 * 128 ^ 9 := Nat.mul_le_mul_right _ hz1
            omega

theorem scan_digs (u : Nat) : ∀ (i v : Nat) (rest : List Int), i ≤ 9 → u * 128 ^ i < 18446744073709551616 → (i = 0 ∨ 1 ≤ u) → scan (digsI u ++ rest) i v = (v + u * 128 ^ i, i + lenv u, 0) := by
  induction u using Nat.strongRecOn with
  | _ u ih =>
    intro i v rest hi hu h0
    have hu9 : i = 9 → u ≤ 1 := by
      rintro rfl
      have e : 128 ^ 9 = 9223372036854775808 := by decide
      omega
    rcases Nat.lt_or_ge u 128 with h | h
    · rw [digsI_small h, lenv_small h]
      show scan ((u : Int) :: rest) i v = _
      rw [scan_last (by omega) (by omega) (by omega)]
      rfl
    · rw [digsI_great h, lenv_great h]
      show scan (((u % 128 + 128 : Nat) : Int) :: (digsI (u / 128) ++ rest)) i v = _
      have h8 : i < 9 := by omega
      have hm : u / 128 * 128 ^ (i + 1) + u % 128 * 128 ^ i = u * 128 ^ i := by
        have e : u = u / 128 * 128 + u % 128 := by omega
        calc u / 128 * 128 ^ (i + 1) + u % 128 * 128 ^ i = (u / 128 * 128 + u % 128) * 128 ^ i := by
              rw [pow128_succ, Nat.add_mul, Nat.mul_assoc, Nat.mul_comm (128 ^ i) 128]
          _ = u * 128 ^ i := by rw [← e]
      rw [scan_more h8 (by omega), ih (u / 128) (by omega) (i + 1) _ rest (by omega) (by omega) (by omega)]
      rw [show ((u % 128 + 128 : Nat) : Int).toNat - 128 = u % 128 by omega]
      simp only [Prod.mk.injEq, and_true]
      exact ⟨by omega, by omega⟩

theorem scan_ok : ∀ (l : List Int) (i v x e : Nat), (∀ z ∈ l, 0 ≤ z ∧ z ≤ 255) → scan l i v = (x, e, 0) → ∃ u, x = v + u * 128 ^ i ∧ e = i + lenv u ∧ l.take (lenv u) = digsI u ∧ lenv u ≤ l.length ∧ (i = 0 ∨ 1 ≤ u)
  | [], _, _, _, _, _, h => by simp [scan] at h
  | z :: r, i, v, x, e, hz, h => by
    have hb := hz z List.mem_cons_self
    rw [scan] at h
    split at h
    · simp at h
    · split at h
      · rename_i h1 h2
        obtain ⟨u, hx, he, ht, hl, hu⟩ := scan_ok r (i + 1) _ x e (fun y hy => hz y (List.mem_cons_of_mem _ hy)) h
        have hu1 : 1 ≤ u := by omega
        have hd : (z.toNat - 128 + u * 128) / 128 = u := by omega
        have hq : (z.toNat - 128 + u * 128) % 128 = z.toNat - 128 := by omega
        refine ⟨z.toNat - 128 + u * 128, ?_, ?_, ?_, ?_, by omega⟩
        · rw [hx, Nat.add_mul, pow128_succ, Nat.mul_assoc u 128, Nat.mul_comm 128 (128 ^ i)]; omega
        · rw [lenv_great (by omega), hd]; omega
        · rw [lenv_great (by omega), digsI_great (by omega), hd, hq, List.take_succ_cons, ht, show ((z.toNat - 128 + 128 : Nat) : Int) = z by omega]
        · rw [lenv_great (by omega), hd]; simp; omega
      · split at h
        · simp at h
        · rename_i h1 h2 h3
          simp only [Prod.mk.injEq, and_true] at h
          refine ⟨z.toNat, by omega, ?_, ?_, ?_, by omega⟩
          · rw [lenv_small (by omega)]; omega
          · rw [lenv_small (by omega), digsI_small (by omega), show ((z.toNat : Nat) : Int) = z by omega]; simp
          · rw [lenv_small (by omega)]; simp

/-- What Uint returns. -/
def uintAt (zs : List Int) (a : Int) : Int × Int × Int :=
  if a < 0 ∨ (zs.length : Int) < a then (0, 0, 1)
  else if (scan (zs.drop a.toNat) 0 0).2.2 = 0 then ((scan (zs.drop a.toNat) 0 0).1, a + (scan (zs.drop a.toNat) 0 0).2.1, 0) else (0, 0, (scan (zs.drop a.toNat) 0 0).2.2)
def uintVal (r : Int × Int × Int) : Value := .tuple #[.int .u64 r.1, .int .i64 r.2.1, .int .i64 r.2.2]

theorem uintAt_out {zs : List Int} {a : Int} (h : a < 0 ∨ (zs.length : Int) < a) : uintAt zs a = (0, 0, 1) := by rw [uintAt, if_pos h]
theorem uintAt_err {zs : List Int} {a e : Nat} (h : a ≤ zs.length) (hs : scan (zs.drop a) 0 0 = (0, 0, e)) (he : e ≠ 0) : uintAt zs a = (0, 0, (e : Int)) := by
  rw [uintAt, if_neg (by omega), Int.toNat_natCast, hs]
  simp [he]
theorem uintAt_ok {zs : List Int} {a v e : Nat} (h : a ≤ zs.length) (hs : scan (zs.drop a) 0 0 = (v, e, 0)) : uintAt zs a = ((v : Int), (a : Int) + e, 0) := by
  rw [uintAt, if_neg (by omega), Int.toNat_natCast, hs]
  simp

theorem drop_head {zs : List Int} {k : Nat} {z : Int} (h : zs[k]? = some z) : zs.drop k = z :: zs.drop (k + 1) := by
  obtain ⟨hk, rfl⟩ := List.getElem?_eq_some_iff.1 h
  exact List.drop_eq_getElem_cons hk

/-- The digit d comes behind v. -/
theorem or_digit (v j : Nat) (d : Int) (hv : v < 128 ^ j) (h0 : 0 ≤ d) (hd : d ≤ 127) (hj : j ≤ 8) : bits BinOp.or IntKind.u64 (v : Int) (IntKind.u64.wrap (d * 2 ^ (j * 7))) = ((v + d.toNat * 128 ^ j : Nat) : Int) := by
  obtain ⟨k, rfl⟩ := Int.eq_ofNat_of_zero_le h0
  have e2 : 2 ^ (j * 7) = 128 ^ j := by rw [Nat.mul_comm, Nat.pow_mul]
  have e3 : ((k : Int) * 2 ^ (j * 7)) = ((k * 128 ^ j : Nat) : Int) := by rw [← e2]; simp
  have hlt := digit_lt (d := k) hv (by omega)
  have h8 := pow128_8 hj
  rw [e3, IntKind.wrap_u64, show (((k * 128 ^ j : Nat) : Int) % 18446744073709551616) = ((k * 128 ^ j : Nat) : Int) by omega, u64_or_nat _ _ (by omega) (by omega), Int.toNat_natCast]
  have := Nat.two_pow_add_eq_or_of_lt (i := j * 7) (b := v) (by rw [e2]; exact hv) k
  rw [e2] at this
  rw [Nat.or_comm, Nat.mul_comm k, ← this, Nat.add_comm]
/-- The tenth byte is 1. -/
theorem or_tenth (v : Nat) (hv : v < 9223372036854775808) : bits BinOp.or IntKind.u64 (v : Int) 9223372036854775808 = ((v + 9223372036854775808 : Nat) : Int) := by
  rw [show (9223372036854775808 : Int) = ((9223372036854775808 : Nat) : Int) from rfl, u64_or_nat _ _ (by omega) (by omega)]
  have := Nat.two_pow_add_eq_or_of_lt (i := 63) (b := v) (by simpa using hv) 1
  rw [show 2 ^ 63 * 1 = 9223372036854775808 by decide] at this
  rw [Nat.or_comm, ← this, Nat.add_comm]
end Go.Proofs.Ytbfnbhjmbheokaa
