/-
  The contracts of varint.Crc and of the reference's Crc.
-/
import Derived.Test.YtbfnbhjmbheokaaNum
import Derived.Test.YtbfnbhjmbheokaaCrcm
namespace Go.Proofs.Ytbfnbhjmbheokaa
open Go.RowKit

theorem crc_bit_go (n : Nat) (h : n ≤ 4294967295) : bits BinOp.xor IntKind.u32 ((n : Int) / 2) (bits BinOp.and IntKind.u32 (n : Int) 1 * 3988292384 % 4294967296) = (crcBit n : Nat) := by
  have ha : bits BinOp.and IntKind.u32 (n : Int) 1 = ((n % 2 : Nat) : Int) := by
    rw [show (1 : Int) = ((1 : Nat) : Int) from rfl, u32_and_nat n 1 (by omega) (by omega), Nat.and_one_is_mod]
  rw [ha, show (n : Int) / 2 = ((n / 2 : Nat) : Int) by omega, show (((n % 2 : Nat) : Int) * 3988292384 % 4294967296) = (((n % 2) * 3988292384 : Nat) : Int) by omega, u32_xor_nat _ _ (by omega) (by omega)]
  rfl
theorem xor_u32 (s : Nat) (z : Int) (hs : s ≤ 4294967295) (h0 : 0 ≤ z) (h1 : z ≤ 255) : bits BinOp.xor IntKind.u32 (s : Int) z = ((s ^^^ z.toNat : Nat) : Int) := by
  obtain ⟨k, rfl⟩ := Int.eq_ofNat_of_zero_le h0
  rw [u32_xor_nat _ _ (by omega) (by omega)]
  rfl
theorem not_u32 (s : Nat) (hs : s ≤ 4294967295) : bits BinOp.xor IntKind.u32 IntKind.u32.max (s : Int) = ((4294967295 - s : Nat) : Int) := by
  show IntKind.u32.wrap ((BitVec.ofInt 32 IntKind.u32.max ^^^ BitVec.ofInt 32 (s : Int)).toNat : Int) = _
  have e : BitVec.ofInt 32 IntKind.u32.max = BitVec.allOnes 32 := by decide
  rw [e, BitVec.allOnes_xor, BitVec.toNat_not, ofInt_u32 s (by omega), IntKind.wrap_u32']
  omega

set_option maxRecDepth 100000 in
set_option maxHeartbeats 400000 in
theorem shift_any (c : Int) (w : World) (h0 : 0 ≤ c) (h1 : c ≤ 4294967295) :
    Calls Try.prog 27 #[.int .u32 c] w fun e w' => e = .returned (.int .u32 (crcBits 8 c.toNat)) ∧ w = w' := by
  go_enter Try.func27, Try.ntmps27
  go_wp2
  go_loop [0, 3] (fun a k => ∃ (n : Nat) (j : Nat), n ≤ 4294967295 ∧ j ≤ 8 ∧ a = .int .u32 n ∧ k = .int .i64 j ∧ Hid (n = crcBits j c.toNat)) (fun _ k => 8 - (intOf k).toNat)
  case atStart => exact ⟨c.toNat, 0, by omega, by omega, by rw [Int.toNat_of_nonneg h0], rfl, rfl⟩
  case round =>
    obtain ⟨n, j, hn, hj, rfl, rfl, hr⟩ := hrel
    by_cases hlt : j < 8
    · go_wp2
      go_round
      case rel =>
        have hb := crcBit_lt (c := n) (by omega)
        exact ⟨crcBit n, j + 1, by omega, by omega, by rw [crc_bit_go n hn], by go_num, by have := hr.out; subst this; rfl⟩
      case measure => simp [intOf]; omega
    · go_wp2
      go_ret
      obtain rfl : j = 8 := by omega
      exact ⟨ret_int (by have h := hr.out; omega), rfl⟩

set_option maxRecDepth 100000 in
set_option maxHeartbeats 400000 in
theorem crc_any (A : Option Addr) (n c : Nat) (zs : List Int) (B : Nat) (w : World) (hn : Hid (zs.length = n)) (hm : n ≤ 4611686018427387904) (hs : Sees w B A (cellsU8 zs)) (hz : Hid (∀ z ∈ zs, 0 ≤ z ∧ z ≤ 255)) :
    Calls Try.prog 21 #[.slice A n c] w fun e w' => e = .returned (.int .u32 ((4294967295 - crcAll 4294967295 zs : Nat) : Int)) ∧ w = w' := by
  go_enter Try.func21, Try.ntmps21
  go_wp2
  go_loop [3, 8] (fun a k => ∃ (s : Nat) (j : Nat), s ≤ 4294967295 ∧ j ≤ n ∧ a = .int .u32 s ∧ k = .int .i64 j ∧ Hid (s = crcAll 4294967295 (zs.take j))) (fun _ k => n - (intOf k).toNat)
  case atStart => exact ⟨4294967295, 0, by omega, by omega, rfl, rfl, rfl⟩
  case round =>
    obtain ⟨s, j, hs', hj, rfl, rfl, hr⟩ := hrel
    by_cases hlt : j < n
    · obtain ⟨b, off, z, rfl, _, hc, z0, z1, hzk⟩ := byte_at (zs := zs) (k := j) hs (by have := hn.out; omega) hz.out
      have hx := xor_lt32 (s := s) (n := z.toNat) (by omega) (by omega)
      clear hs
      go_wp2_with fail
      rw [xor_u32 s z hs' z0 z1]
      refine (shift_any _ _ (by omega) (by omega)).mono ?_
      rintro e w' ⟨rfl, rfl⟩
      have hb := crcBits_lt (c := s ^^^ z.toNat) (by omega) 8
      have hR := hide (show crcBits 8 (s ^^^ z.toNat) = crcAll 4294967295 (zs.take (j + 1)) by rw [take_more hzk.out, crcAll_snoc, ← hr.out]; rfl)
      clear hr
      go_wp2
      go_round
      case rel => exact ⟨_, j + 1, by omega, by omega, rfl, by go_num, hR⟩
      case measure => simp [intOf]; omega
    · clear hs
      go_wp2
      all_goals first
        | (exfalso; revert ‹IntKind.u32.signed = true›; decide)
        | (go_ret
           obtain rfl : j = n := by omega
           have := hr.out
           rw [List.take_of_length_le (by have := hn.out; omega)] at this
           exact ⟨ret_int (by rw [not_u32 s hs', this]), rfl⟩)

set_option maxRecDepth 100000 in
set_option maxHeartbeats 800000 in
theorem refcrc_any (A : Option Addr) (n c : Nat) (zs : List Int) (B : Nat) (w : World) (hn : Hid (zs.length = n)) (hm : n ≤ 4611686018427387904) (hs : Sees w B A (cellsU8 zs)) (hz : Hid (∀ z ∈ zs, 0 ≤ z ∧ z ≤ 255)) :
    Calls Try.prog 22 #[.slice A n c] w fun e w' => e = .returned (.int .u32 ((4294967295 - crcAll 4294967295 zs : Nat) : Int)) ∧ w = w' := by
  go_enter Try.func22, Try.ntmps22
  go_wp2
  go_loop [3, 4] (fun a k => ∃ (s : Nat) (j : Nat), s ≤ 4294967295 ∧ j ≤ n ∧ a = .int .u32 s ∧ k = .int .i64 j ∧ Hid (s = crcAll 4294967295 (zs.take j))) (fun _ k => n - (intOf k).toNat)
  case atStart => exact ⟨4294967295, 0, by omega, by omega, rfl, rfl, rfl⟩
  case round =>
    obtain ⟨s, j, hs', hj, rfl, rfl, hr⟩ := hrel
    by_cases hlt : j < n
    · obtain ⟨b, off, z, rfl, _, hc, z0, z1, hzk⟩ := byte_at (zs := zs) (k := j) hs (by have := hn.out; omega) hz.out
      have hx := xor_lt32 (s := s) (n := z.toNat) (by omega) (by omega)
      have hxor := xor_u32 s z hs' z0 z1
      clear hs
      go_wp2
      obtain ⟨x, hx'⟩ : ∃ x, x = s ^^^ z.toNat := ⟨_, rfl⟩
      rw [← hx'] at hx ⊢
      have Hx := hide hx'
      have hb0 := hide (crcBits_lt (c := x) hx 8)
      clear hx' hxor
      go_loop [3, 5] (fun a k => ∃ (m : Nat) (i : Nat), m ≤ 4294967295 ∧ i ≤ 8 ∧ a = .int .u32 m ∧ k = .int .i64 i ∧ Hid (m = crcBits i x)) (fun _ k => 8 - (intOf k).toNat)
      case atStart => exact ⟨x, 0, by omega, by omega, rfl, rfl, rfl⟩
      case round =>
        obtain ⟨m, i, hm', hi, rfl, rfl, hri⟩ := hrel
        have hand : bits BinOp.and IntKind.u32 (m : Int) 1 = ((m % 2 : Nat) : Int) := by
          rw [show (1 : Int) = ((1 : Nat) : Int) from rfl, u32_and_nat m 1 (by omega) (by omega), Nat.and_one_is_mod]
        have Hand := hide hand
        clear hand
        by_cases hi8 : i < 8
        · have hb := crcBit_lt (c := m) (by omega)
          have hR := hide (show crcBit m = crcBits (i + 1) x by have h := hri.out; subst h; rfl)
          by_cases hodd : m % 2 = 1
          · have ht : (bits BinOp.and IntKind.u32 (m : Int) 1 == 1) = true := by rw [Hand.out, hodd]; rfl
            have ho : bits BinOp.xor IntKind.u32 ((m : Int) / 2) 3988292384 = ((crcBit m : Nat) : Int) := by
              rw [show (3988292384 : Int) = ((3988292384 : Nat) : Int) from rfl, show (m : Int) / 2 = ((m / 2 : Nat) : Int) by omega, u32_xor_nat _ _ (by omega) (by omega), crcBit_odd hodd]
            clear hodd
            go_wp2
            go_round
            case rel => exact ⟨crcBit m, i + 1, by omega, by omega, rfl, by go_num, hR⟩
            case measure => simp [intOf]; omega
          · have ht : (bits BinOp.and IntKind.u32 (m : Int) 1 == 1) = false := by rw [Hand.out]; simp; omega
            have hev := hide (crcBit_even (c := m) (by omega))
            clear hodd
            go_wp2
            go_round
            case rel => exact ⟨crcBit m, i + 1, by omega, by omega, by rw [hev.out]; simp, by go_num, hR⟩
            case measure => simp [intOf]; omega
        · obtain rfl : i = 8 := by omega
          have hR := hide (show m = crcAll 4294967295 (zs.take (j + 1)) by rw [take_more hzk.out, crcAll_snoc, ← hr.out, hri.out, Hx.out]; rfl)
          go_wp2
          go_round
          case rel => exact ⟨m, j + 1, by omega, by omega, rfl, by go_num, hR⟩
          case measure => simp [intOf]; omega
    · clear hs
      go_wp2
      all_goals first
        | (exfalso; revert ‹IntKind.u32.signed = true›; decide)
        | (go_ret
           obtain rfl : j = n := by omega
           have := hr.out
           rw [List.take_of_length_le (by have := hn.out; omega)] at this
           exact ⟨ret_int (by rw [not_u32 s hs', this]), rfl⟩)
end Go.Proofs.Ytbfnbhjmbheokaa
