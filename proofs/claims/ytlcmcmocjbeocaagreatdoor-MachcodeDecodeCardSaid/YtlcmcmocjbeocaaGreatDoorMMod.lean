import Derived.Test.YtlcmcmocjbeocaaGreatDoorMBitsm
import Derived.Test.YtlcmcmocjbeocaaGreatDoorMMins
import Derived.Laws.BitsAllLaws
set_option linter.unusedVariables false
set_option linter.unusedSimpArgs false
section
/-
  The contract of spillframedraw.Mod. Conditions: those of the types; a divisor from 1 to 2^62.
-/
namespace Go.Proofs.YtlcmcmocjbeocaaGreatDoor
open Go.RowKit

/-- A number from 0 to n - 1. -/
def modV (x n : Int) : Int := x % n
theorem tmod_mod (x n : Int) (hn : 1 ≤ n) : (Int.tmod x n + n) % n = x % n := by
  have := Int.mul_tdiv_add_tmod x n
  rw [Int.add_emod_right]
  conv => rhs; rw [← this]
  rw [Int.add_comm, Int.add_mul_emod_self_left]
theorem tmod_b (x n : Int) (hn : 1 ≤ n) : -n < Int.tmod x n ∧ Int.tmod x n < n := by
  have h1 := Int.tmod_lt_of_pos x (show 0 < n by omega)
  have h2 := Int.lt_tmod_of_pos x (show 0 < n by omega)
  omega
theorem mod_any (x n : Int) (w : World) (hn : 1 ≤ n) (hn1 : n ≤ 4611686018427387904) : Calls Tryz.prog 20 #[.int .i64 x, .int .i64 n] w fun e w' => e = .returned (.int .i64 (x % n)) ∧ w = w' := by
  have hb := tmod_b x n hn
  have hm := tmod_mod x n hn
  have h0 := hb.1
  have h1 := hb.2
  have hane : (n == 0) = false := by simp; omega
  clear hb
  obtain ⟨t, ht⟩ : ∃ t, Int.tmod x n = t := ⟨_, rfl⟩
  rw [ht] at hm h0 h1
  go_enter Tryz.func20, Tryz.ntmps20
  go_wp2
  go_ret
  exact ⟨ret_int hm, rfl⟩
end Go.Proofs.YtlcmcmocjbeocaaGreatDoor
end

section
/-
  Chapter 11's awake. Conditions: those of the types; the table of TrailingZeros64 lies as it is laid.
-/
namespace Go.Proofs.YtlcmcmocjbeocaaGreatDoor
open Go.RowKit

theorem jmod_nat (x : Int) (n : Nat) (w : World) (hn : 1 ≤ n) (hn2 : n ≤ 2000000) : Calls Tryz.prog 20 #[.int .i64 x, .int .i64 n] w fun e w' => (∃ i : Nat, i < n ∧ e = .returned (.int .i64 (i : Int))) ∧ w = w' :=
  (mod_any x n w (by omega) (by omega)).mono fun e w' ⟨he, hw⟩ => ⟨⟨(x % n).toNat, by have := Int.emod_lt_of_pos x (show (0 : Int) < n by omega); have := Int.emod_nonneg x (show (n : Int) ≠ 0 by omega); omega, by
    rw [he, Int.toNat_of_nonneg (Int.emod_nonneg x (by omega))]⟩, hw⟩
theorem jxor_byte (z y : Int) (z0 : 0 ≤ z) (z1 : z ≤ 255) (y0 : 0 ≤ y) (y1 : y ≤ 255) : 0 ≤ bits BinOp.xor IntKind.u8 z y ∧ bits BinOp.xor IntKind.u8 z y ≤ 255 ∧ (y ≠ 0 → bits BinOp.xor IntKind.u8 z y ≠ z) := by
  obtain ⟨a, rfl⟩ := Int.eq_ofNat_of_zero_le z0
  obtain ⟨b, rfl⟩ := Int.eq_ofNat_of_zero_le y0
  rw [u8_xor_nat a b (by omega) (by omega)]
  have hx : a ^^^ b < 2 ^ 8 := Nat.xor_lt_two_pow (by omega) (by omega)
  refine ⟨by omega, by omega, fun hne h => ?_⟩
  have h1 : a ^^^ b = a ^^^ 0 := by rw [Nat.xor_zero]; omega
  have := xor_inj' h1
  omega
def awT : Tg := [⟨0, 0, [⟨23, 0, 0, 0, 0⟩]⟩]
theorem awT_len : (encJ 16 0 awT).length = 15 := by
  rw [encJ_len]
  have e1 : lenv 4 = 1 := lenv_small (by omega)
  have e2 : lenv 0 = 1 := lenv_small (by omega)
  have e3 : lenv 1 = 1 := lenv_small (by omega)
  have e4 : expo 16 = 4 := expo_pow 4
  have e5 : (minsY ⟨23, 0, 0, 0, 0⟩).length = 1 := rfl
  simp only [tgY, awT, List.length_append, digsI_length, e4, frY, List.flatMap_cons, List.flatMap_nil, List.length_cons, List.length_nil, e5]
  rw [show ((0 : Int)).toNat = 0 from rfl, show ((0 : Int) / 16).toNat = 0 from rfl, e1, e2, e3]
  rfl
theorem awT_e : encJE 16 0 awT = 0 := by
  unfold encJE
  rw [if_neg (by decide), if_neg (by decide), if_neg (by rw [awT_len]; omega)]
theorem awT_i : ImmT awT := by
  intro f hf x hx
  simp [awT] at hf
  subst hf
  simp at hx
  subst hx
  exact ⟨Int.le_refl _, show (0 : Int) ≤ 18446744073709551615 by decide⟩

set_option maxRecDepth 100000 in
set_option maxHeartbeats 4000000 in
theorem awake11_any (w : World) (hTab : Hid (Tab w)) : Calls Tryz.prog 16 #[] w fun e w' => e = .returned (.bool true) ∧ Below w.heap.size w w' := by
  obtain ⟨W, hW⟩ : ∃ W, (w.alloc (.cells #[.int .i64 23, .int .i64 0, .int .i64 0, .int .i64 0, .int .u64 0] 64)).alloc (.cells #[.int .i64 0, .int .i64 0, .slice (some ⟨w.heap.size, 0, none⟩) 1 1] 90) = W := ⟨_, rfl⟩
  have HW := hide hW
  have hb := hide (show Below w.heap.size w W by rw [← hW]; exact below2 w _ _)
  have r0 := hide (show Row W w.heap.size 64 (icells [⟨23, 0, 0, 0, 0⟩]) by rw [← hW]; exact (Row.new w _ (icells [⟨23, 0, 0, 0, 0⟩])).alloc _)
  have r1 := hide (show Row W (w.heap.size + 1) 90 (fdcells [⟨0, 0, some ⟨w.heap.size, 0, none⟩, 1, 1⟩]) by rw [← hW]; exact (Row.new _ 90 [.int .i64 0, .int .i64 0, .slice (some ⟨w.heap.size, 0, none⟩) 1 1]).at_ (by simp))
  have HT := hide (show TgAt W 0 W.heap.size (some ⟨w.heap.size + 1, 0, none⟩) 1 1 [⟨0, 0, some ⟨w.heap.size, 0, none⟩, 1, 1⟩] awT from
    ⟨rfl, ⟨(fun e => by cases e), Nat.le_refl _, by omega⟩, Far.zero _, fun k u hu => ⟨w.heap.size + 1, 0, rfl, r1.out.lt, by rw [Nat.zero_add]; exact r1.out.cell hu⟩, ⟨rfl, fun j h f h1 h2 => by
      rcases j with _ | j
      · injection h1 with h1
        injection h2 with h2
        subst h1
        subst h2
        exact ⟨rfl, rfl, rfl, ⟨(fun e => by cases e), Nat.le_refl _, show (1 : Nat) ≤ 8796093022208 by omega⟩, Far.zero _, fun k u hu => ⟨w.heap.size, 0, rfl, r0.out.lt, by rw [Nat.zero_add]; exact r0.out.cell hu⟩⟩
      · simp at h1⟩⟩)
  have cc := jencode_any 16 0 (some ⟨w.heap.size + 1, 0, none⟩) 1 1 _ awT 0 W HT (hide awT_i) (hide (hTab.out.below hb.out))
  unfold JcPost at cc
  rw [awT_e] at cc
  clear hW
  go_enter Tryz.func16, Tryz.ntmps16
  go_wp2_with fail
  rw [HW.out]
  refine cc.mono ?_
  rintro e w2 ⟨A, n, c, rfl, h0, -, hb2⟩
  have hn : n = 15 := by rw [(h0 trivial).1, awT_len]
  subst hn
  have HB := hide (hb.out.trans (hb2.mono hb.out.size))
  clear h0 hb2 cc r0 r1 HW hb
  go_wp2_with fail
  go_ret
  exact ⟨rfl, HB.out⟩

end Go.Proofs.YtlcmcmocjbeocaaGreatDoor
end
