import Derived.Test.YthaabgiefpfeaaaDoorMOwn
import Derived.Test.YthaabgiefpfeaaaDoorMBlists
import Derived.Test.YthaabgiefpfeaaaDoorMBones
import Derived.Shelf.Spec.TrailingZeros
import Derived.Lib.BitFns
set_option linter.unusedVariables false
set_option linter.unusedSimpArgs false
section
/-
  The contract of math/bits.TrailingZeros64. Conditions: those of the types; it reads its table, which must lie as its initialiser lays it.
-/
namespace Go.Proofs.YthaabgiefpfeaaaDoor
open Go.RowKit

/-- The table of TrailingZeros64 lies in its variable. -/
def Tab (w : World) : Prop := TabAt 0 Lib.deBruijn64tab w
theorem Tab.pos {w : World} (h : Tab w) : 0 < w.heap.size := World.block_lt_of_cell? _ _ (h 0 (by decide))
theorem Tab.below {w w' : World} (h : Tab w) (hb : Below w.heap.size w w') : Tab w' := fun j hj => keep_cellB hb (h j hj)
theorem Tab.kept {B : Nat} {w w' : World} (h : Tab w) (hb : Below B w w') (hB : 0 < B) : Tab w' := fun j hj => (hb.cell (p := ⟨0, j, none⟩) hB).trans (h j hj)

set_option maxHeartbeats 400000 in
theorem tz_core (x k idx : Nat) (w : World) (hx1 : ((x : Int) == 0) = false)
    (key : IntKind.u64.wrap (bits BinOp.and IntKind.u64 (x : Int) (IntKind.u64.wrap (-(x : Int))) * 285870213051353865) / 288230376151711744 = (idx : Int))
    (hi : idx < 64) (hk : k < 64) (hcell : w.cell? ⟨0, idx, none⟩ = some (.int .u8 k)) :
    Calls Tryd.prog 38 #[.int .u64 x] w fun e w' => e = .returned (.int .i64 k) ∧ w = w' := by
  go_enter Tryd.func38, Tryd.ntmps38
  go_wp2_with (simp only [key])
  go_ret
  exact ⟨rfl, rfl⟩
theorem tz_any (x : Nat) (w : World) (hx : x < 18446744073709551616) (hx0 : x ≠ 0) (hT : Hid (Tab w)) : Calls Tryd.prog 38 #[.int .u64 x] w fun e w' => e = .returned (.int .i64 (Lib.ctz 64 x : Nat)) ∧ w = w' := by
  obtain ⟨hlow, hk⟩ := Lib.lowest_bit 64 x hx0 hx
  obtain ⟨hi, htab⟩ := Lib.deBruijn64_at _ hk
  have hcell := hT.out _ hi
  rw [htab] at hcell
  exact tz_core x _ _ w (by simp; omega) (tz64_key x _ hx hx0 hlow) hi hk hcell
end Go.Proofs.YthaabgiefpfeaaaDoor
end

section
/-
  The contracts of bitset.place, math/bits.OnesCount64 and TrailingZeros64, the reference's good, spillframedraw.Mod. Conditions: those of the types; TrailingZeros64 reads its table, which must lie as its initialiser lays it.
-/
namespace Go.Proofs.YthaabgiefpfeaaaDoor
open Go.RowKit
theorem rt_bool {a b : Bool} (h : a = b) : Ending.returned (.bool a) = .returned (.bool b) := by rw [h]

theorem place_any (n : Int) (w : World) (h0 : -9223372036854775808 ≤ n) (h1 : n ≤ 9223372036854775807) : Calls Tryd.prog 36 #[.int .i64 n] w fun e w' => e = .returned (.tuple #[.int .i64 (pl n : Nat), .int .u64 (bt n : Nat)]) ∧ w = w' := by
  by_cases hn : 0 ≤ n
  · by_cases hm : n < 512
    · have hp : ((pl n : Nat) : Int) = n / 64 := by unfold pl; rw [if_pos ⟨hn, hm⟩]; omega
      have hb : IntKind.u64.wrap (2 ^ (n % 64).toNat) = ((bt n : Nat) : Int) := by
        have hlt := bt_lt n
        have e : ((bt n : Nat) : Int) = 2 ^ (n % 64).toNat := by
          unfold bt
          rw [if_pos ⟨hn, hm⟩, Int.natCast_pow, show (n % 64).toNat = n.toNat % 64 by omega]
          rfl
        rw [← e, IntKind.wrap_u64]
        omega
      have HP := hide hp
      clear hp
      go_enter Tryd.func36, Tryd.ntmps36
      go_wp2_with fail
      go_ret2
      exact ⟨by rw [HP.out]; rfl, rfl⟩
    · have hp := hide (show pl n = 0 by unfold pl; rw [if_neg (by omega)])
      have hb := hide (show bt n = 0 by unfold bt; rw [if_neg (by omega)])
      go_enter Tryd.func36, Tryd.ntmps36
      go_wp2_with fail
      go_ret2
      exact ⟨by rw [hp.out, hb.out]; rfl, rfl⟩
  · have hp := hide (show pl n = 0 by unfold pl; rw [if_neg (by omega)])
    have hb := hide (show bt n = 0 by unfold bt; rw [if_neg (by omega)])
    obtain ⟨q, hq⟩ : ∃ q, IntKind.u64.wrap n = q := ⟨_, rfl⟩
    have q0 : 512 ≤ q := by rw [← hq, IntKind.wrap_u64]; omega
    have q1 : q ≤ 18446744073709551615 := by rw [← hq, IntKind.wrap_u64]; omega
    go_enter Tryd.func36, Tryd.ntmps36
    go_wp2_with fail
    go_ret2
    exact ⟨by rw [hp.out, hb.out]; rfl, rfl⟩

set_option maxHeartbeats 400000 in
theorem ones_any (x : Nat) (w : World) (hx : x < 18446744073709551616) : Calls Tryd.prog 39 #[.int .u64 x] w fun e w' => e = .returned (.int .i64 (ones x : Nat)) ∧ w = w' := by
  have m0 : rep 85 8 = 6148914691236517205 := by decide
  have m1 : rep 51 8 = 3689348814741910323 := by decide
  have m2 : rep 15 8 = 1085102592571150095 := by decide
  obtain ⟨p1, e1, l1⟩ : ∃ p, p = (x / 2) &&& rep 85 8 ∧ p ≤ rep 85 8 := ⟨_, rfl, Nat.and_le_right⟩
  obtain ⟨p2, e2, l2⟩ : ∃ p, p = x &&& rep 85 8 ∧ p ≤ rep 85 8 := ⟨_, rfl, Nat.and_le_right⟩
  obtain ⟨q1, e3, l3⟩ : ∃ p, p = ((p1 + p2) / 4) &&& rep 51 8 ∧ p ≤ rep 51 8 := ⟨_, rfl, Nat.and_le_right⟩
  obtain ⟨q2, e4, l4⟩ : ∃ p, p = (p1 + p2) &&& rep 51 8 ∧ p ≤ rep 51 8 := ⟨_, rfl, Nat.and_le_right⟩
  obtain ⟨r, e5, l5⟩ : ∃ p, p = ((q1 + q2) / 16 + (q1 + q2)) &&& rep 15 8 ∧ p ≤ rep 15 8 := ⟨_, rfl, Nat.and_le_right⟩
  have hone : ones x = o4 r := by
    unfold ones o123 o3 o2 o1
    rw [e5, e3, e4, e1, e2]
  rw [m0] at e1 e2 l1 l2
  rw [m1] at e3 e4 l3 l4
  rw [m2] at e5 l5
  have k1 : bits BinOp.and IntKind.u64 ((x : Int) / 2) 6148914691236517205 = (p1 : Int) := by
    rw [e1]; exact bits_and_u64_nat (x / 2) 6148914691236517205 (by omega) (by omega)
  have k2 : bits BinOp.and IntKind.u64 (x : Int) 6148914691236517205 = (p2 : Int) := by
    rw [e2]; exact bits_and_u64_nat x 6148914691236517205 (by omega) (by omega)
  have k3 : bits BinOp.and IntKind.u64 (((p1 : Int) + (p2 : Int)) / 4) 3689348814741910323 = (q1 : Int) := by
    rw [e3]; exact bits_and_u64_nat ((p1 + p2) / 4) 3689348814741910323 (by omega) (by omega)
  have k4 : bits BinOp.and IntKind.u64 ((p1 : Int) + (p2 : Int)) 3689348814741910323 = (q2 : Int) := by
    rw [e4]; exact bits_and_u64_nat (p1 + p2) 3689348814741910323 (by omega) (by omega)
  have k5 : bits BinOp.and IntKind.u64 (((q1 : Int) + (q2 : Int)) / 16 + ((q1 : Int) + (q2 : Int))) 1085102592571150095 = (r : Int) := by
    rw [e5]; exact bits_and_u64_nat ((q1 + q2) / 16 + (q1 + q2)) 1085102592571150095 (by omega) (by omega)
  have k6 : bits BinOp.and IntKind.i64 ((r : Int) + (r : Int) / 256 + ((r : Int) + (r : Int) / 256) / 65536 + ((r : Int) + (r : Int) / 256 + ((r : Int) + (r : Int) / 256) / 65536) / 4294967296) 127 = ((o4 r : Nat) : Int) :=
    and_127 ((r + r / 256) + (r + r / 256) / 65536 + ((r + r / 256) + (r + r / 256) / 65536) / 4294967296) (by omega)
  have HO := hide hone
  clear e1 e2 e3 e4 e5 m0 m1 m2 hone
  go_enter Tryd.func39, Tryd.ntmps39
  go_wp2_with fail
  go_ret
  exact ⟨by rw [HO.out]; rfl, rfl⟩
end Go.Proofs.YthaabgiefpfeaaaDoor
end
