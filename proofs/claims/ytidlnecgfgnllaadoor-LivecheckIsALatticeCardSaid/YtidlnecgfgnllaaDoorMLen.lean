import Derived.Test.YtidlnecgfgnllaaDoorMKit
import Derived.Test.YtidlnecgfgnllaaDoorMDigits
import Derived.Lib.BitFns
import Derived.Lib.Walk
import Derived.Lib.Small
set_option linter.unusedVariables false
set_option linter.unusedSimpArgs false
section
/-
  The contracts of math/bits.Len64, varint.Len and spillframeref01.Len: the number of bits of x, the number of digits in base 128 of v. For every value of uint64.
-/
namespace Go.Proofs.YtidlnecgfgnllaaDoor
open Go.RowKit

def SomeBits (x : Nat) (w : World) (e : Ending) (w' : World) : Prop := ∃ L : Nat, e = .returned (.int .i64 L) ∧ Bits x L ∧ L ≤ 64 ∧ w = w'

theorem tab_all : ∀ n : Fin 256, (Lib.len8tab[n.val]'(by rw [Lib.len8tab_size]; exact n.isLt)).toNat = bitsOfByte n.val := by decide +kernel

/-- The table's byte at y = x / 2^s, added to s, is the number of bits of x. -/
theorem close_bits (x y t : Int) (s : Nat) (w : World) (h0 : 0 ≤ y) (h1 : y < 256) (hb : y.toNat < Lib.len8tab.size) (hy : y.toNat = x.toNat / 2 ^ s) (hs : s = 0 ∨ 1 ≤ y) (hs2 : s ≤ 56)
    (ht : t = wrap64 (s + wrap64 (Lib.len8tab[y.toNat].toNat : Int))) : SomeBits x.toNat w (.returned (.int .i64 t)) w := by
  have h := tab_all ⟨y.toNat, by omega⟩
  simp only at h
  rw [h] at ht
  have hB := bits_of_byte y.toNat (by omega)
  have h8 : bitsOfByte y.toNat ≤ 8 := by unfold bitsOfByte; repeat' split
                                         all_goals omega
  refine ⟨s + bitsOfByte y.toNat, ?_, ?_, by omega, rfl⟩
  · rw [ht]
    have e1 : wrap64 (bitsOfByte y.toNat : Int) = bitsOfByte y.toNat := IntWalk.wrap64_in _ ⟨by omega, by omega⟩
    rw [e1, IntWalk.wrap64_in _ ⟨by omega, by omega⟩]
    rfl
  · rcases hs with hs | hs
    · subst hs
      simpa [hy] using hB
    · rw [hy] at hB ⊢
      exact bits_shift _ _ _ (bits_pos _ _ (by omega) hB) hB

set_option maxRecDepth 100000 in
set_option maxHeartbeats 4000000 in
theorem len64_any (x : Int) (w : World) (h0 : 0 ≤ x) (hx : x ≤ 18446744073709551615) : Calls Tryd.prog 97 #[.int .u64 x] w (SomeBits x.toNat w) := by
  have hsz := Lib.len8tab_size
  go_enter Tryd.func97, Tryd.ntmps97
  go_wp2
  all_goals go_ret
  all_goals first
    | exact close_bits x (x / 4294967296 / 65536 / 256) _ 56 w (by omega) (by omega) (by omega) (by omega) (by omega) (by omega) rfl
    | exact close_bits x (x / 4294967296 / 65536) _ 48 w (by omega) (by omega) (by omega) (by omega) (by omega) (by omega) rfl
    | exact close_bits x (x / 4294967296 / 256) _ 40 w (by omega) (by omega) (by omega) (by omega) (by omega) (by omega) rfl
    | exact close_bits x (x / 4294967296) _ 32 w (by omega) (by omega) (by omega) (by omega) (by omega) (by omega) rfl
    | exact close_bits x (x / 65536 / 256) _ 24 w (by omega) (by omega) (by omega) (by omega) (by omega) (by omega) rfl
    | exact close_bits x (x / 65536) _ 16 w (by omega) (by omega) (by omega) (by omega) (by omega) (by omega) rfl
    | exact close_bits x (x / 256) _ 8 w (by omega) (by omega) (by omega) (by omega) (by omega) (by omega) rfl
    | exact close_bits x x _ 0 w (by omega) (by omega) (by omega) (by omega) (by omega) (by omega) (by simp)
    | trace_state
end Go.Proofs.YtidlnecgfgnllaaDoor
end
