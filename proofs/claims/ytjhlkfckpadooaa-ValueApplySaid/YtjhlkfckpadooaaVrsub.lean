/-
  The contract of the reference's Sub. Conditions: those of the types.
-/
import Derived.Test.YtjhlkfckpadooaaVradd
import Derived.Test.YtjhlkfckpadooaaBitsm
namespace Go.Proofs.Ytjhlkfckpadooaa
open Go.RowKit

theorem not_lo (Y : Nat) (hY : Y < two128) : bits .xor .u64 18446744073709551615 (lo Y) = lo (two128 - 1 - Y) := by
  have h := lo_b Y
  have key : 18446744073709551615 - lo Y = lo (two128 - 1 - Y) := by
    unfold lo
    unfold two128 at *
    omega
  rw [not_u64 _ h.1 h.2, key]
theorem not_hi (Y : Nat) (hY : Y < two128) : bits .xor .u64 18446744073709551615 (hi Y) = hi (two128 - 1 - Y) := by
  have h := hi_b Y
  have key : 18446744073709551615 - hi Y = hi (two128 - 1 - Y) := by
    unfold hi
    unfold two128 at *
    omega
  rw [not_u64 _ h.1 h.2, key]
theorem sub_sum (X Y : Nat) (hX : X < two128) (hY : Y < two128) : ((X + (two128 - 1 - Y)) % two128 + 1) % two128 = (X + two128 - Y) % two128 := by
  unfold two128 at *; omega

set_option maxRecDepth 100000 in
set_option maxHeartbeats 1000000 in
theorem rsub_any (X Y : Nat) (w : World) (hX : X < two128) (hY : Y < two128) :
    Calls Try.prog 31 #[vv X, vv Y] w fun e w' => e = .returned (vv ((X + two128 - Y) % two128)) ∧ Below w.heap.size w w' := by
  obtain ⟨l0, l1⟩ := lo_b Y
  obtain ⟨h0, h1⟩ := hi_b Y
  have HL := hide (not_lo Y hY)
  have HH := hide (not_hi Y hY)
  obtain ⟨N, hN⟩ : ∃ N, N = two128 - 1 - Y := ⟨_, rfl⟩
  rw [← hN] at HL HH
  have hN1 : N < two128 := by unfold two128 at *; omega
  have HS := hide (sub_sum X Y hX hY)
  rw [← hN] at HS
  clear hN
  obtain ⟨V, hV⟩ : ∃ V, V = (X + two128 - Y) % two128 := ⟨_, rfl⟩
  rw [← hV] at HS ⊢
  clear hV
  have mx : IntKind.u64.max = 18446744073709551615 := by decide
  go_enter Try.func31, Try.ntmps31
  go_wp2_with fail
  all_goals first
    | (exfalso; revert ‹IntKind.u64.signed = true›; decide)
    | skip
  have HL' := HL.out
  have HH' := HH.out
  rw [HL', HH']
  clear HL HH HL' HH' mx
  refine (radd_any X N _ hX hN1).mono ?_
  rintro e w1 ⟨rfl, hb1⟩
  have bx := ((Box.new w X).alloc _).alloc _ |>.call hb1
  have by_ := ((Box.new _ Y).at_ (show _ = w.heap.size + 1 by simp)).alloc _ |>.call hb1
  have br := ((Box.new _ 0).at_ (show _ = w.heap.size + 1 + 1 by simp)).call hb1
  have hb := below_call (below3 w _ _ _) hb1
  clear hb1
  obtain ⟨S, hS⟩ : ∃ S, S = (X + N) % two128 := ⟨_, rfl⟩
  have hS1 : S < two128 := by rw [hS]; exact Nat.mod_lt _ two128_pos
  rw [← hS] at HS ⊢
  clear hS
  go_wp2_with fail
  refine (radd_any S 1 _ hS1 (by decide)).mono ?_
  rw [HS.out]
  rintro e w2 ⟨rfl, hb1⟩
  have bx := bx.call hb1
  have by_ := by_.call hb1
  have br := br.call hb1
  have hb := below_call hb hb1
  clear hb1
  obtain ⟨r0, r1, rz0, rz1⟩ := br.facts
  go_wp2_with fail
  clear r0 r1 rz0 rz1
  have bx := bx.far2 (g' := w.heap.size + 1 + 1) (by omega) (.int .u64 (lo (V))) (.int .u64 (hi (V)))
  have by_ := by_.far2 (g' := w.heap.size + 1 + 1) (by omega) (.int .u64 (lo (V))) (.int .u64 (hi (V)))
  have br := br.set_ (V)
  have hb := below_set (g := w.heap.size + 1 + 1) hb (by omega) (.int .u64 (lo (V))) (.int .u64 (hi (V)))
  obtain ⟨W1, hW1⟩ : ∃ W, W = (w2.setCell ⟨w.heap.size + 1 + 1, 0, none⟩ (.int .u64 (lo (V)))).setCell ⟨w.heap.size + 1 + 1, 1, none⟩ (.int .u64 (hi (V))) := ⟨_, rfl⟩
  rw [← hW1] at bx by_ br hb ⊢
  clear hW1
  obtain ⟨r0, r1, rz0, rz1⟩ := br.facts
  exact bodyPost_ret (v := vv V) (by simp [results, Try.results31, go_sem, r0, r1]) rfl ⟨rfl, hb⟩
end Go.Proofs.Ytjhlkfckpadooaa
