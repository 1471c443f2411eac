import Derived.Test.YtipjeihfhnilcaaMKmem
import Derived.Deep.DeepCutAuto
import Derived.Deep.QuietTactic
import Derived.BigQuiet
set_option linter.unusedVariables false
set_option linter.unusedSimpArgs false
section
/-
  The contract of the reference's Same at two stacks that hold the same: it returns true. Conditions: those of the types; the stack is one for which Check is true.
-/
namespace Go.Proofs.Ytipjeihfhnilcaa
open Go.RowKit

set_option maxRecDepth 100000 in
set_option maxHeartbeats 2000000 in
theorem rsame_stk {A1 A2 D1 D2 : Option Addr} {c1 c2 d1 d2 : Nat} {S : Sk} (w : World) (hS : Hid (StkAt w w.heap.size A1 c1 A2 c2 S)) (hT : Hid (StkAt w w.heap.size D1 d1 D2 d2 S)) :
    Calls Try.prog 21 #[sv A1 c1 A2 c2 S, sv D1 d1 D2 d2 S] w fun e w' => e = .returned (.bool true) ∧ Below w.heap.size w w' := by
  have hmost := hS.out.ok.most
  have hl := hide hS.out.ok.len
  obtain ⟨W0, hW0⟩ : ∃ W, (w.alloc (.cells #[.slice A1 S.bs.length c1, .slice A2 S.bs.length c2, .int .i64 (S.sp : Int)] 29)).alloc (.cells #[.slice D1 S.bs.length d1, .slice D2 S.bs.length d2, .int .i64 (S.sp : Int)] 29) = W := ⟨_, rfl⟩
  have HW0 := hide hW0
  have RX := hide (show Row W0 w.heap.size 29 [.slice A1 S.bs.length c1, .slice A2 S.bs.length c2, .int .i64 (S.sp : Int)] by rw [← hW0]; exact (Row.new w _ _).alloc _)
  have RY := hide (show Row W0 (w.heap.size + 1) 29 [.slice D1 S.bs.length d1, .slice D2 S.bs.length d2, .int .i64 (S.sp : Int)] by rw [← hW0]; exact (Row.new _ _ _).at_ (by simp))
  have B0 := hide (show Below w.heap.size w W0 by rw [← hW0]; exact below2 w _ _)
  have hS0 := hide (hS.out.below B0.out)
  have hT0 := hide (hT.out.below B0.out)
  clear hW0
  have fX0 := RX.out.cell (k := 0) rfl
  have fX1 := RX.out.cell (k := 1) rfl
  have fX2 := RX.out.cell (k := 2) rfl
  have fY0 := RY.out.cell (k := 0) rfl
  have fY1 := RY.out.cell (k := 1) rfl
  have fY2 := RY.out.cell (k := 2) rfl
  go_enter Try.func21, Try.ntmps21
  go_upto_region 1 with (fail)
  rw [HW0.out]
  go_wp2_with fail
  go_loopw [5] (fun i wr => ∃ k : Nat, k ≤ S.bs.length ∧ i = .int .i64 k ∧ ∃ m, wr = W0.drewN m) (fun i _ => S.bs.length - (intOf i).toNat)
  case atStart => exact ⟨0, Nat.zero_le _, rfl, 0, rfl⟩
  case round =>
    obtain ⟨k, hk, rfl, m, rfl⟩ := hrel
    by_cases hlt : k < S.bs.length
    · obtain ⟨b, off, rfl, _, hc⟩ := hS0.out.s1 k _ (get_u8 hlt)
      obtain ⟨b', off', rfl, _, hc'⟩ := hT0.out.s1 k _ (get_u8 hlt)
      go_wp2
      go_quiet (fail)
      go_wp2
      go_roundw
      case rel => exact ⟨k + 1, by omega, by go_num, _, rfl⟩
      case measure => simp [intOf]; omega
    · go_wp2_with fail
      go_loopw [6] (fun i wr => ∃ k : Nat, k ≤ S.bs.length ∧ i = .int .i64 k ∧ ∃ m, wr = W0.drewN m) (fun i _ => S.bs.length - (intOf i).toNat)
      case atStart => exact ⟨0, Nat.zero_le _, rfl, m, rfl⟩
      case round =>
        obtain ⟨k, hk, rfl, m, rfl⟩ := hrel
        by_cases hlt : k < S.bs.length
        · obtain ⟨u, hu⟩ : ∃ u, S.us[k]? = some u := ⟨_, List.getElem?_eq_getElem (show k < S.us.length by have := hl.out; omega)⟩
          obtain ⟨b, off, rfl, _, hc⟩ := hS0.out.s2 k _ (cellsB_at hu)
          obtain ⟨b', off', rfl, _, hc'⟩ := hT0.out.s2 k _ (cellsB_at hu)
          clear hu
          go_wp2
          go_quiet (fail)
          go_wp2
          go_roundw
          case rel => exact ⟨k + 1, by omega, by go_num, _, rfl⟩
          case measure => simp [intOf]; omega
        · go_wp2_with fail
          go_ret
          exact ⟨rfl, below_draws B0.out m⟩
end Go.Proofs.Ytipjeihfhnilcaa
end
