import Derived.Test.YtafegghdhdgioaaMKit
import Derived.Deep.QuietTactic
import Derived.BigQuiet
set_option linter.unusedVariables false
set_option linter.unusedSimpArgs false
section
/-
  The contract of spillframeref01.SameBytes at two slices that hold the same bytes: it returns true and only reads. Condition: fewer than 2^62 bytes.
-/
namespace Go.Proofs.Ytafegghdhdgioaa
open Go.RowKit

set_option maxHeartbeats 400000 in
theorem same_any (A A' : Option Addr) (n c n' c' : Nat) (zs : List Int) (B : Nat) (w : World) (hn : Hid (zs.length = n)) (hn' : Hid (n' = n)) (hm : n ≤ 4611686018427387904)
    (h : Sees w B A (cellsU8 zs)) (h' : Sees w B A' (cellsU8 zs)) :
    Calls Try.prog 25 #[.slice A n c, .slice A' n' c'] w fun e w' => e = .returned (.bool true) ∧ ∃ k, w' = w.drewN k := by
  obtain rfl := hn'.out
  clear hn'
  go_enter Try.func25, Try.ntmps25
  go_wp2
  go_loopw [5] (fun i wr => ∃ k : Nat, k ≤ n' ∧ i = .int .i64 k ∧ ∃ m, wr = w.drewN m) (fun i _ => n' - (intOf i).toNat)
  case atStart => exact ⟨0, Nat.zero_le _, rfl, 0, rfl⟩
  case round =>
    obtain ⟨k, hk, rfl, m, rfl⟩ := hrel
    by_cases hlt : k < n'
    · obtain ⟨b, off, rfl, _, hc⟩ := h k _ (get_u8 (by have := hn.out; omega))
      obtain ⟨b', off', rfl, _, hc'⟩ := h' k _ (get_u8 (by have := hn.out; omega))
      clear h h'
      go_wp2
      go_quiet (fail)
      go_wp2
      go_roundw
      case rel => exact ⟨k + 1, by omega, by go_num, _, rfl⟩
      case measure => simp [intOf]; omega
    · clear h h'
      go_wp2
      go_ret
      exact ⟨rfl, m, rfl⟩
end Go.Proofs.Ytafegghdhdgioaa
end
