import Derived.Test.YtipjeihfhnilcaaMLsam
import Derived.Test.YtipjeihfhnilcaaMFrows
import Derived.Deep.DeepCutAuto
import Derived.Deep.QuietTactic
import Derived.BigQuiet
set_option linter.unusedVariables false
set_option linter.unusedSimpArgs false
section
/-
  The contract of the reference's SameAll at lists of the same numbers; and what FlowNext and FlowNextIsBefore use of it. Conditions: those of the types.
-/
namespace Go.Proofs.Ytipjeihfhnilcaa
open Go.RowKit

set_option maxRecDepth 100000 in
set_option maxHeartbeats 1000000 in
theorem sameall_any (g1 g2 base1 base2 n : Nat) (vs us : List Value) (zss : List (List Nat)) (w : World) (h : Hid (LLs w base1 g1 vs zss)) (h' : Hid (LLs w base2 g2 us zss)) (hn : Hid (zss.length = n)) (hm : n ≤ 1048576) :
    Calls Try.prog 27 #[.slice (some ⟨g1, 0, none⟩) n n, .slice (some ⟨g2, 0, none⟩) n n] w fun e w' => e = .returned (.bool true) ∧ Below w.heap.size w w' := by
  go_enter Try.func27, Try.ntmps27
  go_wp2_with fail
  go_loopw [5] (fun s wr => ∃ k : Nat, k ≤ n ∧ s = .int .i64 (k : Int) ∧ Hid (Below w.heap.size w wr)) (fun s _ => n - (intOf s).toNat)
  case atStart => exact ⟨0, by omega, rfl, hide (Below.refl _ _)⟩
  case round =>
    obtain ⟨k, hk, rfl, hbr⟩ := hrel
    by_cases hlt : k < n
    · obtain ⟨A, m, c, -, x0, hm1, hl1, -⟩ := (h.out.below hbr.out).at_ (i := k) (by have := hn.out; omega)
      obtain ⟨A', m', c', -, y0, hm2, hl2, -⟩ := (h'.out.below hbr.out).at_ (i := k) (by have := hn.out; omega)
      obtain rfl : m = m' := by omega
      generalize toI (zss[k]'(by have := hn.out; omega)) = xs at hl1 hl2
      clear hm1 hm2
      have q0 : ∀ p : After wr, p.w.cell? ⟨g1, k, none⟩ = some (.slice A m c) := fun p => after_cell x0 p
      have q1 : ∀ p : After wr, p.w.cell? ⟨g2, k, none⟩ = some (.slice A' m c') := fun p => after_cell y0 p
      have cA : ∀ p : After wr, Calls Try.prog 24 #[.slice A m c, .slice A' m c'] p.w (fun e w' => e = .returned (.bool true) ∧ Below p.w.heap.size p.w w') := fun p => (lsame_any A m c xs A' m c' xs p.w (hide (hl1.below p.b)) (hide (hl2.below p.b))).mono fun e w' q => by
        unfold BoolPost at q
        obtain ⟨he, j, rfl⟩ := q
        rw [decide_eq_true rfl] at he
        exact ⟨he, below_draws (Below.refl _ _) _⟩
      have C1 := hide cA
      have hk0 : (0 : Int) ≤ (k : Int) := by omega
      have hkn : (k : Int) < (n : Int) := by omega
      clear cA x0 y0 hl1 hl2
      go_upto_region 6 with (fail)
      refine wp_region_after (by kernel_rfl) (by kernel_rfl) ?_
      repeat (go_big_quiet_step (first | (go_at_call 24; with_reducible exact after_of (C1.out _))))
      refine wpQuiet_nil ?_
      intro _ hw'
      obtain ⟨p1, hw''⟩ := hw'
      subst hw''
      have HB := hide (below_call hbr.out p1.b)
      clear q0 q1 C1
      go_wp2_with fail
      go_roundw
      case rel => exact ⟨k + 1, by omega, by go_num, HB⟩
      case measure => simp [intOf]; omega
    · obtain rfl : k = n := by omega
      go_wp2_with fail
      go_ret
      exact ⟨rfl, hbr.out⟩
end Go.Proofs.Ytipjeihfhnilcaa
end
