import Derived.Test.YthaabgiefpfeaaaMPmem
import Derived.Test.YthaabgiefpfeaaaMBlists
import Derived.Deep.QuietTactic
import Derived.BigQuiet
set_option linter.unusedVariables false
set_option linter.unusedSimpArgs false
section
/-
  The contract of spillframeref04.Same: whether two lists of ints are one; it only reads. Conditions: those of the types.
-/
namespace Go.Proofs.Ythaabgiefpfeaaa
open Go.RowKit

/-- A way to the end that only drew. -/
def BoolPost (b : Bool) (w : World) (e : Ending) (w' : World) : Prop := e = .returned (.bool b) ∧ ∃ k, w' = w.drewN k
theorem take_ne {zs ys : List Int} {k : Nat} (h : k < zs.length) (h' : k < ys.length) (hne : zs[k] ≠ ys[k]) : decide (zs = ys) = false := by
  rw [decide_eq_false_iff_not]
  rintro rfl
  exact hne rfl

set_option maxHeartbeats 400000 in
theorem lsame_any (A : Option Addr) (n c : Nat) (zs : List Int) (A' : Option Addr) (n' c' : Nat) (ys : List Int) (w : World) (h : Hid (Lst w A n zs)) (h' : Hid (Lst w A' n' ys)) :
    Calls Try.prog 8 #[.slice A n c, .slice A' n' c'] w (BoolPost (decide (zs = ys)) w) := by
  have hl := h.out.le
  by_cases hnn : n = n'
  · subst hnn
    obtain ⟨b, hb⟩ : ∃ b, decide (zs = ys) = b := ⟨_, rfl⟩
    rw [hb]
    have HB := hide hb
    clear hb
    go_enter Try.func8, Try.ntmps8
    go_wp2_with fail
    go_loopw [5] (fun i wr => ∃ k : Nat, k ≤ n ∧ i = .int .i64 k ∧ Hid (zs.take k = ys.take k) ∧ ∃ m, wr = w.drewN m) (fun i _ => n - (intOf i).toNat)
    case atStart => exact ⟨0, by omega, rfl, hide rfl, 0, rfl⟩
    case round =>
      obtain ⟨k, hk, rfl, hT, m, rfl⟩ := hrel
      by_cases hlt : k < n
      · have l1 : k < zs.length := by have := h.out.len; omega
        have l2 : k < ys.length := by have := h'.out.len; omega
        obtain ⟨b1, o1, rfl, _, hc1⟩ := int_at h.out.see l1
        obtain ⟨b2, o2, rfl, _, hc2⟩ := int_at h'.out.see l2
        have N1 := hide (fun hne => take_ne l1 l2 hne)
        have N2 := hide (fun heq : zs[k] = ys[k] => (show zs.take (k + 1) = ys.take (k + 1) by rw [take_snoc l1, take_snoc l2, hT.out, heq]))
        generalize zs[k] = x at hc1 N1 N2
        generalize ys[k] = y at hc2 N1 N2
        clear l1 l2
        by_cases hxy : x = y
        · subst hxy
          have H2 := hide (N2.out rfl)
          clear N1 N2
          go_wp2_with fail
          go_quiet (fail)
          go_wp2_with fail
          go_roundw
          case rel => exact ⟨k + 1, by omega, by go_num, H2, _, rfl⟩
          case measure => simp [intOf]; omega
        · have hne : (x != y) = true := by rw [bne_iff_ne]; exact hxy
          have hB := hide (HB.out.symm.trans (N1.out hxy))
          clear N1 N2 hxy
          go_wp2_with fail
          go_quiet (fail)
          go_wp2_with fail
          go_ret
          exact ⟨by rw [hB.out]; rfl, _, World.drewN_drewN _ _ _⟩
      · obtain rfl : k = n := by omega
        have hB := hide (HB.out.symm.trans (decide_eq_true (by
          have := hT.out
          rwa [List.take_of_length_le (by have := h.out.len; omega), List.take_of_length_le (by have := h'.out.len; omega)] at this)))
        go_wp2_with fail
        go_ret
        exact ⟨by rw [hB.out]; rfl, _, rfl⟩
  · have hne : ((n : Int) != (n' : Int)) = true := by rw [bne_iff_ne]; omega
    have HB := hide (show decide (zs = ys) = false by
      rw [decide_eq_false_iff_not]
      rintro rfl
      exact hnn (h.out.len.symm.trans h'.out.len))
    rw [HB.out]
    clear hnn
    go_enter Try.func8, Try.ntmps8
    go_wp2_with fail
    go_ret
    exact ⟨rfl, 0, rfl⟩

end Go.Proofs.Ythaabgiefpfeaaa
end
