import Derived.Test.YtlkcjjalkdlicaaDoorMQcor
import Derived.Test.YtlkcjjalkdlicaaDoorMRct
import Derived.Deep.RegionHeld3
import Derived.Deep.DrawnRows
set_option linter.unusedVariables false
set_option linter.unusedSimpArgs false
section
/-
  The contract of the reference's SameCode: whether two lists of instructions are equal. Conditions: those of the types.
-/
namespace Go.Proofs.YtlkcjjalkdlicaaDoor
open Go.RowKit

set_option maxHeartbeats 800000 in
theorem rsamecode_any (A : Option Addr) (n c : Nat) (zs : List Ins) (A' : Option Addr) (n' c' : Nat) (ys : List Ins) (B B' : Nat) (w : World) (hn : Hid (zs.length = n)) (hn' : Hid (ys.length = n')) (hm : n ≤ 4611686018427387904) (h : Hid (Sees w B A (icells zs))) (h' : Hid (Sees w B' A' (icells ys))) :
    Calls Tryd.prog 45 #[.slice A n c, .slice A' n' c'] w (BoolDrew (decide (zs = ys)) w) := by
  by_cases hnn : n = n'
  · subst hnn
    obtain ⟨b, hb⟩ : ∃ b, decide (zs = ys) = b := ⟨_, rfl⟩
    rw [hb]
    have HB := hide hb
    clear hb
    go_enter Tryd.func45, Tryd.ntmps45
    go_wp2_with fail
    go_loopw [5] (fun i wr => ∃ k : Nat, k ≤ n ∧ i = .int .i64 k ∧ Hid (zs.take k = ys.take k) ∧ ∃ m, wr = w.drewN m) (fun i _ => n - (intOf i).toNat)
    case atStart => exact ⟨0, by omega, rfl, hide rfl, 0, rfl⟩
    case round =>
      obtain ⟨k, hk, rfl, hT, m, rfl⟩ := hrel
      by_cases hlt : k < n
      · have l1 : k < zs.length := by have := hn.out; omega
        have l2 : k < ys.length := by have := hn'.out; omega
        obtain ⟨b1, o1, rfl, _, p0, p1, p2, p3, p4⟩ := ins_at h.out l1
        obtain ⟨b2, o2, rfl, _, q0, q1, q2, q3, q4⟩ := ins_at h'.out l2
        have N1 := hide (fun hne => ne_take l1 l2 hne)
        have N2 := hide (fun heq : zs[k] = ys[k] => (show zs.take (k + 1) = ys.take (k + 1) by rw [snoc_take l1, snoc_take l2, hT.out, heq]))
        obtain ⟨x, hx⟩ : ∃ x, zs[k] = x := ⟨_, rfl⟩
        obtain ⟨y, hy⟩ : ∃ y, ys[k] = y := ⟨_, rfl⟩
        rw [hx] at p0 p1 p2 p3 p4 N1 N2
        rw [hy] at q0 q1 q2 q3 q4 N1 N2
        clear hx hy
        obtain ⟨x0, x1, x2, x3, x4⟩ := x
        obtain ⟨y0, y1, y2, y3, y4⟩ := y
        simp only at p0 p1 p2 p3 p4 q0 q1 q2 q3 q4
        have hkz : (0 : Int) ≤ (k : Int) := by omega
        have hkz' : (k : Int) < (n : Int) := by omega
        clear l1 l2
        by_cases hxy : x0 = y0 ∧ x1 = y1 ∧ x2 = y2 ∧ x3 = y3 ∧ x4 = y4
        · have hne : ∀ w, (binOp .neq 65 (iv x0 x1 x2 x3 x4) (iv y0 y1 y2 y3 y4)).run Tryd.prog w = .ok (.bool false) w := fun w => by rw [run_ne_instr]; simp [hxy]
          have H2 := hide (N2.out (by obtain ⟨rfl, rfl, rfl, rfl, rfl⟩ := hxy; rfl))
          clear N1 N2 hxy
          go_wp2_with fail
          go_quiet (fail)
          go_wp2_with fail
          go_roundw
          case rel => exact ⟨k + 1, by omega, by go_num, H2, _, rfl⟩
          case measure => simp [intOf]; omega
        · have hne : ∀ w, (binOp .neq 65 (iv x0 x1 x2 x3 x4) (iv y0 y1 y2 y3 y4)).run Tryd.prog w = .ok (.bool true) w := fun w => by
            rw [run_ne_instr]
            congr 2
            rw [Bool.not_eq_true', ← Bool.not_eq_true]
            simpa using hxy
          have hB := hide (HB.out.symm.trans (decide_eq_false (N1.out (fun e => hxy (by injection e with e0 e1 e2 e3 e4; exact ⟨e0, e1, e2, e3, e4⟩)))))
          clear N1 N2 hxy
          go_wp2_with fail
          go_quiet (fail)
          go_wp2_with fail
          go_ret
          exact ⟨by rw [hB.out]; rfl, _, World.drewN_drewN _ _ _⟩
      · obtain rfl : k = n := by omega
        have hB := hide (HB.out.symm.trans (decide_eq_true (by
          have := hT.out
          rwa [List.take_of_length_le (by have := hn.out; omega), List.take_of_length_le (by have := hn'.out; omega)] at this)))
        go_wp2_with fail
        go_ret
        exact ⟨by rw [hB.out]; rfl, _, rfl⟩
  · have hne : ((n : Int) != (n' : Int)) = true := by rw [bne_iff_ne]; omega
    have HB := hide (show decide (zs = ys) = false by
      rw [decide_eq_false_iff_not]
      rintro rfl
      exact hnn (hn.out.symm.trans hn'.out))
    rw [HB.out]
    clear hnn
    go_enter Tryd.func45, Tryd.ntmps45
    go_wp2_with fail
    go_ret
    exact ⟨rfl, 0, rfl⟩

end Go.Proofs.YtlkcjjalkdlicaaDoor
end
