import Derived.Test.YtjgoldlebmfiiaaMKa
import Derived.Deep.RegionHeld3
import Derived.Deep.DrawnRows
import Derived.BigQuiet
import Derived.Outline
set_option linter.unusedVariables false
set_option linter.unusedSimpArgs false
section
/-
  The contracts of extent.bound and Add. Conditions: those of the types.
-/
namespace Go.Proofs.Ytjgoldlebmfiiaa
open Go.RowKit

theorem bound_any (n : Int) (w : World) : Calls Try.prog 81 #[.int .i64 n] w fun e w' => e = .returned (.bool (bndB n)) ∧ w = w' := by
  go_enter Try.func81, Try.ntmps81
  by_cases h : 0 ≤ n
  · go_wp2
    go_ret
    exact ⟨ret_bool (by simp [bndB, h]), rfl⟩
  · go_wp2
    go_ret
    exact ⟨ret_bool (by simp [bndB]; omega), rfl⟩

set_option maxHeartbeats 400000 in
theorem add_any (x y : Int) (w : World) : Calls Try.prog 80 #[.int .i64 x, .int .i64 y] w fun e w' => e = .returned (.tuple #[.int .i64 (addV x y), .int .i64 (addE x y)]) ∧ w = w' := by
  have cx := bound_any x
  have cy := bound_any y
  cases hx : bndB x with
  | false =>
    obtain ⟨hv, he⟩ := add_bad (x := x) (y := y) (by rw [hx]; rfl)
    rw [hx] at cx
    have Hv := hide hv
    have He := hide he
    clear hx hv he
    go_enter Try.func80, Try.ntmps80
    go_wp2_with (go_at_call 81; refine (cx _).mono ?_; rintro e w' ⟨rfl, rfl⟩)
    go_ret2
    exact ⟨ret_two Hv.out.symm He.out.symm, rfl⟩
  | true =>
    cases hy : bndB y with
    | false =>
      obtain ⟨hv, he⟩ := add_bad (x := x) (y := y) (by rw [hx, hy]; rfl)
      rw [hx] at cx
      rw [hy] at cy
      have Hv := hide hv
      have He := hide he
      clear hx hy hv he
      go_enter Try.func80, Try.ntmps80
      go_wp2_with fail
      refine (cx _).mono ?_
      rintro e w' ⟨rfl, rfl⟩
      go_wp2_with fail
      refine (cy _).mono ?_
      rintro e w' ⟨rfl, rfl⟩
      go_wp2_with fail
      go_ret2
      exact ⟨ret_two Hv.out.symm He.out.symm, rfl⟩
    | true =>
      obtain ⟨x0, x1⟩ := bndB_iff.1 hx
      obtain ⟨y0, y1⟩ := bndB_iff.1 hy
      rw [hx] at cx
      rw [hy] at cy
      by_cases hs : x + y ≤ 2147483647
      · obtain ⟨hv, he⟩ := add_ok hx hy hs
        have Hv := hide hv
        have He := hide he
        clear hx hy hv he
        have hg : ¬ (2147483647 - y < x) := by omega
        go_enter Try.func80, Try.ntmps80
        go_wp2_with fail
        refine (cx _).mono ?_
        rintro e w' ⟨rfl, rfl⟩
        go_wp2_with fail
        refine (cy _).mono ?_
        rintro e w' ⟨rfl, rfl⟩
        go_wp2_with fail
        go_ret2
        exact ⟨ret_two Hv.out.symm He.out.symm, rfl⟩
      · obtain ⟨hv, he⟩ := add_great hx hy (by omega)
        have Hv := hide hv
        have He := hide he
        clear hx hy hv he
        have hg : 2147483647 - y < x := by omega
        go_enter Try.func80, Try.ntmps80
        go_wp2_with fail
        refine (cx _).mono ?_
        rintro e w' ⟨rfl, rfl⟩
        go_wp2_with fail
        refine (cy _).mono ?_
        rintro e w' ⟨rfl, rfl⟩
        go_wp2_with fail
        go_ret2
        exact ⟨ret_two Hv.out.symm He.out.symm, rfl⟩
end Go.Proofs.Ytjgoldlebmfiiaa
end

section
/-
  The contracts of the functions on intervals: extent.right, end, Inside. Conditions: those of the types.
-/
namespace Go.Proofs.Ytjgoldlebmfiiaa
open Go.RowKit
attribute [local go_sem ↓] Go.wp_at_zero Go.wp_at_succ

set_option maxHeartbeats 400000 in
theorem right_any (o s : Int) (w : World) : Calls Try.prog 78 #[pv o s] w fun e w' => e = .returned (.bool (rightB o s)) ∧ Below w.heap.size w w' := by
  have c := add_any o s
  have hr := hide (rightB_add o s)
  generalize addV o s = v at c
  generalize addE o s = x at c hr
  go_enter Try.func78, Try.ntmps78
  go_wp2_with fail
  refine (c _).mono ?_
  rintro e w' ⟨rfl, rfl⟩
  go_wp2_with fail
  go_ret
  exact ⟨ret_bool (by rw [← hr.out]; first | rfl | (by_cases h : x = 0 <;> simp [h])), below1 _ _⟩

theorem end_any (o s : Int) (w : World) (h0 : -9223372036854775808 ≤ o + s) (h1 : o + s ≤ 9223372036854775807) : Calls Try.prog 79 #[pv o s] w fun e w' => e = .returned (.int .i64 (o + s)) ∧ Below w.heap.size w w' := by
  go_enter Try.func79, Try.ntmps79
  go_wp2_with fail
  go_ret
  exact ⟨rfl, below1 _ _⟩

theorem inside_any (o s n : Int) (w : World) : Calls Try.prog 75 #[pv o s, .int .i64 n] w fun e w' => e = .returned (.bool (insB o s n)) ∧ Below w.heap.size w w' := by
  have c := right_any o s
  have r1 := Row.new w 30 [.int .i64 o, .int .i64 s]
  have f1 := r1.cell (k := 0) rfl
  have f2 := r1.cell (k := 1) rfl
  cases hr : rightB o s with
  | false =>
    rw [hr] at c
    have ho := hide (show insB o s n = false by simp [insB, hr])
    clear hr r1
    go_enter Try.func75, Try.ntmps75
    go_wp2_with fail
    refine (c _).mono ?_
    rintro e w1 ⟨rfl, hb1⟩
    go_wp2_with fail
    go_ret
    exact ⟨ret_bool ho.out.symm, below_call (below1 _ _) hb1⟩
  | true =>
    rw [hr] at c
    have ho := hide (show insB o s n = decide (o + s ≤ n) by simp [insB, hr])
    obtain ⟨b3, b4, b5⟩ := rightB_iff.1 hr
    clear hr r1
    go_enter Try.func75, Try.ntmps75
    go_wp2_with fail
    refine (c _).mono ?_
    rintro e w1 ⟨rfl, hb1⟩
    have g1 := keep_cellB hb1 f1
    have g2 := keep_cellB hb1 f2
    go_wp2_with fail
    refine (end_any o s _ (by omega) (by omega)).mono ?_
    rintro e w2 ⟨rfl, hb2⟩
    go_wp2_with fail
    go_ret
    exact ⟨ret_bool ho.out.symm, below_call (below_call (below1 _ _) hb1) hb2⟩

end Go.Proofs.Ytjgoldlebmfiiaa
end

section
/-
  The contracts of the reference's Power. Conditions: those of the types.
-/
namespace Go.Proofs.Ytjgoldlebmfiiaa
open Go.RowKit

set_option maxHeartbeats 400000 in
theorem rpower_any (n : Int) (w : World) : Calls Try.prog 30 #[.int .i64 n] w fun e w' => e = .returned (.bool (powB n)) ∧ w = w' := by
  go_enter Try.func30, Try.ntmps30
  go_wp2
  go_loop [3] (fun i => ∃ (k : Nat) (p : Int), k ≤ 25 ∧ Hid (p = (2 : Int) ^ k) ∧ 1 ≤ p ∧ p ≤ 33554432 ∧ i = .int .i64 p ∧ Hid (∀ j, j < k → n ≠ (2 : Int) ^ j)) (fun i => (33554432 - intOf i).toNat)
  case atStart => exact ⟨0, 1, by omega, hide rfl, by omega, by omega, rfl, hide fun j hj => by omega⟩
  case round =>
    obtain ⟨k, p, hk, hp, p0, p1, rfl, hno⟩ := hrel
    by_cases hlt : p ≤ 16777216
    · by_cases he : n = p
      · subst he
        have hr := hide (powB_iff.2 ⟨k, by
          rcases Nat.lt_or_ge 24 k with h1 | h1
          · obtain rfl : k = 25 := by omega
            have := hp.out
            omega
          · exact h1, hp.out⟩)
        go_wp2
        go_ret
        exact ⟨ret_bool hr.out.symm, rfl⟩
      · have hbe : (n == p) = false := by simpa using he
        have hk24 : k ≤ 24 := by
          rcases Nat.lt_or_ge 24 k with h1 | h1
          · obtain rfl : k = 25 := by omega
            have := hp.out
            omega
          · exact h1
        go_wp2
        go_round
        case rel =>
          refine ⟨k + 1, p * 2, by omega, hide ?_, by omega, by omega, rfl, hide fun j hj => ?_⟩
          · rw [hp.out, Int.pow_succ]
          · rcases Nat.lt_or_ge j k with h1 | h1
            · exact hno.out j h1
            · obtain rfl : j = k := by omega
              rw [← hp.out]; exact he
        case measure => simp [intOf]; omega
    · have hr : Hid (powB n = false) := by
        show powB n = false
        cases e : powB n with
        | false => rfl
        | true =>
          obtain ⟨j, hj, ej⟩ := powB_iff.1 e
          have := hp.out
          rcases Nat.lt_or_ge j k with h1 | h1
          · exact absurd ej (hno.out j h1)
          · have h2 := (two_pow_b (k := k) (by omega)).2
            omega
      go_wp2
      go_ret
      exact ⟨ret_bool hr.out.symm, rfl⟩
end Go.Proofs.Ytjgoldlebmfiiaa
end

section
/-
  The contracts of the reference's Bound, Right, Inside. Conditions: those of the types.
-/
namespace Go.Proofs.Ytjgoldlebmfiiaa
open Go.RowKit
attribute [local go_sem ↓] Go.wp_at_zero Go.wp_at_succ

theorem rbound_any (n : Int) (w : World) : Calls Try.prog 70 #[.int .i64 n] w fun e w' => e = .returned (.bool (bndB n)) ∧ w = w' := by
  go_enter Try.func70, Try.ntmps70
  by_cases h : 0 ≤ n
  · go_wp2
    go_ret
    exact ⟨ret_bool (by simp [bndB, h]), rfl⟩
  · go_wp2
    go_ret
    exact ⟨ret_bool (by simp [bndB]; omega), rfl⟩


theorem rright_any (o s : Int) (w : World) : Calls Try.prog 71 #[pv o s] w fun e w' => e = .returned (.bool (rightB o s)) ∧ Below w.heap.size w w' := by
  have c1 := rbound_any o
  have c2 := rbound_any s
  have hr := hide (show rightB o s = (bndB o && bndB s && decide (o + s ≤ 2147483647)) from rfl)
  cases h1 : bndB o with
  | false =>
    rw [h1] at c1 hr
    clear h1
    go_enter Try.func71, Try.ntmps71
    go_wp2_with fail
    refine (c1 _).mono ?_
    rintro e w' ⟨rfl, rfl⟩
    go_wp2_with fail
    go_ret
    exact ⟨ret_bool (by rw [hr.out]; simp), below1 _ _⟩
  | true =>
    cases h2 : bndB s with
    | false =>
      rw [h1] at c1 hr
      rw [h2] at c2 hr
      clear h1 h2
      go_enter Try.func71, Try.ntmps71
      go_wp2_with fail
      refine (c1 _).mono ?_
      rintro e w' ⟨rfl, rfl⟩
      go_wp2_with fail
      refine (c2 _).mono ?_
      rintro e w' ⟨rfl, rfl⟩
      go_wp2_with fail
      go_ret
      exact ⟨ret_bool (by rw [hr.out]; simp), below1 _ _⟩
    | true =>
      obtain ⟨x0, x1⟩ := bndB_iff.1 h1
      obtain ⟨y0, y1⟩ := bndB_iff.1 h2
      rw [h1] at c1 hr
      rw [h2] at c2 hr
      clear h1 h2
      go_enter Try.func71, Try.ntmps71
      go_wp2_with fail
      refine (c1 _).mono ?_
      rintro e w' ⟨rfl, rfl⟩
      go_wp2_with fail
      refine (c2 _).mono ?_
      rintro e w' ⟨rfl, rfl⟩
      go_wp2_with fail
      go_ret
      exact ⟨ret_bool (by rw [hr.out]; simp), below1 _ _⟩

theorem rinside_any (o s n : Int) (w : World) : Calls Try.prog 55 #[pv o s, .int .i64 n] w fun e w' => e = .returned (.bool (insB o s n)) ∧ Below w.heap.size w w' := by
  have c := rright_any o s
  have r1 := Row.new w 30 [.int .i64 o, .int .i64 s]
  have f1 := r1.cell (k := 0) rfl
  have f2 := r1.cell (k := 1) rfl
  cases hr : rightB o s with
  | false =>
    rw [hr] at c
    have ho := hide (show insB o s n = false by simp [insB, hr])
    clear hr r1
    go_enter Try.func55, Try.ntmps55
    go_wp2_with fail
    refine (c _).mono ?_
    rintro e w1 ⟨rfl, hb1⟩
    go_wp2_with fail
    go_ret
    exact ⟨ret_bool ho.out.symm, below_call (below1 _ _) hb1⟩
  | true =>
    rw [hr] at c
    have ho := hide (show insB o s n = decide (o + s ≤ n) by simp [insB, hr])
    obtain ⟨b3, b4, b5⟩ := rightB_iff.1 hr
    clear hr r1
    go_enter Try.func55, Try.ntmps55
    go_wp2_with fail
    refine (c _).mono ?_
    rintro e w1 ⟨rfl, hb1⟩
    have g1 := keep_cellB hb1 f1
    have g2 := keep_cellB hb1 f2
    go_wp2_with fail
    go_ret
    exact ⟨ret_bool ho.out.symm, below_call (below1 _ _) hb1⟩

end Go.Proofs.Ytjgoldlebmfiiaa
end

section
/-
  The contract of the reference's Up. Conditions: those of the types.
-/
namespace Go.Proofs.Ytjgoldlebmfiiaa
open Go.RowKit

set_option maxHeartbeats 800000 in
theorem rup_any (n a : Int) (w : World) : Calls Try.prog 54 #[.int .i64 n, .int .i64 a] w fun e w' => e = .returned (.tuple #[.int .i64 (upV n a), .int .i64 (upE n a)]) ∧ w = w' := by
  have cx := rbound_any n
  have cy := rpower_any a
  cases hx : bndB n with
  | false =>
    obtain ⟨hv, he⟩ := up_bad (n := n) (a := a) (by rw [hx]; rfl)
    rw [hx] at cx
    have Hv := hide hv
    have He := hide he
    clear hx hv he
    go_enter Try.func54, Try.ntmps54
    go_wp2_with fail
    refine (cx _).mono ?_
    rintro e w' ⟨rfl, rfl⟩
    go_wp2_with fail
    go_ret2
    exact ⟨ret_two Hv.out.symm He.out.symm, rfl⟩
  | true =>
    cases hy : powB a with
    | false =>
      obtain ⟨hv, he⟩ := up_bad (n := n) (a := a) (by rw [hx, hy]; rfl)
      rw [hx] at cx
      rw [hy] at cy
      have Hv := hide hv
      have He := hide he
      clear hx hy hv he
      go_enter Try.func54, Try.ntmps54
      go_wp2_with fail
      refine (cx _).mono ?_
      rintro e w' ⟨rfl, rfl⟩
      go_wp2_with fail
      refine (cy _).mono ?_
      rintro e w' ⟨rfl, rfl⟩
      go_wp2_with fail
      go_ret2
      exact ⟨ret_two Hv.out.symm He.out.symm, rfl⟩
    | true =>
      obtain ⟨x0, x1⟩ := bndB_iff.1 hx
      obtain ⟨y0, y1⟩ := powB_b hy
      have m0 := Int.emod_nonneg n (show a ≠ 0 by omega)
      have m1 := Int.emod_lt_of_pos n (show 0 < a by omega)
      rw [hx] at cx
      rw [hy] at cy
      have Hx := hide hx
      have Hy := hide hy
      have hane : (a == 0) = false := by simp; omega
      clear hx hy
      by_cases hz : n % a = 0
      · have hm := hide (upM_zero (show 0 < a by omega) hz)
        have hzb : (n % a != 0) = false := by simp [hz]
        clear hz
        by_cases hs : n ≤ 2147483647
        · have hr := hide (up_ok Hx.out Hy.out (by have := hm.out; omega))
          go_enter Try.func54, Try.ntmps54
          go_wp2_with fail
          refine (cx _).mono ?_
          rintro e w' ⟨rfl, rfl⟩
          go_wp2_with fail
          refine (cy _).mono ?_
          rintro e w' ⟨rfl, rfl⟩
          go_wp2_with fail
          go_ret2
          exact ⟨ret_two (by rw [hr.out.1]; exact hm.out) hr.out.2.symm, rfl⟩
        · omega
      · have hm := hide (upM_ref (show 0 < a by omega) hz)
        have hzb : (n % a != 0) = true := by simp [hz]
        clear hz
        by_cases hs : n - n % a + a ≤ 2147483647
        · have hr := hide (up_ok Hx.out Hy.out (by have := hm.out; omega))
          go_enter Try.func54, Try.ntmps54
          go_wp2_with fail
          refine (cx _).mono ?_
          rintro e w' ⟨rfl, rfl⟩
          go_wp2_with fail
          refine (cy _).mono ?_
          rintro e w' ⟨rfl, rfl⟩
          go_wp2_with fail
          go_ret2
          exact ⟨ret_two (by rw [hr.out.1]; exact hm.out) hr.out.2.symm, rfl⟩
        · have hr := hide (up_great Hx.out Hy.out (by have := hm.out; omega))
          have hg : 2147483647 < n - n % a + a := by omega
          go_enter Try.func54, Try.ntmps54
          go_wp2_with fail
          refine (cx _).mono ?_
          rintro e w' ⟨rfl, rfl⟩
          go_wp2_with fail
          refine (cy _).mono ?_
          rintro e w' ⟨rfl, rfl⟩
          go_wp2_with fail
          go_ret2
          exact ⟨ret_two hr.out.1.symm hr.out.2.symm, rfl⟩

end Go.Proofs.Ytjgoldlebmfiiaa
end
