/-
  The contracts of extent.bound and Add. Conditions: those of the types.
-/
import Derived.Test.YtjgoldlebmfiiaaEpow
namespace Go.Proofs.Ytjgoldlebmfiiaa
open Go.RowKit

theorem bound_any (n : Int) (w : World) : Calls Try.prog 81 #[.int .i64 n] w fun e w' => e = .returned (.bool (bndB n)) ∧ w = w' := by
  go_enter Try.func81, Try.ntmps81
  by_cases h : 0 ≤ n
  · go_wp2
    go_ret
    exact ⟨ret_bool (by simp [bndB, h]), rfl⟩
  · go_wp2
    go_ret
    exact ⟨ret_bool (by simp [bndB]; omega), rfl⟩

set_option maxHeartbeats 400000 in
theorem add_any (x y : Int) (w : World) : Calls Try.prog 80 #[.int .i64 x, .int .i64 y] w fun e w' => e = .returned (.tuple #[.int .i64 (addV x y), .int .i64 (addE x y)]) ∧ w = w' := by
  have cx := bound_any x
  have cy := bound_any y
  cases hx : bndB x with
  | false =>
    obtain ⟨hv, he⟩ := add_bad (x := x) (y := y) (by rw [hx]; rfl)
    rw [hx] at cx
    have Hv := hide hv
    have He := hide he
    clear hx hv he
    go_enter Try.func80, Try.ntmps80
    go_wp2_with (go_at_call 81; refine (cx _).mono ?_; rintro e w' ⟨rfl, rfl⟩)
    go_ret2
    exact ⟨ret_two Hv.out.symm He.out.symm, rfl⟩
  | true =>
    cases hy : bndB y with
    | false =>
      obtain ⟨hv, he⟩ := add_bad (x := x) (y := y) (by rw [hx, hy]; rfl)
      rw [hx] at cx
      rw [hy] at cy
      have Hv := hide hv
      have He := hide he
      clear hx hy hv he
      go_enter Try.func80, Try.ntmps80
      go_wp2_with fail
      refine (cx _).mono ?_
      rintro e w' ⟨rfl, rfl⟩
      go_wp2_with fail
      refine (cy _).mono ?_
      rintro e w' ⟨rfl, rfl⟩
      go_wp2_with fail
      go_ret2
      exact ⟨ret_two Hv.out.symm He.out.symm, rfl⟩
    | true =>
      obtain ⟨x0, x1⟩ := bndB_iff.1 hx
      obtain ⟨y0, y1⟩ := bndB_iff.1 hy
      rw [hx] at cx
      rw [hy] at cy
      by_cases hs : x + y ≤ 2147483647
      · obtain ⟨hv, he⟩ := add_ok hx hy hs
        have Hv := hide hv
        have He := hide he
        clear hx hy hv he
        have hg : ¬ (2147483647 - y < x) := by omega
        go_enter Try.func80, Try.ntmps80
        go_wp2_with fail
        refine (cx _).mono ?_
        rintro e w' ⟨rfl, rfl⟩
        go_wp2_with fail
        refine (cy _).mono ?_
        rintro e w' ⟨rfl, rfl⟩
        go_wp2_with fail
        go_ret2
        exact ⟨ret_two Hv.out.symm He.out.symm, rfl⟩
      · obtain ⟨hv, he⟩ := add_great hx hy (by omega)
        have Hv := hide hv
        have He := hide he
        clear hx hy hv he
        have hg : 2147483647 - y < x := by omega
        go_enter Try.func80, Try.ntmps80
        go_wp2_with fail
        refine (cx _).mono ?_
        rintro e w' ⟨rfl, rfl⟩
        go_wp2_with fail
        refine (cy _).mono ?_
        rintro e w' ⟨rfl, rfl⟩
        go_wp2_with fail
        go_ret2
        exact ⟨ret_two Hv.out.symm He.out.symm, rfl⟩
end Go.Proofs.Ytjgoldlebmfiiaa
