/-
  The walk of the law ExtentArithmetic: for all n, align and k it returns true, and what was in memory before the call is as it was. Conditions: those of the types.
-/
import Derived.Test.YtmfklggjcggoeaaEuplaw
import Derived.Test.YtmfklggjcggoeaaWords
namespace Go.Proofs.Ytmfklggjcggoeaa
open Go.RowKit

theorem three_at (x y z : Int) (k : Nat) (hk : k < 3) : ∃ v : Int, ([.int .i64 x, .int .i64 y, .int .i64 z] : List Value)[k]? = some (.int .i64 v) := by
  rcases (show k = 0 ∨ k = 1 ∨ k = 2 by omega) with rfl | rfl | rfl <;> exact ⟨_, rfl⟩

set_option maxRecDepth 100000 in
set_option maxHeartbeats 2000000 in
theorem arlaw_walk (n a k : Int) (w : World) (k0 : 0 ≤ k) (k1 : k ≤ 255) :
    Calls Try.prog 3 #[.int .i64 n, .int .i64 a, .int .u8 k] w fun e w' => e = .returned (.bool true) ∧ Below w.heap.size w w' := by
  obtain ⟨p, hp, p0, p1, _, _⟩ := shift_pow k 26 (by omega) (by omega)
  have c0 := mod_any n 2147483649 w (by omega) (by omega)
  generalize n % 2147483649 = m at c0
  go_enter Try.func3, Try.ntmps3
  go_wp2_with fail
  refine (awake_any _).mono ?_
  rintro e w' ⟨rfl, rfl⟩
  go_wp2_with fail
  refine c0.mono ?_
  rintro e w' ⟨rfl, rfl⟩
  clear c0
  go_wp2_with fail
  clear hp
  go_loopw [33] (fun i wr => ∃ j : Nat, j ≤ 3 ∧ i = .int .i64 j ∧ Row wr w.heap.size 3 [.int .i64 n, .int .i64 m, .int .i64 (2147483647 - k)] ∧ Hid (Below w.heap.size w wr)) (fun i _ => 3 - (intOf i).toNat)
  case atStart => exact ⟨0, by omega, rfl, Row.new w _ _, hide (below1 _ _)⟩
  case round =>
    obtain ⟨j, hj, rfl, r, hb⟩ := hrel
    by_cases hlt : j < 3
    · obtain ⟨x, hx⟩ := three_at n m (2147483647 - k) j hlt
      have hc := r.cell hx
      have hr := hide r
      have hd : decide ((j : Int) < 3) = true := decide_eq_true (by omega)
      clear hx r
      go_wp2_with fail
      clear hc hd
      obtain ⟨wo, ewo⟩ : ∃ wo : World, wo = wr := ⟨_, rfl⟩
      rw [← ewo] at hr hb ⊢
      clear ewo
      go_loopw [43] (fun i wr => ∃ j : Nat, j ≤ 3 ∧ i = .int .i64 j ∧ Row wr wo.heap.size 3 [.int .i64 a, .int .i64 p, .int .i64 (p + 1)] ∧ Hid (Below wo.heap.size wo wr)) (fun i _ => 3 - (intOf i).toNat)
      case atStart => exact ⟨0, by omega, rfl, Row.new wo _ _, hide (below1 _ _)⟩
      case round =>
        obtain ⟨j', hj', rfl, r', hb'⟩ := hrel
        by_cases hlt' : j' < 3
        · obtain ⟨y, hy⟩ := three_at a p (p + 1) j' hlt'
          have hc := r'.cell hy
          have hr' := hide r'
          have c1 := up_any x y
          have c2 := rup_any x y
          have c3 := add_any x y
          have c4 := radd_any x y
          have c5 := power_any y
          have c6 := rpower_any y
          generalize upV x y = v1 at c1 c2
          generalize upE x y = v2 at c1 c2
          generalize addV x y = v3 at c3 c4
          generalize addE x y = v4 at c3 c4
          generalize powB y = v5 at c5 c6
          clear hy r'
          go_wp2_with fail
          refine (c1 _).mono ?_
          rintro e w' ⟨rfl, rfl⟩
          go_wp2_with fail
          refine (c2 _).mono ?_
          rintro e w' ⟨rfl, rfl⟩
          go_wp2_with fail
          refine (c3 _).mono ?_
          rintro e w' ⟨rfl, rfl⟩
          go_wp2_with fail
          refine (c4 _).mono ?_
          rintro e w' ⟨rfl, rfl⟩
          go_wp2_with fail
          refine (c5 _).mono ?_
          rintro e w' ⟨rfl, rfl⟩
          go_wp2_with fail
          refine (c6 _).mono ?_
          rintro e w' ⟨rfl, rfl⟩
          go_wp2_with fail
          go_roundw
          case rel => exact ⟨j' + 1, by omega, by go_num, hr'.out, hb'⟩
          case measure => simp [intOf]; omega
        · obtain rfl : j' = 3 := by omega
          have R : Row wr w.heap.size 3 [.int .i64 n, .int .i64 m, .int .i64 (2147483647 - k)] := hr.out.call hb'.out
          have B := hide (below_call hb.out hb'.out)
          have HR := hide R
          clear R r' hb hb' hr
          go_wp2_with fail
          go_roundw
          case rel => exact ⟨j + 1, by omega, by go_num, HR.out, B⟩
          case measure => simp [intOf]; omega
    · obtain rfl : j = 3 := by omega
      clear r
      go_wp2_with fail
      go_ret
      exact ⟨rfl, hb.out⟩
end Go.Proofs.Ytmfklggjcggoeaa
