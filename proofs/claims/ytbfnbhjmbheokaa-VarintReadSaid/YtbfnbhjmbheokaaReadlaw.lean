/-
  The walk of the law VarintRead: for every b and at it returns true, and what was in memory before the call is as it was. Conditions: those of the types.
-/
import Derived.Test.YtbfnbhjmbheokaaInt
import Derived.Test.YtbfnbhjmbheokaaCrclaw
namespace Go.Proofs.Ytbfnbhjmbheokaa
open Go.RowKit

set_option maxRecDepth 100000 in
set_option maxHeartbeats 1600000 in
theorem readlaw_walk (A : Option Addr) (n c : Nat) (zs : List Int) (x : Int) (w : World) (hA : Hid (A = none → c = 0)) (hn : Hid (zs.length = n)) (hm : n ≤ 9223372036854775807) (hnc : n ≤ c) (hs : Sees w w.heap.size A (cellsU8 zs)) (hz : Hid (∀ z ∈ zs, 0 ≤ z ∧ z ≤ 255)) :
    Calls Try.prog 4 #[.slice A n c, .int .i64 x] w fun e w' => e = .returned (.bool true) ∧ Below w.heap.size w w' := by
  by_cases hlt : n ≤ 1000
  · go_enter Try.func4, Try.ntmps4
    go_wp2_with fail
    refine (awake_any _).mono ?_
    rintro e w' ⟨rfl, rfl⟩
    go_wp2_with fail
    refine (mod_nat x (n + 1) _ (by omega) (by omega)).mono ?_
    rintro e w' ⟨⟨i, hin, rfl⟩, rfl⟩
    go_wp2_with fail
    have hb1 : Below w.heap.size w (w.alloc (.cells #[.int .i64 x, .int .i64 0, .int .i64 i] 3)) := (Below.refl _ _).alloc (Nat.le_refl _) _
    have hcell : ∀ j : Nat, j < 3 → ∃ y : Int, (w.alloc (.cells #[.int .i64 x, .int .i64 0, .int .i64 i] 3)).cell? ⟨w.heap.size, j, none⟩ = some (.int .i64 y) := by
      intro j hj
      rw [World.cell?_alloc_at _ _ _ _ rfl]
      obtain rfl | rfl | rfl : j = 0 ∨ j = 1 ∨ j = 2 := by omega
      · exact ⟨x, rfl⟩
      · exact ⟨0, rfl⟩
      · exact ⟨i, rfl⟩
    obtain ⟨W1, hW1⟩ : ∃ W, W = w.alloc (.cells #[.int .i64 x, .int .i64 0, .int .i64 i] 3) := ⟨_, rfl⟩
    rw [← hW1] at hb1 hcell ⊢
    clear hW1
    have Hcell := hide hcell
    have hs1 := hs.below hb1
    clear hcell hs
    go_loop [37] (fun k => ∃ j : Nat, j ≤ 3 ∧ k = .int .i64 j) (fun k => 3 - (intOf k).toNat)
    case atStart => exact ⟨0, by omega, rfl⟩
    case round =>
      obtain ⟨j, hj, rfl⟩ := hrel
      by_cases hj3 : j < 3
      · obtain ⟨y, hy⟩ := Hcell.out j hj3
        have hu := hide (uint_any A n c zs y _ W1 hA hn (by omega) hnc hs1 hz)
        have hru := hide (refuint_any A n c zs y _ W1 hn (by omega) hs1 hz)
        have hi := hide (int_any A n c zs y _ W1 hA hn (by omega) hnc hs1 hz)
        have hri := hide (refint_any A n c zs y _ W1 hn (by omega) hs1 hz)
        unfold UintPost at hu hru
        unfold IntPost at hi hri
        generalize uintAt zs y = r at *
        obtain ⟨v, nx, e⟩ := r
        clear hA hn hz hs1 Hcell
        go_wp2_with fail
        refine (Hid.out hu).mono ?_
        rintro e' w' ⟨rfl, rfl⟩
        unfold uintVal
        go_wp2_with fail
        refine (Hid.out hru).mono ?_
        rintro e' w' ⟨rfl, rfl⟩
        unfold uintVal
        go_wp2_with fail
        refine (Hid.out hi).mono ?_
        rintro e' w' ⟨rfl, rfl⟩
        unfold intVal
        go_wp2_with fail
        refine (Hid.out hri).mono ?_
        rintro e' w' ⟨rfl, rfl⟩
        unfold intVal
        go_wp2_with fail
        go_round
        case rel => exact ⟨j + 1, by omega, by go_num⟩
        case measure => simp [intOf]; omega
      · clear hA hn hz hs1 Hcell
        go_wp2_with fail
        go_ret
        exact ⟨by simp, hb1⟩
  · go_enter Try.func4, Try.ntmps4
    go_wp2_with fail
    refine (awake_any _).mono ?_
    rintro e w' ⟨rfl, rfl⟩
    go_wp2_with fail
    go_ret
    exact ⟨by simp, Below.refl _ _⟩
end Go.Proofs.Ytbfnbhjmbheokaa
