import Derived.Test.YthaabgiefpfeaaaDoorMBsetd
set_option linter.unusedVariables false
set_option linter.unusedSimpArgs false
section
/-
  The contract of a method of bitset.set[int] on one element: add. Conditions: those of the types.
-/
namespace Go.Proofs.YthaabgiefpfeaaaDoor
open Go.RowKit
theorem add_any (g N : Nat) (n : Int) (w : World) (h : Hid (SetB w g N)) (h0 : -9223372036854775808 ≤ n) (h1 : n ≤ 9223372036854775807) :
    Calls Tryd.prog 35 #[.pointer (some ⟨g, 0, none⟩), .int .i64 n] w (WritePost g (N ||| one n) w) := by
  have hk := pl_lt n
  have c := Row.cell h.out (w8_at (wd N) hk)
  have z := Row.free h.out (pl n)
  have e := bits_or_u64_nat _ _ (wd_lt N (pl n)) (bt_lt n)
  have cp := place_any n w h0 h1
  have K := hide (set_or N n)
  generalize N ||| one n = M at K ⊢
  generalize wd N (pl n) ||| bt n = y at e K
  generalize wd N (pl n) = x at c e
  generalize pl n = k at hk c z cp K
  generalize bt n = b at e cp
  have hk0 : (0 : Int) ≤ (k : Int) := by omega
  have hk8 : (k : Int) < 8 := by omega
  go_enter Tryd.func35, Tryd.ntmps35
  go_wp2_with fail
  refine cp.mono ?_
  rintro e w' ⟨rfl, rfl⟩
  go_wp2_with fail
  go_region
  all_goals (go_end0; exact write_end h K)
end Go.Proofs.YthaabgiefpfeaaaDoor
end
