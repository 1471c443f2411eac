/-
  The contracts of the methods of bitset.set[int] on one element: add, remove, has. 'SetB w g N': block g holds the eight words of N. Conditions: those of the types.
-/
import Derived.Test.YtfpdopfomagngaaDoorBleaf
import Derived.RegionTactic
import Derived.ChangeAlike
import Derived.Maps.AppendAt
namespace Go.Proofs.YtfpdopfomagngaaDoor
open Go.RowKit

/-- Block g holds the eight words of N. -/
def SetB (w : World) (g N : Nat) : Prop := Row w g 42 (w8 (wd N))
theorem SetB.lt {w : World} {g N : Nat} (h : SetB w g N) : g < w.heap.size := Row.lt h
theorem SetB.call {w w' : World} {g N : Nat} (h : SetB w g N) (hb : Below w.heap.size w w') : SetB w' g N := Row.call h hb

/-- Block g has turned to N; all else is as it was. -/
def WritePost (g N : Nat) (w : World) (e : Ending) (w' : World) : Prop := e = .returned (.tuple #[]) ∧ SetB w' g N ∧ w.grownBy w' (some g)

theorem grown_drawn {w w' : World} {row : Option Nat} (h : w.grownBy w' row) (k : Nat) : w.grownBy (w'.drewN k) row := ⟨h.os, h.tape, h.output, h.size, h.block⟩
theorem grown_put {w w' : World} {g : Nat} (h : w.grownBy w' (some g)) (k : Nat) (u : Value) : w.grownBy (w'.setCell ⟨g, k, none⟩ u) (some g) :=
  ⟨h.os, h.tape, h.output, by simpa [World.setCell] using h.size, fun i hi hne => (Below.heap_setCell w' ⟨g, k, none⟩ u i (by rintro rfl; exact hne rfl)).trans (h.block i hi hne)⟩
theorem write_end {w : World} {g N M k : Nat} {v : Value} (h : Hid (SetB w g N)) (K : Hid ((w8 (wd N)).set k v = w8 (wd M))) : WritePost g M w (.returned (.tuple #[])) (w.setCell ⟨g, k, none⟩ v).drew := by
  refine ⟨rfl, ?_, grown_drawn (grown_put (World.grownBy.refl w _) k _) 1⟩
  have := (Row.set_ h.out k v).drew
  rw [K.out] at this
  exact this

theorem set_or (N : Nat) (n : Int) : (w8 (wd N)).set (pl n) (.int .u64 ((wd N (pl n) ||| bt n : Nat) : Int)) = w8 (wd (N ||| one n)) := by
  rw [w8_set _ (pl_lt n)]
  apply w8_congr
  intro i hi
  rw [wd_or, wd_one]
  split
  · rename_i e; rw [e]
  · rw [Nat.or_zero]
theorem diff_zero (N : Nat) : diff N 0 = N := by simp [diff]
theorem set_diff (N : Nat) (n : Int) : (w8 (wd N)).set (pl n) (.int .u64 ((diff (wd N (pl n)) (bt n) : Nat) : Int)) = w8 (wd (diff N (one n))) := by
  rw [w8_set _ (pl_lt n)]
  apply w8_congr
  intro i hi
  rw [wd_diff, wd_one]
  split
  · rename_i e; rw [e]
  · rw [diff_zero]

theorem add_any (g N : Nat) (n : Int) (w : World) (h : Hid (SetB w g N)) (h0 : -9223372036854775808 ≤ n) (h1 : n ≤ 9223372036854775807) :
    Calls Tryd.prog 38 #[.pointer (some ⟨g, 0, none⟩), .int .i64 n] w (WritePost g (N ||| one n) w) := by
  have hk := pl_lt n
  have c := Row.cell h.out (w8_at (wd N) hk)
  have z := Row.free h.out (pl n)
  have e := bits_or_u64_nat _ _ (wd_lt N (pl n)) (bt_lt n)
  have cp := place_any n w h0 h1
  have K := hide (set_or N n)
  generalize N ||| one n = M at K ⊢
  generalize wd N (pl n) ||| bt n = y at e K
  generalize wd N (pl n) = x at c e
  generalize pl n = k at hk c z cp K
  generalize bt n = b at e cp
  have hk0 : (0 : Int) ≤ (k : Int) := by omega
  have hk8 : (k : Int) < 8 := by omega
  go_enter Tryd.func38, Tryd.ntmps38
  go_wp2_with fail
  refine cp.mono ?_
  rintro e w' ⟨rfl, rfl⟩
  go_wp2_with fail
  go_region
  all_goals (go_end0; exact write_end h K)
theorem remove_any (g N : Nat) (n : Int) (w : World) (h : Hid (SetB w g N)) (h0 : -9223372036854775808 ≤ n) (h1 : n ≤ 9223372036854775807) :
    Calls Tryd.prog 39 #[.pointer (some ⟨g, 0, none⟩), .int .i64 n] w (WritePost g (diff N (one n)) w) := by
  have hk := pl_lt n
  have c := Row.cell h.out (w8_at (wd N) hk)
  have z := Row.free h.out (pl n)
  have e := u64_diff_nat _ _ (wd_lt N (pl n)) (bt_lt n)
  have cp := place_any n w h0 h1
  have K := hide (set_diff N n)
  generalize diff N (one n) = M at K ⊢
  generalize diff (wd N (pl n)) (bt n) = y at e K
  generalize wd N (pl n) = x at c e
  generalize pl n = k at hk c z cp K
  generalize bt n = b at e cp
  have hk0 : (0 : Int) ≤ (k : Int) := by omega
  have hk8 : (k : Int) < 8 := by omega
  go_enter Tryd.func39, Tryd.ntmps39
  go_wp2_with fail
  refine cp.mono ?_
  rintro e w' ⟨rfl, rfl⟩
  go_wp2_with fail
  go_region
  all_goals (go_end0; exact write_end h K)
theorem mhas_any (g N : Nat) (n : Int) (w : World) (h : Hid (SetB w g N)) (h0 : -9223372036854775808 ≤ n) (h1 : n ≤ 9223372036854775807) :
    Calls Tryd.prog 37 #[.pointer (some ⟨g, 0, none⟩), .int .i64 n] w fun e w' => e = .returned (.bool (decide (0 ≤ n ∧ n < 512 ∧ N.testBit n.toNat = true))) ∧ w = w' := by
  have hk := pl_lt n
  have c := Row.cell h.out (w8_at (wd N) hk)
  have e := bits_and_u64_nat _ _ (wd_lt N (pl n)) (bt_lt n)
  have cp := place_any n w h0 h1
  have hw := has_word N n
  generalize decide (0 ≤ n ∧ n < 512 ∧ N.testBit n.toNat = true) = B at hw ⊢
  have hB : (((wd N (pl n) &&& bt n : Nat) : Int) != 0) = B := by
    rw [← hw]
    cases h : wd N (pl n) &&& bt n with
    | zero => rfl
    | succ y => simp; omega
  clear hw
  generalize wd N (pl n) &&& bt n = y at e hB
  generalize wd N (pl n) = x at c e
  generalize pl n = k at hk c cp
  generalize bt n = b at e cp
  have hk0 : (0 : Int) ≤ (k : Int) := by omega
  have hk8 : (k : Int) < 8 := by omega
  go_enter Tryd.func37, Tryd.ntmps37
  go_wp2_with fail
  refine cp.mono ?_
  rintro e w' ⟨rfl, rfl⟩
  go_wp2_with fail
  go_ret
  exact ⟨rfl, rfl⟩
end Go.Proofs.YtfpdopfomagngaaDoor
