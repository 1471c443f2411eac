import Derived.Test.YthaabgiefpfeaaaDoorMBlist
import Derived.Test.YthaabgiefpfeaaaDoorMBsetd
set_option linter.unusedVariables false
set_option linter.unusedSimpArgs false
section
/-
  What the functions of package bitset have in common: a list read as a set. Conditions: those of the types.
-/
namespace Go.Proofs.YthaabgiefpfeaaaDoor
open Go.RowKit
theorem Lst.of {w : World} {A : Option Addr} {n : Nat} {zs : List Int} (h : Lst w A n zs) (c : Nat) : Calls Tryd.prog 29 #[.slice A n c] w fun e w' => e = .returned (sv (wd (bs zs))) ∧ Below w.heap.size w w' :=
  of_any A n c zs w.heap.size w (hide h.len) h.le (hide h.see) (Nat.le_refl _) (hide h.rng)
theorem SetB.made (w : World) (N : Nat) : SetB (w.alloc (.cells #[.int .u64 (wd N 0 : Nat), .int .u64 (wd N 1 : Nat), .int .u64 (wd N 2 : Nat), .int .u64 (wd N 3 : Nat), .int .u64 (wd N 4 : Nat), .int .u64 (wd N 5 : Nat), .int .u64 (wd N 6 : Nat), .int .u64 (wd N 7 : Nat)] 47)) w.heap.size N := Row.new w _ (w8 (wd N))
theorem below_write {w w1 w2 : World} {g N : Nat} {e : Ending} (hb : Below w.heap.size w w1) (h : WritePost g N w1 e w2) (hg : w.heap.size ≤ g) : Below w.heap.size w w2 := below_turned hb h.2.2 hg hb.size

end Go.Proofs.YthaabgiefpfeaaaDoor
end

section
/-
  The contract of a method of bitset.set[int] on one element: remove. Conditions: those of the types.
-/
namespace Go.Proofs.YthaabgiefpfeaaaDoor
open Go.RowKit
theorem remove_any (g N : Nat) (n : Int) (w : World) (h : Hid (SetB w g N)) (h0 : -9223372036854775808 ≤ n) (h1 : n ≤ 9223372036854775807) :
    Calls Tryd.prog 30 #[.pointer (some ⟨g, 0, none⟩), .int .i64 n] w (WritePost g (diff N (one n)) w) := by
  have hk := pl_lt n
  have c := Row.cell h.out (w8_at (wd N) hk)
  have z := Row.free h.out (pl n)
  have e := u64_diff_nat _ _ (wd_lt N (pl n)) (bt_lt n)
  have cp := place_any n w h0 h1
  have K := hide (set_diff N n)
  generalize diff N (one n) = M at K ⊢
  generalize diff (wd N (pl n)) (bt n) = y at e K
  generalize wd N (pl n) = x at c e
  generalize pl n = k at hk c z cp K
  generalize bt n = b at e cp
  have hk0 : (0 : Int) ≤ (k : Int) := by omega
  have hk8 : (k : Int) < 8 := by omega
  go_enter Tryd.func30, Tryd.ntmps30
  go_wp2_with fail
  refine cp.mono ?_
  rintro e w' ⟨rfl, rfl⟩
  go_wp2_with fail
  go_region
  all_goals (go_end0; exact write_end h K)
end Go.Proofs.YthaabgiefpfeaaaDoor
end

section
/-
  The contract of a function of package bitset, for any lists and in the reference's words: remove. Conditions: those of the types; the table of TrailingZeros64 lies as its initialiser lays it.
-/
namespace Go.Proofs.YthaabgiefpfeaaaDoor
open Go.RowKit
set_option maxHeartbeats 400000 in
theorem top_remove_any (A : Option Addr) (n c : Nat) (zs : List Int) (x : Int) (w : World) (h : Hid (Lst w A n zs)) (x0 : -9223372036854775808 ≤ x) (x1 : x ≤ 9223372036854775807) (hT : Hid (Tab w)) : Calls Tryd.prog 18 #[.slice A n c, .int .i64 x] w (OutPost (els (diff (bs zs) (one x))) w) := by
  have c0 := h.out.of c
  generalize bs zs = N0 at c0 ⊢
  go_enter Tryd.func18, Tryd.ntmps18
  go_wp2_with fail
  refine c0.mono ?_
  rintro e w1 ⟨rfl, hb1⟩
  clear c0
  have HB1 := hide hb1
  clear hb1
  go_wp2_with fail
  have hS1 := hide (SetB.made w1 N0)
  have HB2 := hide (below_call HB1.out (below1 w1 (.cells #[.int .u64 (wd N0 0 : Nat), .int .u64 (wd N0 1 : Nat), .int .u64 (wd N0 2 : Nat), .int .u64 (wd N0 3 : Nat), .int .u64 (wd N0 4 : Nat), .int .u64 (wd N0 5 : Nat), .int .u64 (wd N0 6 : Nat), .int .u64 (wd N0 7 : Nat)] 47)))
  have hg1 : w.heap.size ≤ w1.heap.size := HB1.out.size
  refine (remove_any w1.heap.size N0 x _ hS1 x0 x1).mono ?_
  rintro e w5 hP
  have HS5 := hide hP.2.1
  have HB5 := hide (below_write HB2.out hP hg1)
  obtain ⟨rfl, -, -⟩ := hP
  clear hS1 HB2
  go_wp2_with fail
  refine (list_any w1.heap.size (diff (N0) (one x)) _ HS5 (hide (hT.out.below HB5.out))).mono ?_
  rintro e w' hP
  obtain ⟨A2, c2, rfl, -, -⟩ := id hP
  have HP := hide (hP.lift HB5.out)
  clear hP HS5
  go_wp2_with fail
  go_ret
  exact HP.out
section
variable {A A' : Option Addr} {n n' : Nat} {a b r : List Int} {w : World}
theorem t_remove (c : Nat) {x : Int} (h : Hid (Lst w A n a)) (ha : Hid (Asc a)) (x0 : -9223372036854775808 ≤ x) (x1 : x ≤ 9223372036854775807) (hT : Hid (Tab w)) (hr : Hid (removeL a x = r)) : Calls Tryd.prog 18 #[.slice A n c, .int .i64 x] w (OutPost r w) := by
  have := top_remove_any A n c a x w h x0 x1 hT
  rwa [els_remove ha.out, hr.out] at this
end
end Go.Proofs.YthaabgiefpfeaaaDoor
end
