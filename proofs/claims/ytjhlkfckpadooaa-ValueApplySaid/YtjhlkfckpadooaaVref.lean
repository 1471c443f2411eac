/-
  The contracts of the reference's small functions: bit, set, twice, Less, truth. Conditions: those of the types; k from 0 to 127; set: the bit is 0.
-/
import Derived.Test.YtjhlkfckpadooaaVleaf
import Derived.Test.YtjhlkfckpadooaaVbits
import Derived.RegionTactic
import Derived.ChangeAlike
namespace Go.Proofs.Ytjhlkfckpadooaa
open Go.RowKit

set_option maxRecDepth 100000 in
set_option maxHeartbeats 400000 in
theorem rbit_any (X k : Nat) (w : World) (hX : X < two128) (hk : k < 128) :
    Calls Try.prog 40 #[vv X, .int .i64 k] w fun e w' => e = .returned (.int .u64 ((bt X k : Nat) : Int)) ∧ Below w.heap.size w w' := by
  obtain ⟨l0, l1⟩ := lo_b X
  obtain ⟨h0, h1⟩ := hi_b X
  by_cases h : k < 64
  · go_enter Try.func40, Try.ntmps40
    go_wp2
    rw [bit_lo X k h]
    go_ret
    exact ⟨rfl, (Below.refl _ _).alloc (Nat.le_refl _) _⟩
  · go_enter Try.func40, Try.ntmps40
    go_wp2
    rw [bit_hi X k hX (by omega)]
    go_ret
    exact ⟨rfl, (Below.refl _ _).alloc (Nat.le_refl _) _⟩

theorem below2d (w : World) (o p : Obj) : Below w.heap.size w ((w.alloc o).alloc p).drew := ((below2 w o p).drew)

set_option maxRecDepth 100000 in
set_option maxHeartbeats 400000 in
theorem rset_any (X k : Nat) (w : World) (hX : X < two128) (hk : k < 128) (hz : bt X k = 0) :
    Calls Try.prog 41 #[vv X, .int .i64 k] w fun e w' => e = .returned (vv (X + 2 ^ k)) ∧ Below w.heap.size w w' := by
  obtain ⟨l0, l1⟩ := lo_b X
  obtain ⟨h0, h1⟩ := hi_b X
  have HZ := hide hz
  clear hz
  by_cases h : k < 64
  · go_enter Try.func41, Try.ntmps41
    go_wp2
    go_region
    obtain ⟨e1, e2⟩ := set_lo X k h HZ.out
    rw [e1, e2]
    obtain ⟨V, hV⟩ : ∃ V, V = X + 2 ^ k := ⟨_, rfl⟩
    rw [← hV]
    have HV := hide hV
    clear e1 e2 HZ hV
    go_wp2
    exact bodyPost_ret (v := vv V) (by simp [results, Try.results41, go_sem]) rfl ⟨by rw [← HV.out], below2d _ _ _⟩
  · go_enter Try.func41, Try.ntmps41
    go_wp2
    go_region
    obtain ⟨e1, e2⟩ := set_hi X k hX (by omega) hk HZ.out
    rw [e1, e2]
    obtain ⟨V, hV⟩ : ∃ V, V = X + 2 ^ k := ⟨_, rfl⟩
    rw [← hV]
    have HV := hide hV
    clear e1 e2 HZ hV
    go_wp2
    exact bodyPost_ret (v := vv V) (by simp [results, Try.results41, go_sem]) rfl ⟨by rw [← HV.out], below2d _ _ _⟩

set_option maxHeartbeats 400000 in
theorem rtwice_any (X : Nat) (w : World) :
    Calls Try.prog 42 #[vv X] w fun e w' => e = .returned (vv (2 * X)) ∧ Below w.heap.size w w' := by
  obtain ⟨l0, l1⟩ := lo_b X
  obtain ⟨h0, h1⟩ := hi_b X
  go_enter Try.func42, Try.ntmps42
  go_wp2
  rw [twice_lo X, twice_hi X]
  exact bodyPost_ret (v := vv (2 * X)) (by simp [results, Try.results42, go_sem]) rfl ⟨rfl, below2 _ _ _⟩

set_option maxHeartbeats 400000 in
theorem rless_any (X Y : Nat) (w : World) (hX : X < two128) (hY : Y < two128) :
    Calls Try.prog 35 #[vv X, vv Y] w fun e w' => e = .returned (.bool (decide (X < Y))) ∧ Below w.heap.size w w' := by
  obtain ⟨l0, l1⟩ := lo_b X
  obtain ⟨h0, h1⟩ := hi_b X
  obtain ⟨m0, m1⟩ := lo_b Y
  obtain ⟨k0, k1⟩ := hi_b Y
  have hl := hide (lt_words hX hY)
  by_cases a : hi X < hi Y
  · go_enter Try.func35, Try.ntmps35
    go_wp2
    go_ret
    exact ⟨ret_bool (by symm; rw [decide_eq_true_eq, hl.out]; omega), below2 _ _ _⟩
  · have a' : decide (hi X < hi Y) = false := by simpa using a
    by_cases b : hi X = hi Y
    · have b' : (hi X == hi Y) = true := by simpa using b
      have B := hide b
      clear b
      go_enter Try.func35, Try.ntmps35
      go_wp2
      go_ret
      exact ⟨ret_bool (decide_eq_decide.2 (by have := B.out; rw [hl.out]; omega)), below2 _ _ _⟩
    · have b' : (hi X == hi Y) = false := by simpa using b
      go_enter Try.func35, Try.ntmps35
      go_wp2
      go_ret
      exact ⟨ret_bool (by symm; rw [decide_eq_false_iff_not, hl.out]; omega), below2 _ _ _⟩

theorem rless_yes (X Y : Nat) (w : World) (hX : X < two128) (hY : Y < two128) (h : X < Y) : Calls Try.prog 35 #[vv X, vv Y] w fun e w' => e = .returned (.bool true) ∧ Below w.heap.size w w' :=
  (rless_any X Y w hX hY).mono fun _ _ hh => by rw [decide_eq_true h] at hh; exact hh
theorem rless_no (X Y : Nat) (w : World) (hX : X < two128) (hY : Y < two128) (h : Y ≤ X) : Calls Try.prog 35 #[vv X, vv Y] w fun e w' => e = .returned (.bool false) ∧ Below w.heap.size w w' :=
  (rless_any X Y w hX hY).mono fun _ _ hh => by rw [decide_eq_false (by omega)] at hh; exact hh

set_option maxHeartbeats 400000 in
theorem rtruth_any (b : Bool) (w : World) :
    Calls Try.prog 34 #[.bool b] w fun e w' => e = .returned (vv (bn b)) ∧ Below w.heap.size w w' := by
  cases b
  · go_enter Try.func34, Try.ntmps34
    go_wp2
    exact bodyPost_ret (v := vv 0) (by simp [results, Try.results34, go_sem, vv_zero]) rfl ⟨rfl, (Below.refl _ _).alloc (Nat.le_refl _) _⟩
  · go_enter Try.func34, Try.ntmps34
    go_wp2
    exact bodyPost_ret (v := vv 1) (by simp [results, Try.results34, go_sem, vv_one]) rfl ⟨rfl, (Below.refl _ _).alloc (Nat.le_refl _) _⟩
end Go.Proofs.Ytjhlkfckpadooaa
