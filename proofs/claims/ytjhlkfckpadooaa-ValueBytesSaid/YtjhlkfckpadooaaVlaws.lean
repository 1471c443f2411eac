/-
  The contracts of value.Size, awake, and of value.Apply where there is a result. Conditions: those of the types.
-/
import Derived.Test.YtjhlkfckpadooaaVapply
namespace Go.Proofs.Ytjhlkfckpadooaa
open Go.RowKit

theorem app_some (op : Int) (X Y : Nat) (w : World) (hX : X < two128) (hY : Y < two128) (h : opOk op Y = true) :
    Calls Try.prog 9 #[.int .i64 op, vv X, vv Y] w fun e w' => ∃ S, Hid (S = opRes op X Y) ∧ S < two128 ∧ e = .returned (.tuple #[vv S, .bool true]) ∧ Below w.heap.size w w' :=
  (apply_any op X Y w hX hY).mono fun _ _ ⟨he, hb⟩ => ⟨_, hide rfl, opRes_lt op X Y hX hY, by rw [he, h], hb⟩

set_option maxHeartbeats 400000 in
theorem size_16 (w : World) : Calls Try.prog 11 #[.int .i64 16] w fun e w' => e = .returned (.bool true) ∧ w = w' := by
  go_enter Try.func11, Try.ntmps11
  go_wp2
  go_ret
  exact ⟨rfl, rfl⟩

set_option maxHeartbeats 400000 in
theorem awake2_any (w : World) : Calls Try.prog 8 #[] w fun e w' => e = .returned (.bool true) ∧ w = w' := by
  go_enter Try.func8, Try.ntmps8
  go_wp2_with fail
  refine (size_16 _).mono ?_
  rintro e w' ⟨rfl, rfl⟩
  go_wp2
  go_ret
  exact ⟨rfl, rfl⟩
end Go.Proofs.Ytjhlkfckpadooaa
