/-
  The contract of spillframedraw's Int: an int. Condition: the receiver is a list of choices.
-/
import Derived.Test.YtlfifdpklmnmpaaDword
namespace Go.Proofs.Ytlfifdpklmnmpaa
open Go.RowKit

/-- An int is drawn. -/
def IntPost (g : Nat) (w : World) (e : Ending) (w' : World) : Prop := ∃ v : Int, e = .returned (.int .i64 v) ∧ Codes w' g ∧ w.grownBy w' (some g)

set_option maxHeartbeats 2000000 in
theorem int_any (g : Nat) (w : World) (h : Hid (Codes w g)) : Calls Try.prog 18 #[.pointer (some ⟨g, 0, none⟩)] w (IntPost g w) := by
  have c := next_any g
  have hgl := h.out.lt
  go_enter Try.func18, Try.ntmps18
  go_wp2_with fail
  refine (c 12 _ h (by omega) (by omega)).mono ?_
  rintro e w1 ⟨k, rfl, k0, k1, hC, hG, hz⟩
  have HC := hide hC
  have HG := hide hG
  have hw1 : w.heap.size ≤ w1.heap.size := hG.size
  clear hC hG hz
  by_cases hk : k = 11
  · subst hk
    obtain ⟨w2, hw2⟩ : ∃ w2, w1.alloc (.cells #[.int .i64 9223372036854775807, .int .i64 (-9223372036854775808), .int .i64 2147483648, .int .i64 2147483647, .int .i64 (-1), .int .i64 16777216, .int .i64 33554432, .int .i64 1048577, .int .i64 512, .int .i64 80] 3) = w2 := ⟨_, rfl⟩
    have HW2 := hide hw2
    have hr : Row w2 w1.heap.size 3 [.int .i64 9223372036854775807, .int .i64 (-9223372036854775808), .int .i64 2147483648, .int .i64 2147483647, .int .i64 (-1), .int .i64 16777216, .int .i64 33554432, .int .i64 1048577, .int .i64 512, .int .i64 80] := hw2 ▸ Row.new w1 _ _
    have HR := hide hr
    have HC2 : Hid (Codes w2 g) := hide (hw2 ▸ HC.out.alloc _)
    have HG2 : Hid (w.grownBy w2 (some g)) := hide (hw2 ▸ HG.out.trans (World.grownBy_alloc _ _ _))
    clear hw2 hr
    go_wp2_with fail
    rw [HW2.out]
    refine (c 10 _ HC2 (by omega) (by omega)).mono ?_
    rintro e w3 ⟨v, rfl, v0, v1, hC3, hG3, hz3⟩
    have HC3 := hide hC3
    have HG3 := hide (HG2.out.trans hG3)
    have hr3 := HR.out.grown hG3 (fun e => by injection e with e; omega)
    obtain ⟨v, rfl⟩ := Int.eq_ofNat_of_zero_le v0
    have hx : ∃ x : Int, w3.cell? ⟨w1.heap.size, v, none⟩ = some (.int .i64 x) := by
      rcases (show v = 0 ∨ v = 1 ∨ v = 2 ∨ v = 3 ∨ v = 4 ∨ v = 5 ∨ v = 6 ∨ v = 7 ∨ v = 8 ∨ v = 9 by omega) with rfl | rfl | rfl | rfl | rfl | rfl | rfl | rfl | rfl | rfl <;> exact ⟨_, hr3.cell rfl⟩
    obtain ⟨x, hx⟩ := hx
    clear hC3 hG3 hz3 hr3 HR HW2
    go_wp2_with fail
    go_ret
    exact ⟨x, rfl, HC3.out, HG3.out⟩
  · have hk' : (k == 11) = false := by simpa using hk
    go_wp2_with fail
    refine (c 256 _ HC (by omega) (by omega)).mono ?_
    rintro e w2 ⟨u, rfl, u0, u1, hC2, hG2, hz2⟩
    have HC2 := hide hC2
    have HG2 := hide (HG.out.trans hG2)
    clear hC2 hG2 hz2
    go_wp2_with fail
    refine (c 7 _ HC2 (by omega) (by omega)).mono ?_
    rintro e w3 ⟨v, rfl, v0, v1, hC3, hG3, hz3⟩
    have HC3 := hide hC3
    have HG3 := hide (HG2.out.trans hG3)
    clear hC3 hG3 hz3
    go_wp2_with fail
    go_ret
    exact ⟨_, rfl, HC3.out, HG3.out⟩
end Go.Proofs.Ytlfifdpklmnmpaa
