/-
  The contract of the laws' used: at most seven intervals of a frame. Condition: the argument is a list of choices.
-/
import Derived.Test.YtmfklggjcggoeaaDlist
namespace Go.Proofs.Ytmfklggjcggoeaa
open Go.RowKit

theorem Try.info32 : (Try.prog.info? 32).map (fun i => (i.zero, i.size, i.bytes)) = some (some (.agg #[.int .i64 0, .int .i64 0]), 2, 16) := by kernel_rfl
/-- An interval of a frame. -/
def frameB (o s : Int) : Bool := decide (0 ≤ o ∧ o < 60 ∧ 0 ≤ s ∧ s < 17)

set_option maxRecDepth 100000 in
set_option maxHeartbeats 1000000 in
theorem used_any (g : Nat) (w : World) (h : Hid (Codes w g)) : Calls Try.prog 28 #[.pointer (some ⟨g, 0, none⟩)] w (ListPost frameB g 32 7 w) := by
  obtain ⟨i0, hi, hz0, hz1, hz2⟩ := info_parts Try.info32
  have hg := h.out.lt
  go_enter Try.func28, Try.ntmps28
  go_wp2_with fail
  refine (next_any g _ _ h (by omega) (by omega)).mono ?_
  rintro e w1 ⟨v, rfl, v0, v1, hC, hG, hz⟩
  clear hz
  obtain ⟨k, rfl⟩ := Int.eq_ofNat_of_zero_le v0
  have HR := hide (ListRel.start (ok := frameB) (t := 32) (m := 7) (by omega : k ≤ 7) hC hG)
  clear hC hG v0 v1
  go_wp2_with fail
  go_loopw [4, 3] (fun nv lv wr => Hid (ListRel frameB w g 32 7 nv lv wr)) (fun nv _ _ => (intOf nv).toNat)
  case atStart => exact HR
  case round =>
    obtain ⟨k, l, hk, rfl, ho, hok, hC, hG⟩ := hrel.out
    have Hok := hide hok
    have HC := hide hC
    have HG := hide hG
    clear HR hrel hok hC hG
    by_cases hlt : 0 < k
    · have hlt' : (0 : Int) < (k : Int) := by omega
      obtain ⟨j, rfl⟩ : ∃ j, k = j + 1 := ⟨k - 1, by omega⟩
      go_wp2_with fail
      refine (next_any g _ _ HC (by omega) (by omega)).mono ?_
      rintro e w2 ⟨x, rfl, x0, x1, hC2, hG2, hz⟩
      clear hz
      have HC2 := hide hC2
      have HG2 := hide (HG.out.trans hG2)
      have ho2 := own_drawn ho hg hG2
      clear hC2 hG2 ho
      go_wp2_with fail
      refine (next_any g _ _ HC2 (by omega) (by omega)).mono ?_
      rintro e w3 ⟨y, rfl, y0, y1, hC3, hG3, hz⟩
      clear hz
      have HC3 := hide hC3
      have HG3 := hide (HG2.out.trans hG3)
      have ho3 := own_drawn ho2 hg hG3
      have hbs : w.heap.size ≤ w3.heap.size := HG3.out.size
      have HX := hide (show frameB x y = true by simp [frameB]; omega)
      clear hC3 hG3 ho2 x0 x1 y0 y1
      go_wp2_with (at_builtin; refine wpList_append_own _ rfl (.tmp 11) (.tmp 17) 48 rfl w.heap.size 32 i0 (.agg #[.int .i64 0, .int .i64 0]) 2 16 Try.underlying48 hi hz0 hz1 hz2 rfl (by decide) _ l.length (pcells l) rfl (ho3.alloc _) ⟨w3.heap.size, 0, none⟩ 1 1 [.int .i64 x, .int .i64 y] rfl rfl (two_new _ _ _ _) (two_cells _ _) (by unfold maxLen; omega) (by omega) (by simp; omega) ?_)
      intro v' w4 ho4 hg4 _
      have R := hide (ListRel.step (ok := frameB) (k := j) (by omega : j + 1 + l.length ≤ 7) hg ho3 Hok.out HX.out HC3.out HG3.out ho4 hg4)
      clear ho4 hg4 ho3
      go_wp2_with fail
      go_roundw
      case rel => first | exact R | (have e : ((j + 1 : Nat) : Int) - 1 = (j : Int) := by omega
                                     simpa [e] using R)
      case measure => simp [intOf]
    · obtain rfl : k = 0 := by omega
      obtain ⟨A, c, rfl, hA, _⟩ := own_form ho
      have HO := hide ho
      clear ho
      go_wp2_with fail
      go_ret
      exact ⟨A, c, l, rfl, hA, HO.out, by omega, Hok.out, HC.out, HG.out⟩
end Go.Proofs.Ytmfklggjcggoeaa
