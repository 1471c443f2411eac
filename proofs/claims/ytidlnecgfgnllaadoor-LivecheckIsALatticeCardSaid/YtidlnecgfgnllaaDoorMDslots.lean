import Derived.Test.YtidlnecgfgnllaaDoorMIfo
import Derived.Test.YtidlnecgfgnllaaDoorMDslot
set_option linter.unusedVariables false
set_option linter.unusedSimpArgs false
section
/-
  The contract of spillframedraw's Slots: at most so many right slots. Conditions: the receiver is a list of choices; the number is at most 1000.
-/
namespace Go.Proofs.YtidlnecgfgnllaaDoor
open Go.RowKit

theorem Tryd.info51 : (Tryd.prog.info? 51).map (fun i => (i.zero, i.size, i.bytes)) = some (some (.agg #[.int .i64 0, .int .i64 0]), 2, 16) := by kernel_rfl

set_option maxRecDepth 100000 in
set_option maxHeartbeats 1000000 in
theorem slots_any (g m : Nat) (w : World) (h : Hid (Codes w g)) (hm : m ≤ 1000) : Calls Tryd.prog 60 #[.pointer (some ⟨g, 0, none⟩), .int .i64 (m : Int)] w (ListPost slotB g 51 m w) := by
  obtain ⟨i0, hi, hz0, hz1, hz2⟩ := info_parts Tryd.info51
  have hg := h.out.lt
  go_enter Tryd.func60, Tryd.ntmps60
  go_wp2_with fail
  refine (next_any g _ _ h (by omega) (by omega)).mono ?_
  rintro e w1 ⟨v, rfl, v0, v1, hC, hG, hz⟩
  clear hz
  obtain ⟨k, rfl⟩ := Int.eq_ofNat_of_zero_le v0
  have HR := hide (ListRel.start (ok := slotB) (t := 51) (m := m) (by omega : k ≤ m) hC hG)
  clear hC hG v0 v1
  go_wp2_with fail
  go_loopw [6, 5] (fun nv lv wr => Hid (ListRel slotB w g 51 m nv lv wr)) (fun nv _ _ => (intOf nv).toNat)
  case atStart => exact HR
  case round =>
    obtain ⟨k, l, hk, rfl, ho, hok, hC, hG⟩ := hrel.out
    have Hok := hide hok
    have HC := hide hC
    have HG := hide hG
    clear HR hrel hok hC hG
    by_cases hlt : 0 < k
    · have hlt' : (0 : Int) < (k : Int) := by omega
      obtain ⟨j, rfl⟩ : ∃ j, k = j + 1 := ⟨k - 1, by omega⟩
      go_wp2_with fail
      refine (slot_any g _ HC).mono ?_
      rintro e w2 ⟨x, y, rfl, hx, hy, hC2, hG2⟩
      have ho2 := own_drawn ho hg hG2
      have HX := hide (show slotB x y = true by unfold slotB; rw [hx, hy]; rfl)
      have HC2 := hide hC2
      have HG2 := hide (HG.out.trans hG2)
      have hbs : w.heap.size ≤ w2.heap.size := HG2.out.size
      clear hx hy hC2 hG2 ho
      go_wp2_with (at_builtin; refine wpList_append_own _ rfl (.tmp 15) (.tmp 18) 27 rfl w.heap.size 51 i0 (.agg #[.int .i64 0, .int .i64 0]) 2 16 Tryd.underlying27 hi hz0 hz1 hz2 rfl (by decide) _ l.length (pcells l) rfl (ho2.alloc _) ⟨w2.heap.size, 0, none⟩ 1 1 [.int .i64 x, .int .i64 y] rfl rfl (two_new _ _ _ _) (two_cells _ _) (by unfold maxLen; omega) (by omega) (by simp; omega) ?_)
      intro v' w3 ho3 hg3 _
      have R := hide (ListRel.step (ok := slotB) (k := j) (by omega : j + 1 + l.length ≤ m) hg ho2 Hok.out HX.out HC2.out HG2.out ho3 hg3)
      clear ho3 hg3 ho2
      go_wp2_with fail
      go_roundw
      case rel => first | exact R | (have e : ((j + 1 : Nat) : Int) - 1 = (j : Int) := (by omega); simpa [e] using R)
      case measure => simp [intOf]
    · obtain rfl : k = 0 := by omega
      obtain ⟨A, c, rfl, hA, _⟩ := own_form ho
      have HO := hide ho
      clear ho
      go_wp2_with fail
      go_ret
      exact ⟨A, c, l, rfl, hA, HO.out, by omega, Hok.out, HC.out, HG.out⟩
end Go.Proofs.YtidlnecgfgnllaaDoor
end
