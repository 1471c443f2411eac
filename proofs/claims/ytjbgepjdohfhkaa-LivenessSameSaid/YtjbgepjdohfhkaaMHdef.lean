import Derived.Test.YtjbgepjdohfhkaaMRct
import Derived.Test.YtjbgepjdohfhkaaMPmem
import Derived.Test.YtjbgepjdohfhkaaMKit
import Derived.Test.YtjbgepjdohfhkaaMLeaf
import Derived.Deep.DeepCutAuto
import Derived.Outline
set_option linter.unusedVariables false
set_option linter.unusedSimpArgs false
section
/-
  The contracts of package effect (chapter 15) and of its reference, but In and Renamed: which slots an instruction reads, which it writes. Conditions: those of the types.
-/
namespace Go.Proofs.Ytjbgepjdohfhkaa
open Go.RowKit

theorem IntRel.lit1 {w wr w2 : World} (hb : Below w.heap.size w wr) (x : Int) (h2 : wr.alloc (.cells #[.int .i64 x] 3) = w2) : OutPost [x] w (.returned (.slice (some ⟨wr.heap.size, 0, none⟩) 1 1)) w2 := by
  subst h2
  refine ⟨_, _, rfl, ⟨by simp [cellsI], .inr ⟨wr.heap.size, 1, _, rfl, hb.size, heap_alloc_new wr _, Nat.le_refl _, by unfold maxLen; omega, by simp [cellsI], ?_⟩⟩, hb.alloc hb.size _⟩
  simp [cellsI]
theorem outpost_nil {w w2 : World} (hb : Below w.heap.size w w2) : OutPost [] w (.returned (.slice .none 0 0)) w2 := ⟨_, _, rfl, ⟨by simp [cellsI], .inl ⟨rfl, rfl⟩⟩, hb⟩
/-- What an operation is: it reads a slot, writes one, both, or none of it. -/
theorem op_cases (o : Int) : o = 15 ∨ o = 16 ∨ o = 17 ∨ (o ≠ 15 ∧ o ≠ 16 ∧ o ≠ 17) := by omega
theorem useB_no {o : Int} (h : o ≠ 15 ∧ o ≠ 16 ∧ o ≠ 17) : useB o = false := by simp [useB, h.1, h.2.2]
theorem defB_no {o : Int} (h : o ≠ 15 ∧ o ≠ 16 ∧ o ≠ 17) : defB o = false := by simp [defB, h.2.1, h.2.2]

theorem ereads_any (o : Int) (w : World) : Calls Try.prog 54 #[.int .i64 o] w fun e w' => e = .returned (.bool (useB o)) ∧ w' = w := by
  rcases op_cases o with rfl | rfl | rfl | h
  · go_enter Try.func54, Try.ntmps54
    go_wp2_with fail
    go_ret
    exact ⟨rfl, rfl⟩
  · go_enter Try.func54, Try.ntmps54
    go_wp2_with fail
    go_ret
    exact ⟨rfl, rfl⟩
  · go_enter Try.func54, Try.ntmps54
    go_wp2_with fail
    go_ret
    exact ⟨rfl, rfl⟩
  · have e1 : (o == 15) = false := by simpa using h.1
    have e2 : (o == 17) = false := by simpa using h.2.2
    have e3 := hide (useB_no h)
    clear h
    go_enter Try.func54, Try.ntmps54
    go_wp2_with fail
    go_ret
    exact ⟨ret_bool e3.out.symm, rfl⟩
theorem ewrites_any (o : Int) (w : World) : Calls Try.prog 60 #[.int .i64 o] w fun e w' => e = .returned (.bool (defB o)) ∧ w' = w := by
  rcases op_cases o with rfl | rfl | rfl | h
  · go_enter Try.func60, Try.ntmps60
    go_wp2_with fail
    go_ret
    exact ⟨rfl, rfl⟩
  · go_enter Try.func60, Try.ntmps60
    go_wp2_with fail
    go_ret
    exact ⟨rfl, rfl⟩
  · go_enter Try.func60, Try.ntmps60
    go_wp2_with fail
    go_ret
    exact ⟨rfl, rfl⟩
  · have e1 : (o == 16) = false := by simpa using h.2.1
    have e2 : (o == 17) = false := by simpa using h.2.2
    have e3 := hide (defB_no h)
    clear h
    go_enter Try.func60, Try.ntmps60
    go_wp2_with fail
    go_ret
    exact ⟨ret_bool e3.out.symm, rfl⟩

/-- The box of an instruction. -/
theorem ibox (w : World) (o a b c m : Int) : ∃ W, w.alloc (.cells #[.int .i64 o, .int .i64 a, .int .i64 b, .int .i64 c, .int .u64 m] 45) = W ∧ Row W w.heap.size 45 [.int .i64 o, .int .i64 a, .int .i64 b, .int .i64 c, .int .u64 m] ∧ Below w.heap.size w W := ⟨_, rfl, Row.new w _ _, below1 w _⟩

set_option maxHeartbeats 1000000 in
theorem euses_any (o a b c m : Int) (w : World) : Calls Try.prog 35 #[iv o a b c m] w (OutPost (usL o b) w) := by
  obtain ⟨W, hW, hR, hB⟩ := ibox w o a b c m
  have HW := hide hW
  have HB := hide hB
  have x0 := hR.cell (k := 0) rfl
  have x2 := hR.cell (k := 2) rfl
  have cr := ereads_any o W
  cases hu : useB o with
  | true =>
    rw [hu] at cr
    have e : usL o b = [b] := by unfold usL; rw [if_pos hu]
    rw [e]
    clear hW hR hB e hu
    go_enter Try.func35, Try.ntmps35
    go_upto_region 1 with (fail)
    rw [HW.out]
    go_wp2_with fail
    refine cr.mono ?_
    rintro e w' ⟨rfl, rfl⟩
    have FIN := hide (fun W2 h2 => IntRel.lit1 (w2 := W2) HB.out b h2)
    clear HW
    go_wp2_with fail
    go_ret
    exact FIN.out _ rfl
  | false =>
    rw [hu] at cr
    have e : usL o b = [] := by unfold usL; rw [hu]; rfl
    rw [e]
    clear hW hR hB e hu
    go_enter Try.func35, Try.ntmps35
    go_upto_region 1 with (fail)
    rw [HW.out]
    go_wp2_with fail
    refine cr.mono ?_
    rintro e w' ⟨rfl, rfl⟩
    clear HW
    go_wp2_with fail
    go_ret
    exact outpost_nil HB.out

/-- What Defines hands back. -/
def DefPost (o a : Int) (w : World) (e : Ending) (w' : World) : Prop := e = .returned (.tuple #[.int .i64 (dfI o a), .bool (defB o)]) ∧ Below w.heap.size w w'
theorem dfI_on {o a : Int} (h : defB o = true) : dfI o a = a := by unfold dfI; rw [if_pos h]
theorem dfI_off {o a : Int} (h : defB o = false) : dfI o a = 0 := by unfold dfI; rw [h]; rfl
set_option maxHeartbeats 1000000 in
theorem edefines_any (o a b c m : Int) (w : World) : Calls Try.prog 55 #[iv o a b c m] w (DefPost o a w) := by
  obtain ⟨W, hW, hR, hB⟩ := ibox w o a b c m
  have HW := hide hW
  have HB := hide hB
  have x0 := hR.cell (k := 0) rfl
  have x1 := hR.cell (k := 1) rfl
  have cr := ewrites_any o W
  unfold DefPost
  cases hu : defB o with
  | true =>
    rw [hu] at cr
    rw [dfI_on hu]
    clear hW hR hB hu
    go_enter Try.func55, Try.ntmps55
    go_upto_region 1 with (fail)
    rw [HW.out]
    go_wp2_with fail
    refine cr.mono ?_
    rintro e w' ⟨rfl, rfl⟩
    clear HW
    go_wp2_with fail
    go_ret2
    exact ⟨rfl, HB.out⟩
  | false =>
    rw [hu] at cr
    rw [dfI_off hu]
    clear hW hR hB hu
    go_enter Try.func55, Try.ntmps55
    go_upto_region 1 with (fail)
    rw [HW.out]
    go_wp2_with fail
    refine cr.mono ?_
    rintro e w' ⟨rfl, rfl⟩
    clear HW
    go_wp2_with fail
    go_ret2
    exact ⟨rfl, HB.out⟩
end Go.Proofs.Ytjbgepjdohfhkaa
end

section
/-
  The contract of sir.Terminator. No condition.
-/
namespace Go.Proofs.Ytjbgepjdohfhkaa
open Go.RowKit

theorem term_any (op : Int) (w : World) : Calls Try.prog 50 #[.int .i64 op] w fun e w' => e = .returned (.bool (termB op)) ∧ w = w' := by
  by_cases h1 : op = 20
  · subst h1
    go_enter Try.func50, Try.ntmps50
    go_wp2_with fail
    go_ret
    exact ⟨rfl, rfl⟩
  · by_cases h2 : op = 23
    · subst h2
      go_enter Try.func50, Try.ntmps50
      go_wp2_with fail
      go_ret
      exact ⟨rfl, rfl⟩
    · have b1 : (op == 20) = false := by simpa using h1
      have b2 : (op == 23) = false := by simpa using h2
      have e := hide (show termB op = (op == 24) by simp [termB, b1, b2])
      clear h1 h2
      go_enter Try.func50, Try.ntmps50
      go_wp2_with fail
      go_ret
      exact ⟨ret_bool e.out.symm, rfl⟩
end Go.Proofs.Ytjbgepjdohfhkaa
end
