import Derived.Test.YthaabgiefpfeaaaMHdef
set_option linter.unusedVariables false
set_option linter.unusedSimpArgs false
section
/-
  The contracts of chapter 15's reference: Uses, Removable, Defines; of the law package's awake. Conditions: those of the types.
-/
namespace Go.Proofs.Ythaabgiefpfeaaa
open Go.RowKit

set_option maxHeartbeats 1000000 in
theorem ruses_any (o a b c m : Int) (w : World) : Calls Try.prog 10 #[iv o a b c m] w (OutPost (usL o b) w) := by
  obtain ⟨W, hW, hR, hB⟩ := ibox w o a b c m
  have HW := hide hW
  have HB := hide hB
  have x0 := hR.cell (k := 0) rfl
  have x2 := hR.cell (k := 2) rfl
  have FIN := hide (fun W2 h2 => IntRel.lit1 (w2 := W2) HB.out b h2)
  clear hW hR hB
  rcases op_cases o with rfl | rfl | rfl | h
  · go_enter Try.func10, Try.ntmps10
    go_upto_region 1 with (fail)
    rw [HW.out]
    clear HW
    go_wp2_with fail
    go_ret
    exact FIN.out _ rfl
  · go_enter Try.func10, Try.ntmps10
    go_upto_region 1 with (fail)
    rw [HW.out]
    clear HW
    go_wp2_with fail
    go_ret
    exact OutPost.none HB.out
  · go_enter Try.func10, Try.ntmps10
    go_upto_region 1 with (fail)
    rw [HW.out]
    clear HW
    go_wp2_with fail
    go_ret
    exact FIN.out _ rfl
  · have e1 : (o == 15) = false := by simpa using h.1
    have e2 : (o == 17) = false := by simpa using h.2.2
    have e3 : usL o b = [] := by unfold usL; rw [useB_no h]; rfl
    rw [e3]
    clear h e3
    go_enter Try.func10, Try.ntmps10
    go_upto_region 1 with (fail)
    rw [HW.out]
    clear HW
    go_wp2_with fail
    go_ret
    exact OutPost.none HB.out
set_option maxHeartbeats 1000000 in
theorem rremovable_any (o a b c m : Int) (w : World) : Calls Try.prog 12 #[iv o a b c m] w fun e w' => e = .returned (.bool (defB o)) ∧ Below w.heap.size w w' := by
  obtain ⟨W, hW, hR, hB⟩ := ibox w o a b c m
  have HW := hide hW
  have HB := hide hB
  have x0 := hR.cell (k := 0) rfl
  clear hW hR hB
  rcases op_cases o with rfl | rfl | rfl | h
  · go_enter Try.func12, Try.ntmps12
    go_upto_region 1 with (fail)
    rw [HW.out]
    clear HW
    go_wp2_with fail
    go_ret
    exact ⟨rfl, HB.out⟩
  · go_enter Try.func12, Try.ntmps12
    go_upto_region 1 with (fail)
    rw [HW.out]
    clear HW
    go_wp2_with fail
    go_ret
    exact ⟨rfl, HB.out⟩
  · go_enter Try.func12, Try.ntmps12
    go_upto_region 1 with (fail)
    rw [HW.out]
    clear HW
    go_wp2_with fail
    go_ret
    exact ⟨rfl, HB.out⟩
  · have e1 : (o == 16) = false := by simpa using h.2.1
    have e2 : (o == 17) = false := by simpa using h.2.2
    have e3 := hide (defB_no h)
    clear h
    go_enter Try.func12, Try.ntmps12
    go_upto_region 1 with (fail)
    rw [HW.out]
    clear HW
    go_wp2_with fail
    go_ret
    exact ⟨ret_bool e3.out.symm, HB.out⟩
set_option maxHeartbeats 1000000 in
theorem rdefines_any (o a b c m : Int) (w : World) : Calls Try.prog 7 #[iv o a b c m] w (DefPost o a w) := by
  obtain ⟨W, hW, hR, hB⟩ := ibox w o a b c m
  have HW := hide hW
  have HB := hide hB
  have HR := hide hR
  have x0 := hR.cell (k := 0) rfl
  have x1 := hR.cell (k := 1) rfl
  have x2 := hR.cell (k := 2) rfl
  have x3 := hR.cell (k := 3) rfl
  have x4 := hR.cell (k := 4) rfl
  have cr := rremovable_any o a b c m W
  unfold DefPost
  cases hu : defB o with
  | true =>
    rw [hu] at cr
    rw [dfI_on hu]
    clear hW hR hB hu
    go_enter Try.func7, Try.ntmps7
    go_upto_region 1 with (fail)
    rw [HW.out]
    go_wp2_with fail
    refine cr.mono ?_
    rintro e w' ⟨rfl, hb⟩
    have HB2 := hide (below_call HB.out hb)
    have y1 := (HR.out.call hb).cell (k := 1) rfl
    clear HW hb
    go_wp2_with fail
    go_ret2
    exact ⟨rfl, HB2.out⟩
  | false =>
    rw [hu] at cr
    rw [dfI_off hu]
    clear hW hR hB hu
    go_enter Try.func7, Try.ntmps7
    go_upto_region 1 with (fail)
    rw [HW.out]
    go_wp2_with fail
    refine cr.mono ?_
    rintro e w' ⟨rfl, hb⟩
    have HB2 := hide (below_call HB.out hb)
    clear HW hb
    go_wp2_with fail
    go_ret2
    exact ⟨rfl, HB2.out⟩
set_option maxHeartbeats 1000000 in
theorem awake15_any (w : World) : Calls Try.prog 5 #[] w fun e w' => e = .returned (.bool true) ∧ Below w.heap.size w w' := by
  have cd := edefines_any 16 3 0 0 0 w
  unfold DefPost at cd
  rw [show dfI 16 3 = 3 from rfl, show defB 16 = true from rfl] at cd
  go_enter Try.func5, Try.ntmps5
  go_wp2_with fail
  refine cd.mono ?_
  rintro e w' ⟨rfl, hb⟩
  go_wp2_with fail
  go_ret
  exact ⟨rfl, hb⟩
end Go.Proofs.Ythaabgiefpfeaaa
end
