import Derived.Test.YtidlnecgfgnllaaDoorMPmath
import Derived.Test.YtidlnecgfgnllaaDoorMHdef
set_option linter.unusedVariables false
set_option linter.unusedSimpArgs false
section
/-
  How a step of the equations is reckoned, set by set; the sets ahead of the instructions, one by one. No function of the program is named here.
-/
namespace Go.Proofs.YtidlnecgfgnllaaDoor
open Go.RowKit

/-- The step, so far: the first k sets are done, of set k the first i followers. -/
def stI (l : List Ins) (L : List (List Int)) (k i : Nat) : List (List Int) := (List.range l.length).map fun m => if m < k then uniL l L (suc l m) else if m = k then uniL l L ((suc l k).take i) else []
section
variable {l : List Ins} {L : List (List Int)} {k i j : Nat}
theorem stI_len (l : List Ins) (L : List (List Int)) (k i : Nat) : (stI l L k i).length = l.length := by simp [stI]
theorem stI_get (m : Nat) (h : m < l.length) : (stI l L k i)[m]? = some (if m < k then uniL l L (suc l m) else if m = k then uniL l L ((suc l k).take i) else []) := by simp [stI, h]
theorem stI_start (l : List Ins) (L : List (List Int)) : stI l L 0 0 = List.replicate l.length [] := by
  refine List.ext_getElem? fun m => ?_
  by_cases h : m < l.length
  · rw [stI_get m h, List.getElem?_replicate, if_pos h]
    by_cases hm : m = 0
    · simp [hm, uniL_nil]
    · simp [hm]
  · rw [List.getElem?_eq_none (by rw [stI_len]; omega), List.getElem?_eq_none (by simp; omega)]
theorem stI_next (l : List Ins) (L : List (List Int)) (k : Nat) : stI l L k (suc l k).length = stI l L (k + 1) 0 := by
  refine List.ext_getElem? fun m => ?_
  by_cases h : m < l.length
  · rw [stI_get m h, stI_get m h]
    rcases Nat.lt_trichotomy m k with h1 | h1 | h1
    · rw [if_pos h1, if_pos (by omega)]
    · subst h1
      rw [if_neg (by omega), if_pos rfl, if_pos (by omega), List.take_length]
    · rw [if_neg (by omega), if_neg (by omega), if_neg (by omega)]
      split
      · rw [List.take_zero, uniL_nil]
      · rfl
  · rw [List.getElem?_eq_none (by rw [stI_len]; omega), List.getElem?_eq_none (by rw [stI_len]; omega)]
theorem stI_at (i : Nat) (h : k < l.length) : (stI l L k i)[k]? = some (uniL l L ((suc l k).take i)) := by rw [stI_get k h, if_neg (by omega), if_pos rfl]
theorem stI_step (hk : k < l.length) (hj : (suc l k)[i]? = some j) : stI l L k (i + 1) = (stI l L k i).set k (unionL (uniL l L ((suc l k).take i)) (inK l L j)) := by
  refine List.ext_getElem? fun m => ?_
  by_cases h : m < l.length
  · rw [stI_get m h, List.getElem?_set]
    by_cases hm : k = m
    · subst hm
      rw [if_neg (by omega), if_pos rfl, if_pos rfl, if_pos (by rw [stI_len]; exact h)]
      obtain ⟨h1, h2⟩ := List.getElem?_eq_some_iff.1 hj
      rw [List.take_succ_eq_append_getElem h1, h2, uniL_next]
    · rw [if_neg hm, stI_get m h]
      split
      · rfl
      · rw [if_neg (by omega), if_neg (by omega)]
  · rw [List.getElem?_eq_none (by rw [stI_len]; omega), List.getElem?_eq_none (by rw [List.length_set, stI_len]; omega)]
theorem stI_end (l : List Ins) (L : List (List Int)) : stI l L l.length 0 = stepL l L := by
  refine List.ext_getElem? fun m => ?_
  by_cases h : m < l.length
  · rw [stI_get m h, stepL_at l L h, if_pos h]
  · rw [List.getElem?_eq_none (by rw [stI_len]; omega), List.getElem?_eq_none (by rw [stepL_len]; omega)]
/-- The sets ahead of the first k instructions. -/
def inI (l : List Ins) (L : List (List Int)) (k : Nat) : List (List Int) := (List.range l.length).map fun m => if m < k then inK l L m else []
theorem inI_len (l : List Ins) (L : List (List Int)) (k : Nat) : (inI l L k).length = l.length := by simp [inI]
theorem inI_get (m : Nat) (h : m < l.length) : (inI l L k)[m]? = some (if m < k then inK l L m else []) := by simp [inI, h]
theorem inI_start (l : List Ins) (L : List (List Int)) : inI l L 0 = List.replicate l.length [] := by
  refine List.ext_getElem? fun m => ?_
  by_cases h : m < l.length
  · rw [inI_get m h, List.getElem?_replicate, if_pos h, if_neg (by omega)]
  · rw [List.getElem?_eq_none (by rw [inI_len]; omega), List.getElem?_eq_none (by simp; omega)]
theorem inI_step (hk : k < l.length) : inI l L (k + 1) = (inI l L k).set k (inK l L k) := by
  refine List.ext_getElem? fun m => ?_
  by_cases h : m < l.length
  · rw [inI_get m h, List.getElem?_set]
    by_cases hm : k = m
    · subst hm
      rw [if_pos (by omega), if_pos rfl, if_pos (by rw [inI_len]; exact h)]
    · rw [if_neg hm, inI_get m h]
      split
      · rw [if_pos (by omega)]
      · rw [if_neg (by omega)]
  · rw [List.getElem?_eq_none (by rw [inI_len]; omega), List.getElem?_eq_none (by rw [List.length_set, inI_len]; omega)]
theorem inI_end (l : List Ins) (L : List (List Int)) : inI l L l.length = insL l L := by
  refine List.ext_getElem? fun m => ?_
  by_cases h : m < l.length
  · rw [inI_get m h, insL_at l L h, if_pos h]
  · rw [List.getElem?_eq_none (by rw [inI_len]; omega), List.getElem?_eq_none (by rw [insL_len]; omega)]
end
end Go.Proofs.YtidlnecgfgnllaaDoor
end

section
/-
  The contracts of chapter 15's reference: Uses, Removable, Defines; of the law package's awake. Conditions: those of the types.
-/
namespace Go.Proofs.YtidlnecgfgnllaaDoor
open Go.RowKit

set_option maxHeartbeats 1000000 in
theorem ruses_any (o a b c m : Int) (w : World) : Calls Tryd.prog 66 #[iv o a b c m] w (OutPost (usL o b) w) := by
  obtain ⟨W, hW, hR, hB⟩ := ibox w o a b c m
  have HW := hide hW
  have HB := hide hB
  have x0 := hR.cell (k := 0) rfl
  have x2 := hR.cell (k := 2) rfl
  have FIN := hide (fun W2 h2 => IntRel.lit1 (w2 := W2) HB.out b h2)
  clear hW hR hB
  rcases op_cases o with rfl | rfl | rfl | h
  · go_enter Tryd.func66, Tryd.ntmps66
    go_upto_region 1 with (fail)
    rw [HW.out]
    clear HW
    go_wp2_with fail
    go_ret
    exact FIN.out _ rfl
  · go_enter Tryd.func66, Tryd.ntmps66
    go_upto_region 1 with (fail)
    rw [HW.out]
    clear HW
    go_wp2_with fail
    go_ret
    exact outpost_nil HB.out
  · go_enter Tryd.func66, Tryd.ntmps66
    go_upto_region 1 with (fail)
    rw [HW.out]
    clear HW
    go_wp2_with fail
    go_ret
    exact FIN.out _ rfl
  · have e1 : (o == 15) = false := by simpa using h.1
    have e2 : (o == 17) = false := by simpa using h.2.2
    have e3 : usL o b = [] := by unfold usL; rw [useB_no h]; rfl
    rw [e3]
    clear h e3
    go_enter Tryd.func66, Tryd.ntmps66
    go_upto_region 1 with (fail)
    rw [HW.out]
    clear HW
    go_wp2_with fail
    go_ret
    exact outpost_nil HB.out
set_option maxHeartbeats 1000000 in
theorem rremovable_any (o a b c m : Int) (w : World) : Calls Tryd.prog 82 #[iv o a b c m] w fun e w' => e = .returned (.bool (defB o)) ∧ Below w.heap.size w w' := by
  obtain ⟨W, hW, hR, hB⟩ := ibox w o a b c m
  have HW := hide hW
  have HB := hide hB
  have x0 := hR.cell (k := 0) rfl
  clear hW hR hB
  rcases op_cases o with rfl | rfl | rfl | h
  · go_enter Tryd.func82, Tryd.ntmps82
    go_upto_region 1 with (fail)
    rw [HW.out]
    clear HW
    go_wp2_with fail
    go_ret
    exact ⟨rfl, HB.out⟩
  · go_enter Tryd.func82, Tryd.ntmps82
    go_upto_region 1 with (fail)
    rw [HW.out]
    clear HW
    go_wp2_with fail
    go_ret
    exact ⟨rfl, HB.out⟩
  · go_enter Tryd.func82, Tryd.ntmps82
    go_upto_region 1 with (fail)
    rw [HW.out]
    clear HW
    go_wp2_with fail
    go_ret
    exact ⟨rfl, HB.out⟩
  · have e1 : (o == 16) = false := by simpa using h.2.1
    have e2 : (o == 17) = false := by simpa using h.2.2
    have e3 := hide (defB_no h)
    clear h
    go_enter Tryd.func82, Tryd.ntmps82
    go_upto_region 1 with (fail)
    rw [HW.out]
    clear HW
    go_wp2_with fail
    go_ret
    exact ⟨ret_bool e3.out.symm, HB.out⟩
set_option maxHeartbeats 1000000 in
theorem rdefines_any (o a b c m : Int) (w : World) : Calls Tryd.prog 65 #[iv o a b c m] w (DefPost o a w) := by
  obtain ⟨W, hW, hR, hB⟩ := ibox w o a b c m
  have HW := hide hW
  have HB := hide hB
  have HR := hide hR
  have x0 := hR.cell (k := 0) rfl
  have x1 := hR.cell (k := 1) rfl
  have x2 := hR.cell (k := 2) rfl
  have x3 := hR.cell (k := 3) rfl
  have x4 := hR.cell (k := 4) rfl
  have cr := rremovable_any o a b c m W
  unfold DefPost
  cases hu : defB o with
  | true =>
    rw [hu] at cr
    rw [dfI_on hu]
    clear hW hR hB hu
    go_enter Tryd.func65, Tryd.ntmps65
    go_upto_region 1 with (fail)
    rw [HW.out]
    go_wp2_with fail
    refine cr.mono ?_
    rintro e w' ⟨rfl, hb⟩
    have HB2 := hide (below_call HB.out hb)
    have y1 := (HR.out.call hb).cell (k := 1) rfl
    clear HW hb
    go_wp2_with fail
    go_ret2
    exact ⟨rfl, HB2.out⟩
  | false =>
    rw [hu] at cr
    rw [dfI_off hu]
    clear hW hR hB hu
    go_enter Tryd.func65, Tryd.ntmps65
    go_upto_region 1 with (fail)
    rw [HW.out]
    go_wp2_with fail
    refine cr.mono ?_
    rintro e w' ⟨rfl, hb⟩
    have HB2 := hide (below_call HB.out hb)
    clear HW hb
    go_wp2_with fail
    go_ret2
    exact ⟨rfl, HB2.out⟩
end Go.Proofs.YtidlnecgfgnllaaDoor
end
