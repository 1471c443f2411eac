import Derived.Test.YtidlnecgfgnllaaDoorMPmath
import Derived.Test.YtidlnecgfgnllaaDoorMAsal
import Derived.Test.YtidlnecgfgnllaaDoorMFrows
import Derived.Test.YtidlnecgfgnllaaDoorMOwr
import Derived.Test.YtidlnecgfgnllaaDoorMBtrem
import Derived.Test.YtidlnecgfgnllaaDoorMBwmi
import Derived.Test.YtidlnecgfgnllaaDoorMFbg
import Derived.Deep.RegionHeld3
import Derived.Deep.DeepCutAuto
set_option linter.unusedVariables false
set_option linter.unusedSimpArgs false
section
/-
  What could be left out of an accepted annotation, as mathematics. No function of the program is named here.
-/
namespace Go.Proofs.YtidlnecgfgnllaaDoor
open Go.RowKit

/-- What the set of j still asks for if an element is left out of the set of k. -/
def rsL (L : List (List Int)) (k j : Nat) : List Int := if j = k then [] else L.getD j []
def rsK (l : List Ins) (L : List (List Int)) (k j : Nat) : List Int := match l[j]? with
  | none => []
  | some x => inX x (rsL L k j)
def frS (l : List Ins) (L : List (List Int)) (k : Nat) (js : List Nat) : List Int := js.foldl (fun r j => minusL r (rsK l L k j)) (L.getD k [])
/-- The sets so far: the first k are done, of set k the first i followers. -/
def frI (l : List Ins) (L : List (List Int)) (k i : Nat) : List (List Int) := (List.range L.length).map fun m => if m < k then frS l L m (suc l m) else if m = k then frS l L m ((suc l m).take i) else L.getD m []
section
variable {l : List Ins} {M n k j i m : Nat} {z s t : Int} {L L' : List (List Int)} {x : Ins}
theorem rsK_some (hx : l[j]? = some x) (L : List (List Int)) (k : Nat) : rsK l L k j = inX x (rsL L k j) := by unfold rsK; rw [hx]
theorem rsL_asc (hL : ∀ k : Nat, Asc (L.getD k [])) (k j : Nat) : Asc (rsL L k j) := by
  unfold rsL
  split
  · exact Asc.nil
  · exact hL j
theorem rsK_asc (hL : ∀ k : Nat, Asc (L.getD k [])) (k j : Nat) : Asc (rsK l L k j) := by
  unfold rsK
  split
  · exact Asc.nil
  · exact inX_asc _ (rsL_asc hL k j)
theorem frS_nil (l : List Ins) (L : List (List Int)) (k : Nat) : frS l L k [] = L.getD k [] := rfl
theorem frS_next (l : List Ins) (L : List (List Int)) (k : Nat) (js : List Nat) (j : Nat) : frS l L k (js ++ [j]) = minusL (frS l L k js) (rsK l L k j) := by simp [frS]
theorem frS_asc (hL : ∀ k : Nat, Asc (L.getD k [])) (k : Nat) (js : List Nat) : Asc (frS l L k js) := by
  have H : ∀ (js : List Nat) (r : List Int), Asc r → Asc (js.foldl (fun r j => minusL r (rsK l L k j)) r) := by
    intro js
    induction js with
    | nil => exact fun r h => h
    | cons a t ih => exact fun r h => ih _ (minusL_asc h _)
  exact H js _ (hL k)
theorem mem_frS (js : List Nat) : z ∈ frS l L k js ↔ z ∈ L.getD k [] ∧ ∀ j ∈ js, z ∉ rsK l L k j := by
  have H : ∀ (js : List Nat) (r : List Int), z ∈ js.foldl (fun r j => minusL r (rsK l L k j)) r ↔ z ∈ r ∧ ∀ j ∈ js, z ∉ rsK l L k j := by
    intro js
    induction js with
    | nil => intro r; simp
    | cons a t ih =>
      intro r
      rw [List.foldl_cons, ih, mem_minus, and_assoc]
      simp
  exact H js _
theorem frI_len (l : List Ins) (L : List (List Int)) (k i : Nat) : (frI l L k i).length = L.length := by simp [frI]
theorem frI_get (m : Nat) (h : m < L.length) : (frI l L k i)[m]? = some (if m < k then frS l L m (suc l m) else if m = k then frS l L m ((suc l m).take i) else L.getD m []) := by simp [frI, h]
theorem frI_start (l : List Ins) (L : List (List Int)) : frI l L 0 0 = L := by
  refine List.ext_getElem? fun m => ?_
  by_cases h : m < L.length
  · have e : some (L.getD m []) = L[m]? := by rw [List.getD_eq_getElem?_getD, List.getElem?_eq_getElem h]; rfl
    rw [frI_get m h, if_neg (by omega), ← e]
    split
    · rw [List.take_zero, frS_nil]
    · rfl
  · rw [List.getElem?_eq_none (by rw [frI_len]; omega), List.getElem?_eq_none (by omega)]
theorem frI_next (l : List Ins) (L : List (List Int)) (k : Nat) : frI l L k (suc l k).length = frI l L (k + 1) 0 := by
  refine List.ext_getElem? fun m => ?_
  by_cases h : m < L.length
  · rw [frI_get m h, frI_get m h]
    rcases Nat.lt_trichotomy m k with h1 | h1 | h1
    · rw [if_pos h1, if_pos (by omega)]
    · subst h1
      rw [if_neg (by omega), if_pos rfl, if_pos (by omega), List.take_length]
    · rw [if_neg (by omega), if_neg (by omega), if_neg (by omega)]
      split
      · rw [List.take_zero, frS_nil]
      · rfl
  · rw [List.getElem?_eq_none (by rw [frI_len]; omega), List.getElem?_eq_none (by rw [frI_len]; omega)]
theorem frI_at (i : Nat) (h : k < L.length) : (frI l L k i)[k]? = some (frS l L k ((suc l k).take i)) := by rw [frI_get k h, if_neg (by omega), if_pos rfl]
theorem frI_step (hk : k < L.length) (hj : (suc l k)[i]? = some j) : frI l L k (i + 1) = (frI l L k i).set k (minusL (frS l L k ((suc l k).take i)) (rsK l L k j)) := by
  refine List.ext_getElem? fun m => ?_
  by_cases h : m < L.length
  · rw [frI_get m h, List.getElem?_set]
    by_cases hm : k = m
    · subst hm
      rw [if_neg (by omega), if_pos rfl, if_pos rfl, if_pos (by rw [frI_len]; exact h)]
      obtain ⟨h1, h2⟩ := List.getElem?_eq_some_iff.1 hj
      rw [List.take_succ_eq_append_getElem h1, h2, frS_next]
    · rw [if_neg hm, frI_get m h]
      split
      · rfl
      · rw [if_neg (by omega), if_neg (by omega)]
  · rw [List.getElem?_eq_none (by rw [frI_len]; omega), List.getElem?_eq_none (by rw [List.length_set, frI_len]; omega)]
/-- How much could be left out. -/
def slN (l : List Ins) (L : List (List Int)) : Nat := szL (frI l L l.length 0)
def slV (l : List Ins) (M : Nat) (L : List (List Int)) : Nat := if okL l M L then slN l L else 0
theorem removeL_asc {a : List Int} (h : Asc a) (z : Int) : Asc (removeL a z) := filter_asc _ h
theorem mem_removeL {a : List Int} : z ∈ removeL a s ↔ z ∈ a ∧ z ≠ s := by simp [removeL]
theorem getD_lset (L : List (List Int)) (k m : Nat) (a : List Int) (hk : k < L.length) : (L.set k a).getD m [] = if k = m then a else L.getD m [] := by
  rw [List.getD_eq_getElem?_getD, List.getElem?_set, List.getD_eq_getElem?_getD]
  by_cases h : k = m
  · subst h
    rw [if_pos rfl, if_pos rfl, if_pos hk]; rfl
  · rw [if_neg h, if_neg h]
theorem LvIn.less (h : LvIn n M L) (hk : k < n) (z : Int) : LvIn n M (L.set k (removeL (L.getD k []) z)) := by
  refine ⟨by rw [List.length_set]; exact h.len, fun m => ?_, fun m y hy => ?_⟩
  · rw [getD_lset L k m _ (by rw [h.len]; exact hk)]
    split
    · exact removeL_asc (h.asc k) z
    · exact h.asc m
  · rw [getD_lset L k m _ (by rw [h.len]; exact hk)] at hy
    split at hy
    · rename_i e; subst e; exact h.lt k y (mem_removeL.1 hy).1
    · exact h.lt m y hy
/-- The set of k without z: what is missing then. -/
theorem less_ms (hok : LvOk l M) (hL : LvIn l.length M L) (hs : SubL (stepL l L) L) (hk : k < l.length) (hz : z ∈ L.getD k []) :
    (∀ m y, Ms l (L.set k (removeL (L.getD k []) z)) m y → m = k ∧ y = z) ∧ (Ms l (L.set k (removeL (L.getD k []) z)) k z ↔ ∃ j ∈ suc l k, z ∈ rsK l L k j) := by
  have hL' := hL.less hk z
  have hkl : k < L.length := by rw [hL.len]; exact hk
  have sub : SubL (L.set k (removeL (L.getD k []) z)) L := fun m y hy => by
    rw [getD_lset L k m _ hkl] at hy
    split at hy
    · rename_i e; subst e; exact (mem_removeL.1 hy).1
    · exact hy
  constructor
  · rintro m y ⟨h1, h2⟩
    rw [mem_uniL hL'.asc] at h1
    obtain ⟨j, hj, h1⟩ := h1
    have h3 : y ∈ L.getD m [] := hs m y (by rw [stepL_get, mem_uniL hL.asc]; exact ⟨j, hj, inK_mono hok sub h1⟩)
    rw [getD_lset L k m _ hkl] at h2
    by_cases e : k = m
    · subst e
      rw [if_pos rfl, mem_removeL] at h2
      exact ⟨rfl, Classical.byContradiction fun hn => h2 ⟨h3, hn⟩⟩
    · rw [if_neg e] at h2
      exact (h2 h3).elim
  · unfold Ms
    rw [mem_uniL hL'.asc, getD_lset L k k _ hkl, if_pos rfl, mem_removeL]
    have key : ∀ j, z ∈ inK l (L.set k (removeL (L.getD k []) z)) j ↔ z ∈ rsK l L k j := fun j => by
      cases hx : l[j]? with
      | none => unfold inK rsK; rw [hx]
      | some x =>
        rw [mem_inK hok hx, rsK_some hx, inX, mem_inX (hok.usAsc hx), getD_lset L k j _ hkl]
        unfold rsL
        by_cases e : k = j
        · subst e
          rw [if_pos rfl, if_pos rfl, mem_removeL]
          simp
        · rw [if_neg e, if_neg (fun h => e h.symm)]
    constructor
    · rintro ⟨⟨j, hj, h⟩, -⟩
      exact ⟨j, hj, (key j).1 h⟩
    · rintro ⟨j, hj, h⟩
      exact ⟨⟨j, hj, (key j).2 h⟩, by simp⟩
theorem less_ok (hok : LvOk l M) (hL : okL l M L = true) (hk : k < l.length) (hz : z ∈ L.getD k []) :
    okL l M (L.set k (removeL (L.getD k []) z)) = decide (z ∈ frS l L k (suc l k)) := by
  obtain ⟨h1, h2⟩ := okL_iff.1 hL
  obtain ⟨h3, h4⟩ := less_ms hok h1 h2 hk hz
  have hL' := h1.less hk z
  by_cases h : ∃ j ∈ suc l k, z ∈ rsK l L k j
  · rw [decide_eq_false (by rw [mem_frS]; rintro ⟨-, h5⟩; obtain ⟨j, hj, h6⟩ := h; exact h5 j hj h6)]
    have h5 := h4.2 h
    refine Bool.eq_false_iff.2 fun h6 => ?_
    have h7 := (okL_iff.1 h6).2 k z (by rw [stepL_get]; exact h5.1)
    exact h5.2 h7
  · rw [decide_eq_true (by rw [mem_frS]; exact ⟨hz, fun j hj h6 => h ⟨j, hj, h6⟩⟩)]
    refine okL_iff.2 ⟨hL', fun m y hy => ?_⟩
    rw [stepL_get] at hy
    refine Classical.byContradiction fun hn => ?_
    obtain ⟨rfl, rfl⟩ := h3 m y ⟨hy, hn⟩
    exact h (h4.1 ⟨hy, hn⟩)
/-- How many of the first i elements of the set of k could be left out. -/
def cnS (l : List Ins) (L : List (List Int)) (k i : Nat) : Nat := (((L.getD k []).take i).filter fun z => decide (z ∈ frS l L k (suc l k))).length
/-- The same, of the first k sets. -/
def cnI (l : List Ins) (L : List (List Int)) (k : Nat) : Nat := ((List.range k).map fun m => (frS l L m (suc l m)).length).sum
theorem cnS_zero (l : List Ins) (L : List (List Int)) (k : Nat) : cnS l L k 0 = 0 := by simp [cnS]
theorem cnS_step (hz : (L.getD k [])[i]? = some z) : cnS l L k (i + 1) = cnS l L k i + (if z ∈ frS l L k (suc l k) then 1 else 0) := by
  obtain ⟨h1, h2⟩ := List.getElem?_eq_some_iff.1 hz
  unfold cnS
  rw [List.take_succ_eq_append_getElem h1, h2, List.filter_append, List.length_append]
  congr 1
  by_cases h : z ∈ frS l L k (suc l k) <;> simp [h]
theorem cnS_full (hL : ∀ k : Nat, Asc (L.getD k [])) (k : Nat) : cnS l L k (L.getD k []).length = (frS l L k (suc l k)).length := by
  unfold cnS
  rw [List.take_length]
  congr 1
  refine (filter_asc _ (hL k)).ext (frS_asc hL k _) fun z _ _ => ?_
  rw [List.mem_filter, decide_eq_true_iff]
  exact ⟨fun h => h.2, fun h => ⟨((mem_frS _).1 h).1, h⟩⟩
theorem cnS_le (l : List Ins) (L : List (List Int)) (k i : Nat) : cnS l L k i ≤ (L.getD k []).length := by
  unfold cnS
  refine Nat.le_trans (List.length_filter_le _ _) ?_
  rw [List.length_take]
  omega
theorem cnI_zero (l : List Ins) (L : List (List Int)) : cnI l L 0 = 0 := rfl
theorem cnI_step (l : List Ins) (L : List (List Int)) (k : Nat) : cnI l L (k + 1) = cnI l L k + (frS l L k (suc l k)).length := by simp [cnI, List.range_succ]
theorem cnI_end (h : L.length = l.length) : cnI l L l.length = slN l L := by
  unfold cnI slN szL frI
  rw [h, List.map_map]
  congr 1
  refine List.map_congr_left fun m hm => ?_
  rw [List.mem_range] at hm
  simp [hm]
theorem frS_le (hL : ∀ k : Nat, Asc (L.getD k [])) (hM : ∀ (k : Nat) (z : Int), z ∈ L.getD k [] → z < (M : Int)) (k : Nat) (js : List Nat) : (frS l L k js).length ≤ M :=
  asc_le (frS_asc hL k js) fun z hz => hM k z ((mem_frS js).1 hz).1
theorem cnI_le (hL : ∀ k : Nat, Asc (L.getD k [])) (hM : ∀ (k : Nat) (z : Int), z ∈ L.getD k [] → z < (M : Int)) : ∀ k : Nat, cnI l L k ≤ k * M
  | 0 => by rw [cnI_zero]; omega
  | k + 1 => by
    have h1 := cnI_le hL hM k
    have h2 := frS_le (l := l) hL hM k (suc l k)
    rw [cnI_step, Nat.add_mul]
    omega
theorem szI_step (zss : List (List Int)) (k : Nat) {a : List Int} (h : zss[k]? = some a) : szL (zss.take (k + 1)) = szL (zss.take k) + a.length := by
  obtain ⟨h1, h2⟩ := List.getElem?_eq_some_iff.1 h
  rw [List.take_succ_eq_append_getElem h1, h2]
  simp [szL]
theorem frI_in (hL : LvIn n M L) (k i : Nat) : LvIn n M (frI l L k i) := by
  have g : ∀ m, m < L.length → (frI l L k i).getD m [] = if m < k then frS l L m (suc l m) else if m = k then frS l L m ((suc l m).take i) else L.getD m [] := fun m hm => by
    rw [List.getD_eq_getElem?_getD, frI_get m hm]; rfl
  have o : ∀ m, ¬ m < L.length → (frI l L k i).getD m [] = [] := fun m hm => by
    rw [List.getD_eq_getElem?_getD, List.getElem?_eq_none (by rw [frI_len]; omega)]; rfl
  refine ⟨by rw [frI_len]; exact hL.len, fun m => ?_, fun m z hz => ?_⟩
  · by_cases hm : m < L.length
    · rw [g m hm]
      split
      · exact frS_asc hL.asc _ _
      · split
        · exact frS_asc hL.asc _ _
        · exact hL.asc m
    · rw [o m hm]; exact Asc.nil
  · by_cases hm : m < L.length
    · rw [g m hm] at hz
      split at hz
      · exact hL.lt m z ((mem_frS _).1 hz).1
      · split at hz
        · exact hL.lt m z ((mem_frS _).1 hz).1
        · exact hL.lt m z hz
    · rw [o m hm] at hz; cases hz

/-- The least solution is accepted. -/
theorem sol_ok (hok : LvOk l M) : okL l M (solL l M) = true := okL_iff.2 ⟨sol_in hok, by rw [sol_fix hok]; exact fun _ _ h => h⟩
/-- What is live behind k is asked for by a follower, though it be left out of the set of k. -/
theorem lv_rs (hok : LvOk l M) (h : Lv l k z) : ∃ j ∈ suc l k, z ∈ rsK l (solL l M) k j := by
  induction h with
  | use hj hx hu => exact ⟨_, hj, by rw [rsK_some hx, inX, mem_inX (hok.usAsc hx)]; exact .inr hu⟩
  | @on k j x s hj hx hn hl ih =>
    by_cases e : j = k
    · subst e
      exact ih
    · refine ⟨j, hj, ?_⟩
      rw [rsK_some hx, inX, mem_inX (hok.usAsc hx)]
      refine .inl ⟨?_, hn⟩
      unfold rsL
      rw [if_neg e]
      exact (mem_sol hok).2 hl
theorem sol_slack (hok : LvOk l M) : slV l M (solL l M) = 0 := by
  unfold slV
  rw [if_pos (sol_ok hok), ← cnI_end (sol_in hok).len]
  have H : ∀ k : Nat, frS l (solL l M) k (suc l k) = [] := fun k => by
    refine List.eq_nil_iff_forall_not_mem.2 fun z hz => ?_
    rw [mem_frS] at hz
    obtain ⟨j, hj, h⟩ := lv_rs hok ((mem_sol hok).1 hz.1)
    exact hz.2 j hj h
  have : ∀ k : Nat, cnI l (solL l M) k = 0 := fun k => by
    induction k with
    | zero => rfl
    | succ k ih => rw [cnI_step, ih, H]; rfl
  exact this _
/-- An element that is left out of the least solution is found. -/
theorem sol_less (hok : LvOk l M) (hk : k < l.length) (hz : z ∈ (solL l M).getD k []) :
    okL l M ((solL l M).set k (removeL ((solL l M).getD k []) z)) = false ∧ frV l M ((solL l M).set k (removeL ((solL l M).getD k []) z)) = (k, z, true) := by
  have hL := sol_in hok
  have hs : SubL (stepL l (solL l M)) (solL l M) := by rw [sol_fix hok]; exact fun _ _ h => h
  obtain ⟨h1, h2⟩ := less_ms hok hL hs hk hz
  have h3 := h2.2 (lv_rs hok ((mem_sol hok).1 hz))
  have hL' := hL.less hk z
  have h4 : fstV l ((solL l M).set k (removeL ((solL l M).getD k []) z)) = (k, z, true) := by
    refine Fst.val hL'.asc (.inr ⟨rfl, hk, h3, fun y hy => ?_, fun m y hm hy => ?_⟩)
    · rw [(h1 k y hy).2]; omega
    · have := (h1 m y hy).1
      omega
  have h5 := belB_iff.2 hL'
  constructor
  · unfold okL
    rw [h4, h5]; rfl
  · unfold frV
    rw [if_pos h5, h4]
/-- An accepted annotation contains the least solution. -/
theorem ok_sound (hok : LvOk l M) (h : okL l M L = true) : SubL (solL l M) L := fun k z hz => by
  obtain ⟨h1, h2⟩ := okL_iff.1 h
  exact pre_all hok h1.asc h2 ((mem_sol hok).1 hz)
/-- Unions and intersections. -/
def unL (A B : List (List Int)) : List (List Int) := (List.range A.length).map fun k => unionL (A.getD k []) (B.getD k [])
def meL (A B : List (List Int)) : List (List Int) := (List.range A.length).map fun k => meetL (A.getD k []) (B.getD k [])
variable {A B : List (List Int)}
theorem unL_get (h : k < A.length) : (unL A B).getD k [] = unionL (A.getD k []) (B.getD k []) := by rw [List.getD_eq_getElem?_getD]; simp [unL, h]
theorem meL_get (h : k < A.length) : (meL A B).getD k [] = meetL (A.getD k []) (B.getD k []) := by rw [List.getD_eq_getElem?_getD]; simp [meL, h]
theorem mem_unL (hA : LvIn n M A) (hB : LvIn n M B) : z ∈ (unL A B).getD k [] ↔ z ∈ A.getD k [] ∨ z ∈ B.getD k [] := by
  by_cases h : k < A.length
  · rw [unL_get h, mem_union (hB.asc k)]
  · have e1 : A.getD k [] = [] := by rw [List.getD_eq_getElem?_getD, List.getElem?_eq_none (by omega)]; rfl
    have e2 : B.getD k [] = [] := by rw [List.getD_eq_getElem?_getD, List.getElem?_eq_none (by rw [hB.len, ← hA.len]; omega)]; rfl
    have e3 : (unL A B).getD k [] = [] := by rw [List.getD_eq_getElem?_getD, List.getElem?_eq_none (by simp [unL]; omega)]; rfl
    rw [e1, e2, e3]; simp
theorem mem_meL (hA : LvIn n M A) : z ∈ (meL A B).getD k [] ↔ z ∈ A.getD k [] ∧ z ∈ B.getD k [] := by
  by_cases h : k < A.length
  · rw [meL_get h, mem_meet]
  · have e1 : A.getD k [] = [] := by rw [List.getD_eq_getElem?_getD, List.getElem?_eq_none (by omega)]; rfl
    have e3 : (meL A B).getD k [] = [] := by rw [List.getD_eq_getElem?_getD, List.getElem?_eq_none (by simp [meL]; omega)]; rfl
    rw [e1, e3]; simp
theorem unL_in (hA : LvIn n M A) (hB : LvIn n M B) : LvIn n M (unL A B) := by
  refine ⟨by simp [unL, hA.len], fun k => ?_, fun k z hz => ?_⟩
  · by_cases h : k < A.length
    · rw [unL_get h]; exact unionL_asc (hA.asc k)
    · rw [List.getD_eq_getElem?_getD, List.getElem?_eq_none (by simp [unL]; omega)]; exact Asc.nil
  · rcases (mem_unL hA hB).1 hz with h | h
    · exact hA.lt k z h
    · exact hB.lt k z h
theorem meL_in (hA : LvIn n M A) : LvIn n M (meL A B) := by
  refine ⟨by simp [meL, hA.len], fun k => ?_, fun k z hz => hA.lt k z ((mem_meL hA).1 hz).1⟩
  by_cases h : k < A.length
  · rw [meL_get h]; exact filter_asc _ (hA.asc k)
  · rw [List.getD_eq_getElem?_getD, List.getElem?_eq_none (by simp [meL]; omega)]; exact Asc.nil
theorem ok_un (hok : LvOk l M) (hA : okL l M A = true) (hB : okL l M B = true) : okL l M (unL A B) = true := by
  obtain ⟨a1, a2⟩ := okL_iff.1 hA
  obtain ⟨b1, b2⟩ := okL_iff.1 hB
  have hU := unL_in a1 b1
  refine okL_iff.2 ⟨hU, fun k z hz => ?_⟩
  rw [stepL_get, mem_uniL hU.asc] at hz
  obtain ⟨j, hj, hz⟩ := hz
  rw [mem_unL a1 b1]
  cases hx : l[j]? with
  | none => unfold inK at hz; rw [hx] at hz; cases hz
  | some x =>
    rw [mem_inK hok hx, mem_unL a1 b1] at hz
    have pa : z ∈ inK l A j → z ∈ A.getD k [] := fun h => a2 k z (by rw [stepL_get, mem_uniL a1.asc]; exact ⟨j, hj, h⟩)
    have pb : z ∈ inK l B j → z ∈ B.getD k [] := fun h => b2 k z (by rw [stepL_get, mem_uniL b1.asc]; exact ⟨j, hj, h⟩)
    rw [mem_inK hok hx] at pa pb
    rcases hz with ⟨h | h, hn⟩ | h
    · exact .inl (pa (.inl ⟨h, hn⟩))
    · exact .inr (pb (.inl ⟨h, hn⟩))
    · exact .inl (pa (.inr h))
theorem ok_me (hok : LvOk l M) (hA : okL l M A = true) (hB : okL l M B = true) : okL l M (meL A B) = true := by
  obtain ⟨a1, a2⟩ := okL_iff.1 hA
  obtain ⟨b1, b2⟩ := okL_iff.1 hB
  have hU := meL_in (B := B) a1
  refine okL_iff.2 ⟨hU, fun k z hz => ?_⟩
  rw [stepL_get, mem_uniL hU.asc] at hz
  obtain ⟨j, hj, hz⟩ := hz
  rw [mem_meL a1]
  have sa : SubL (meL A B) A := fun m y hy => ((mem_meL a1).1 hy).1
  have sb : SubL (meL A B) B := fun m y hy => ((mem_meL a1).1 hy).2
  exact ⟨a2 k z (by rw [stepL_get, mem_uniL a1.asc]; exact ⟨j, hj, inK_mono hok sa hz⟩), b2 k z (by rw [stepL_get, mem_uniL b1.asc]; exact ⟨j, hj, inK_mono hok sb hz⟩)⟩
/-- A slot may be added to all sets. -/
theorem ok_ad (hok : LvOk l M) (hA : okL l M L = true) (h0 : 0 ≤ s) (h1 : s < M) : okL l M (adI L s l.length) = true := by
  obtain ⟨a1, a2⟩ := okL_iff.1 hA
  exact okL_iff.2 ⟨adI_in a1 h1 l.length, adI_acc hok a1 a2 h0 h1⟩
end
end Go.Proofs.YtidlnecgfgnllaaDoor
end

section
/-
  A row of slices that a call made, whose lists need not be its own: they can be read, and lie elsewhere. No function of the program is named here.
-/
namespace Go.Proofs.YtidlnecgfgnllaaDoor
open Go.RowKit

/-- A list that does not lie in block g. -/
def Awy (A : Option Addr) (zs : List Int) (g : Nat) : Prop := 0 < zs.length → ∀ b off, A = some ⟨b, off, none⟩ → b ≠ g
theorem Lst.far {w : World} {A : Option Addr} {n g k : Nat} {zs : List Int} (h : Lst w A n zs) (ha : Awy A zs g) (u : Value) : Lst (w.setCell ⟨g, k, none⟩ u) A n zs := by
  refine ⟨h.len, h.le, fun i v hv => ?_, h.rng⟩
  obtain ⟨b, off, e, hb, hc⟩ := h.see i v hv
  have h0 : 0 < zs.length := by
    have := (List.getElem?_eq_some_iff.1 hv).1
    rw [cellsI, List.length_map] at this
    omega
  have hne := ha h0 b off e
  refine ⟨b, off, e, by simpa using hb, ?_⟩
  rw [World.cell?_setCell_other _ _ _ _ (fun e2 => hne (congrArg Addr.block e2).symm)]
  exact hc
structure Anr (w : World) (base g : Nat) (vs sp : List Value) (zss : List (List Int)) : Prop where
  len : vs.length = zss.length
  row : Row w g 42 (vs ++ sp)
  gb : base ≤ g
  lst : ∀ (i : Nat) (v : Value) (zs : List Int), vs[i]? = some v → zss[i]? = some zs → ∃ (A : Option Addr) (c : Nat), v = .slice A zs.length c ∧ Lst w A zs.length zs ∧ (A = none → c = 0) ∧ Awy A zs g
section
variable {w w' : World} {base g : Nat} {vs sp : List Value} {zss : List (List Int)}
theorem Anr.below (h : Anr w base g vs sp zss) (hb : Below w.heap.size w w') : Anr w' base g vs sp zss :=
  ⟨h.len, h.row.call hb, h.gb, fun i v zs hv hz => by obtain ⟨A, c, e, hl, hn, ha⟩ := h.lst i v zs hv hz; exact ⟨A, c, e, hl.below hb, hn, ha⟩⟩
theorem Anr.vat (h : Anr w base g vs sp zss) {i : Nat} {zs : List Int} (hz : zss[i]? = some zs) : ∃ (A : Option Addr) (c : Nat), vs[i]? = some (.slice A zs.length c) ∧ w.cell? ⟨g, i, none⟩ = some (.slice A zs.length c) ∧ Lst w A zs.length zs ∧ (A = none → c = 0) := by
  have hv := List.getElem?_eq_getElem (show i < vs.length by rw [h.len]; exact (List.getElem?_eq_some_iff.1 hz).1)
  obtain ⟨A, c, e, hl, hn, -⟩ := h.lst i _ _ hv hz
  rw [e] at hv
  exact ⟨A, c, hv, h.row.cell (by rw [List.getElem?_append_left (List.getElem?_eq_some_iff.1 hv).1]; exact hv), hl, hn⟩
theorem Anr.free (h : Anr w base g vs sp zss) (i : Nat) : w.frozen? ⟨g, i, none⟩ = false := h.row.free i
theorem Anr.put (h : Anr w base g vs sp zss) {j c : Nat} {A : Option Addr} {zs : List Int} (hj : j < zss.length) (hl : Lst w A zs.length zs) (hn : A = none → c = 0) (ha : Awy A zs g) :
    Anr (w.setCell ⟨g, j, none⟩ (.slice A zs.length c)) base g (vs.set j (.slice A zs.length c)) sp (zss.set j zs) := by
  have hj' : j < vs.length := by rw [h.len]; exact hj
  refine ⟨by simpa using h.len, ?_, h.gb, fun i u ys h1 h2 => ?_⟩
  · have := h.row.set_ j (.slice A zs.length c)
    rwa [List.set_append_left _ _ hj'] at this
  · rw [List.getElem?_set] at h1 h2
    by_cases e : j = i
    · rw [if_pos e, if_pos hj'] at h1
      rw [if_pos e, if_pos hj] at h2
      injection h1 with h1
      injection h2 with h2
      subst h1 h2
      exact ⟨A, c, rfl, hl.far ha _, hn, ha⟩
    · rw [if_neg e] at h1 h2
      obtain ⟨A2, c2, e2, hl2, hn2, ha2⟩ := h.lst i u ys h1 h2
      exact ⟨A2, c2, e2, hl2.far ha2 _, hn2, ha2⟩
theorem Anr.ann (h : Anr w base g vs sp zss) {n : Nat} (hn : zss.length = n) (hm : n ≤ 1048576) : Ann w (some ⟨g, 0, none⟩) n zss := by
  refine ⟨hn, hm, vs, fun k u hu => ⟨g, 0, rfl, h.row.lt, ?_⟩, by rw [h.len, hn], fun i v zs hv hz => ?_⟩
  · rw [Nat.zero_add]
    exact h.row.cell (by rw [List.getElem?_append_left (List.getElem?_eq_some_iff.1 hu).1]; exact hu)
  · obtain ⟨A, c, e, hl, hn', -⟩ := h.lst i v zs hv hz
    exact ⟨A, c, e, hl, hn'⟩
/-- What a call returns lies in a new block. -/
theorem OutPost.openA {r : List Int} {w w' : World} {e : Ending} (h : OutPost r w e w') (ha : Hid (Asc r)) : ∃ A c, e = .returned (.slice A r.length c) ∧ Hid (Lst w' A r.length r) ∧ Hid (A = none → c = 0) ∧ Hid (∀ g, g < w.heap.size → Awy A r g) ∧ Below w.heap.size w w' := by
  obtain ⟨A, c, e1, hL, hn, hb⟩ := h.open ha
  refine ⟨A, c, e1, hL, hn, hide fun g hg _ b off hA => ?_, hb⟩
  obtain ⟨A', c', e2, ho, -⟩ := h
  rw [e1] at e2
  injection e2 with e2
  injection e2 with e2 e3 e4
  subst e2 e4
  rcases ho.2 with ⟨q, -⟩ | ⟨g', cap, cur, q, hg', -⟩
  · injection q with q
    rw [hA] at q; cases q
  · injection q with q
    rw [hA] at q
    injection q with q
    injection q with q
    omega
/-- A copy of a row of slices, in a new block. -/
theorem Anr.copy {n : Nat} {A : Option Addr} {g : Nat} {us : List Value} (h : Ann w A n zss) (hus : us.length = n) (hse : ∀ (i : Nat) (v : Value) (zs : List Int), us[i]? = some v → zss[i]? = some zs → ∃ (A' : Option Addr) (c' : Nat), v = .slice A' zs.length c' ∧ Lst w A' zs.length zs ∧ (A' = none → c' = 0))
    (hb : Below w.heap.size w w') (hR : Row w' g 42 (us ++ sp)) (hg : base ≤ g) (hgw : w.heap.size ≤ g) : Anr w' base g us sp zss := by
  refine ⟨by rw [hus, h.len], hR, hg, fun i v zs hv hz => ?_⟩
  obtain ⟨A', c', e, hl, hn⟩ := hse i v zs hv hz
  refine ⟨A', c', e, hl.below hb, hn, fun h0 b off hA => ?_⟩
  obtain ⟨z, hz0⟩ : ∃ z, zs[0]? = some z := ⟨_, List.getElem?_eq_getElem h0⟩
  obtain ⟨b2, off2, e2, hb2, -⟩ := hl.see 0 (.int .i64 z) (by rw [cellsI, List.getElem?_map, hz0]; rfl)
  rw [hA] at e2
  injection e2 with e2
  injection e2 with e2
  omega
end
end Go.Proofs.YtidlnecgfgnllaaDoor
end

section
/-
  The contracts of livecheck.rest, of the closure that livecheck.Slack hands to eachConstraint, and of slices.Clone at slices of slices of ints. Conditions: those of the types; the function is right; the annotation belongs to it; the table of TrailingZeros64 lies as its initialiser lays it.
-/
namespace Go.Proofs.YtidlnecgfgnllaaDoor
open Go.RowKit

/-- What livecheck.Slack keeps in memory: its parameters, and the sets so far. -/
structure SkI (w : World) (P : Int) (A1 : Option Addr) (n1 c1 : Nat) (A2 : Option Addr) (n2 c2 : Nat) (AL : Option Addr) (cL X g c : Nat) (vs sp : List Value) (zss : List (List Int)) (wr : World) : Prop where
  f : Row wr w.heap.size 30 [.int .i64 P, .slice A1 n1 c1, .slice A2 n2 c2]
  l : Row wr (w.heap.size + 1) 25 [.slice AL n2 cL]
  x : Row wr X 23 [.slice (some ⟨g, 0, none⟩) n2 c]
  o : Anr wr w.heap.size g vs sp zss
  b : Below w.heap.size w wr
section
variable {P : Int} {A1 : Option Addr} {n1 c1 : Nat} {A2 : Option Addr} {n2 c2 : Nat} {AL : Option Addr} {cL X g c k i j M base : Nat} {l : List Ins} {L zss : List (List Int)} {w wr w2 : World} {vs sp : List Value}
theorem SkI.call (h : SkI w P A1 n1 c1 A2 n2 c2 AL cL X g c vs sp zss wr) (hb : Below wr.heap.size wr w2) : SkI w P A1 n1 c1 A2 n2 c2 AL cL X g c vs sp zss w2 := ⟨h.f.call hb, h.l.call hb, h.x.call hb, h.o.below hb, below_call h.b hb⟩
theorem SkI.put (h : SkI w P A1 n1 c1 A2 n2 c2 AL cL X g c vs sp zss wr) {j c' : Nat} {A : Option Addr} {zs : List Int} (hj : j < zss.length) (hl : Lst wr A zs.length zs) (hn : A = none → c' = 0) (ha : Awy A zs g) :
    SkI w P A1 n1 c1 A2 n2 c2 AL cL X g c (vs.set j (.slice A zs.length c')) sp (zss.set j zs) (wr.setCell ⟨g, j, none⟩ (.slice A zs.length c')) :=
  ⟨h.f.far (p := ⟨g, j, none⟩) (h.f.ne_ h.o.row (by decide)) _, h.l.far (p := ⟨g, j, none⟩) (h.l.ne_ h.o.row (by decide)) _, h.x.far (p := ⟨g, j, none⟩) (h.x.ne_ h.o.row (by decide)) _, h.o.put hj hl hn ha, h.b.setCell (p := ⟨g, j, none⟩) h.o.gb _⟩
def SkGo (w : World) (P : Int) (A1 : Option Addr) (n1 c1 : Nat) (A2 : Option Addr) (n2 c2 : Nat) (AL : Option Addr) (cL X g c : Nat) (sp : List Value) (l : List Ins) (L : List (List Int)) (k i : Nat) (w' : World) : Prop := ∃ vs, SkI w P A1 n1 c1 A2 n2 c2 AL cL X g c vs sp (frI l L k i) w'
set_option maxHeartbeats 1000000 in
theorem rest_any (w : World) (hL : Hid (Ann w AL n2 L)) (hj : j < n2) :
    Calls Tryd.prog 36 #[.agg #[.slice AL n2 cL], .int .i64 (k : Int), .int .i64 (j : Int)] w fun e w' => ∃ A c, e = .returned (.slice A (rsL L k j).length c) ∧ Lst w' A (rsL L k j).length (rsL L k j) ∧ Below w.heap.size w w' := by
  obtain ⟨W1, hW1⟩ : ∃ W, w.alloc (.cells #[.slice AL n2 cL] 25) = W := ⟨_, rfl⟩
  have hb1 : Below w.heap.size w W1 := by rw [← hW1]; exact below1 _ _
  have L1 := hide (show Row W1 w.heap.size 25 [.slice AL n2 cL] by rw [← hW1]; exact Row.new w _ _)
  have B1 := hide hb1
  have HW1 := hide hW1
  have hn2 := hL.out.le
  clear hW1 hb1
  by_cases hjk : j = k
  · have hz : rsL L k j = [] := by unfold rsL; rw [if_pos hjk]
    rw [hz]
    subst hjk
    clear hz
    go_enter Tryd.func36, Tryd.ntmps36
    go_upto_region 1 with (fail)
    rw [HW1.out]
    go_wp2_with fail
    go_ret
    exact ⟨none, 0, rfl, ⟨rfl, by simp, Sees.nil_ _ _ _, fun z h => by cases h⟩, B1.out⟩
  · have hz : rsL L k j = L.getD j [] := by unfold rsL; rw [if_neg hjk]
    obtain ⟨b, off, A', c', rfl, hb, y0, hl, -⟩ := (hL.out.below B1.out).at_ hj
    rw [hz]
    have HL := hide hl
    have hne : ¬ ((j : Int) = (k : Int)) := by omega
    have hj0 : (0 : Int) ≤ (j : Int) := by omega
    have hjn : (j : Int) < (n2 : Int) := by omega
    have q0 := L1.out.cell (k := 0) rfl
    obtain ⟨zs, hzs⟩ : ∃ z, L.getD j [] = z := ⟨_, rfl⟩
    rw [hzs] at y0 HL ⊢
    clear hz hl hb hzs
    go_enter Tryd.func36, Tryd.ntmps36
    go_upto_region 1 with (fail)
    rw [HW1.out]
    go_wp2_with fail
    go_ret
    exact ⟨A', c', rfl, HL.out, B1.out⟩
set_option maxRecDepth 100000 in
set_option maxHeartbeats 4000000 in
theorem sclos_any (hC : Hid (CdAt w A2 n2 l)) (hok : Hid (LvOk l M)) (hL : Hid (Ann w AL n2 L)) (hLI : Hid (LvIn n2 M L)) (hT : Hid (Tab w)) (hk : k < n2) (hj : Hid ((suc l k)[i]? = some j)) (hgb : g < base) (hI : Hid (SkI w P A1 n1 c1 A2 n2 c2 AL cL X g c vs sp (frI l L k i) wr)) :
    Calls Tryd.prog 33 #[.int .i64 (k : Int), .int .i64 (j : Int), .pointer (some ⟨X, 0, none⟩), .pointer (some ⟨w.heap.size, 0, none⟩), .pointer (some ⟨w.heap.size + 1, 0, none⟩)] wr fun e w' =>
      (e = .returned (.bool true) ∧ SkGo w P A1 n1 c1 A2 n2 c2 AL cL X g c sp l L k (i + 1) w') ∧ OldK base wr w' := by
  have hlen := hC.out.len
  have hn2 := hC.out.few
  have hLl := hLI.out.len
  have hjl : j < l.length := suc_lt hok.out.flow (List.mem_of_getElem? hj.out)
  obtain ⟨x, hx⟩ : ∃ x, l[j]? = some x := ⟨_, List.getElem?_eq_getElem hjl⟩
  obtain ⟨_, hxe⟩ := List.getElem?_eq_some_iff.1 hx
  obtain ⟨b2, o2, rfl, hb2, y0, y1, y2, y3, y4⟩ := ins_at hC.out.see hjl
  rw [hxe] at y0 y1 y2 y3 y4
  have hkl : k < L.length := by omega
  obtain ⟨Ak, ck, hvk, z0, hlk, hnk⟩ := hI.out.o.vat (frI_at i hkl)
  have HUA := hide (frS_asc (l := l) hLI.out.asc k ((suc l k).take i))
  have HST := hide (frI_step hkl hj.out)
  have HAL := hide (show k < (frI l L k i).length by rw [frI_len]; exact hkl)
  have HVA := hide (rsK_asc (l := l) hLI.out.asc k j)
  have HRA := hide (rsL_asc hLI.out.asc k j)
  have hKJ : rsK l L k j = inX x (rsL L k j) := rsK_some hx L k
  have CR := hide (fun (V : World) (h : Below w.heap.size w V) => rest_any (k := k) (j := j) (cL := cL) V (hide (hL.out.below h)) (by omega))
  obtain ⟨zr, hzr⟩ : ∃ z, rsL L k j = z := ⟨_, rfl⟩
  rw [hzr] at HRA CR hKJ
  have CI := hide (fun (V : World) (A3 : Option Addr) (c3 : Nat) (hl3 : Hid (Lst V A3 zr.length zr)) (h : Below w.heap.size w V) =>
    (show Calls Tryd.prog 35 #[iv x.op x.a x.b x.c x.imm, .slice A3 zr.length c3] V (OutPost (rsK l L k j) V) by
      have q := ein_use x.op x.a x.b x.c x.imm A3 zr.length c3 zr V (hide (fun hd => by have h1 := hok.out.dfn j x hx hd; have h2 := hok.out.few; omega)) (hide (hok.out.usAsc hx)) hl3 HRA (hide (hT.out.below h))
      rw [hKJ]
      exact q))
  obtain ⟨u, hu⟩ : ∃ u, frS l L k ((suc l k).take i) = u := ⟨_, rfl⟩
  obtain ⟨v, hv⟩ : ∃ v, rsK l L k j = v := ⟨_, rfl⟩
  rw [hu] at HUA hlk hvk z0 HST
  rw [hv] at HVA CI HST
  have CM := hide (fun (V : World) (A' : Option Addr) (c' : Nat) (h : Hid (Lst V A' v.length v)) (hb : Below wr.heap.size wr V) =>
    (t_minus ck c' (hide (hlk.below hb)) h HUA (hide (hT.out.below (below_call hI.out.b hb))) (hide rfl) : Calls Tryd.prog 34 #[.slice Ak u.length ck, .slice A' v.length c'] V (OutPost (minusL u v) V)))
  have HMA := hide (minusL_asc HUA.out v)
  obtain ⟨r, hr⟩ : ∃ r, minusL u v = r := ⟨_, rfl⟩
  rw [hr] at HST CM HMA
  have HPT := hide (fun (V : World) (A' : Option Addr) (c' : Nat) (h : Hid (SkI w P A1 n1 c1 (some ⟨b2, o2, none⟩) n2 c2 AL cL X g c vs sp (frI l L k i) V)) (hl : Hid (Lst V A' r.length r)) (hn : Hid (A' = none → c' = 0)) (ha : Awy A' r g) =>
    (show SkGo w P A1 n1 c1 (some ⟨b2, o2, none⟩) n2 c2 AL cL X g c sp l L k (i + 1) (V.setCell ⟨g, k, none⟩ (.slice A' r.length c')) by
      refine ⟨vs.set k (.slice A' r.length c'), ?_⟩
      rw [HST.out]
      exact h.out.put HAL.out hl.out hn.out ha))
  have HZ := hide (fun (V : World) (h : Hid (SkI w P A1 n1 c1 (some ⟨b2, o2, none⟩) n2 c2 AL cL X g c vs sp (frI l L k i) V)) => (show V.cell? ⟨g, k, none⟩ = some (.slice Ak u.length ck) ∧ V.frozen? ⟨g, k, none⟩ = false from
    ⟨h.out.o.row.cell (by rw [List.getElem?_append_left (List.getElem?_eq_some_iff.1 hvk).1]; exact hvk), h.out.o.free k⟩))
  have KS := hide (fun (V : World) (h : Hid (SkI w P A1 n1 c1 (some ⟨b2, o2, none⟩) n2 c2 AL cL X g c vs sp (frI l L k i) V)) =>
    (⟨h.out.x.cell (k := 0) rfl, h.out.f.cell (k := 2) rfl, h.out.l.cell (k := 0) rfl, keep_cellB h.out.b y0, keep_cellB h.out.b y1, keep_cellB h.out.b y2, keep_cellB h.out.b y3, keep_cellB h.out.b y4, (HZ.out V h).1⟩ :
    _ ∧ _ ∧ _ ∧ _ ∧ _ ∧ _ ∧ _ ∧ _ ∧ _))
  have hgr : g < wr.heap.size := hI.out.o.row.lt
  have J0 := hide (hI.out.call (Below.refl _ _).drew)
  have HS0 := KS.out _ J0
  have B0 := hide (show Below wr.heap.size wr wr.drew from (Below.refl _ _).drew)
  have O0 := hide (show OldK base wr wr.drew from OldK.below (Below.refl _ _).drew)
  have hk0 : (0 : Int) ≤ (k : Int) := by omega
  have hkn : (k : Int) < (n2 : Int) := by omega
  have hj0 : (0 : Int) ≤ (j : Int) := by omega
  have hjn : (j : Int) < (n2 : Int) := by omega
  clear hx hxe hKJ hzr hu hv hr hvk hlk hnk z0 y0 y1 y2 y3 y4 hb2
  go_enter Tryd.func33, Tryd.ntmps33
  go_upto_region 1 with (fail)
  clear hI
  refine wp_region_lastH (S := (fun V => V.cell? ⟨X, 0, none⟩ = some (.slice (some ⟨g, 0, none⟩) n2 c) ∧ V.cell? ⟨w.heap.size, 2, none⟩ = some (.slice (some ⟨b2, o2, none⟩) n2 c2) ∧ V.cell? ⟨w.heap.size + 1, 0, none⟩ = some (.slice AL n2 cL) ∧ V.cell? ⟨b2, o2 + j * 5, none⟩ = some (.int .i64 x.op) ∧ V.cell? ⟨b2, o2 + j * 5 + 1, none⟩ = some (.int .i64 x.a) ∧ V.cell? ⟨b2, o2 + j * 5 + 2, none⟩ = some (.int .i64 x.b) ∧ V.cell? ⟨b2, o2 + j * 5 + 3, none⟩ = some (.int .i64 x.c) ∧ V.cell? ⟨b2, o2 + j * 5 + 4, none⟩ = some (.int .u64 x.imm) ∧ V.cell? ⟨g, k, none⟩ = some (.slice Ak u.length ck))) 18 (by kernel_rfl) rfl rfl (by kernel_rfl) ?_
  have hHeld := HS0
  refine wpAnyH_take (i := 0) (v := ?_) tk_0 (by kernel_rfl) (by kernel_rfl) (by kernel_rfl) (fun _ _ _ h => h) (Or.inl ⟨by rfl, ?_⟩) hHeld ?_
  rotate_left
  · intro V hSw
    try dsimp only at hSw
    go_simp
    all_goals with_reducible rfl
  try simp only [Act.put, List.setIfInBounds_toArray, List.set_cons_zero, List.set_cons_succ]
  refine wpAnyH_take (i := 1) (v := ?_) tk_1 (by kernel_rfl) (by kernel_rfl) (by kernel_rfl) (fun _ _ _ h => h) (Or.inl ⟨by rfl, ?_⟩) hHeld ?_
  rotate_left
  · intro V hSw
    try dsimp only at hSw
    go_simp
    all_goals with_reducible rfl
  try simp only [Act.put, List.setIfInBounds_toArray, List.set_cons_zero, List.set_cons_succ]
  refine wpAnyH_take (i := 2) (v := ?_) tk_2 (by kernel_rfl) (by kernel_rfl) (by kernel_rfl) (fun _ _ _ h => h) (Or.inl ⟨by rfl, ?_⟩) hHeld ?_
  rotate_left
  · intro V hSw
    try dsimp only at hSw
    go_simp
    all_goals with_reducible rfl
  try simp only [Act.put, List.setIfInBounds_toArray, List.set_cons_zero, List.set_cons_succ]
  refine wpAnyH_take (i := 3) (v := ?_) tk_3 (by kernel_rfl) (by kernel_rfl) (by kernel_rfl) (fun _ _ _ h => h) (Or.inl ⟨by rfl, ?_⟩) hHeld ?_
  rotate_left
  · intro V hSw
    try dsimp only at hSw
    go_simp
    all_goals with_reducible rfl
  try simp only [Act.put, List.setIfInBounds_toArray, List.set_cons_zero, List.set_cons_succ]
  refine wpAnyH_take (i := 4) (v := ?_) tk_4 (by kernel_rfl) (by kernel_rfl) (by kernel_rfl) (fun _ _ _ h => h) (Or.inl ⟨by rfl, ?_⟩) hHeld ?_
  rotate_left
  · intro V hSw
    try dsimp only at hSw
    go_simp
    all_goals with_reducible rfl
  try simp only [Act.put, List.setIfInBounds_toArray, List.set_cons_zero, List.set_cons_succ]
  refine wpAnyH_take (i := 5) (v := ?_) tk_5 (by kernel_rfl) (by kernel_rfl) (by kernel_rfl) (fun _ _ _ h => h) (Or.inl ⟨by rfl, ?_⟩) hHeld ?_
  rotate_left
  · intro V hSw
    try dsimp only at hSw
    go_simp
    all_goals with_reducible rfl
  try simp only [Act.put, List.setIfInBounds_toArray, List.set_cons_zero, List.set_cons_succ]
  refine wpAnyH_take (i := 6) (v := ?_) tk_6 (by kernel_rfl) (by kernel_rfl) (by kernel_rfl) (fun _ _ _ h => h) (Or.inl ⟨by rfl, ?_⟩) hHeld ?_
  rotate_left
  · intro V hSw
    try dsimp only at hSw
    go_simp
    all_goals with_reducible rfl
  try simp only [Act.put, List.setIfInBounds_toArray, List.set_cons_zero, List.set_cons_succ]
  refine wpAnyH_take (i := 7) (v := ?_) tk_7 (by kernel_rfl) (by kernel_rfl) (by kernel_rfl) (fun _ _ _ h => h) (Or.inl ⟨by rfl, ?_⟩) hHeld ?_
  rotate_left
  · intro V hSw
    try dsimp only at hSw
    go_simp
    all_goals with_reducible rfl
  try simp only [Act.put, List.setIfInBounds_toArray, List.set_cons_zero, List.set_cons_succ]
  refine wpAnyH_take (i := 8) (v := ?_) tk_8 (by kernel_rfl) (by kernel_rfl) (by kernel_rfl) (fun _ _ _ h => h) (Or.inl ⟨by rfl, ?_⟩) hHeld ?_
  rotate_left
  · intro V hSw
    try dsimp only at hSw
    go_simp
    all_goals with_reducible rfl
  try simp only [Act.put, List.setIfInBounds_toArray, List.set_cons_zero, List.set_cons_succ]
  refine wpAnyH_take (i := 9) (v := ?_) tk_9 (by kernel_rfl) (by kernel_rfl) (by kernel_rfl) (fun _ _ _ h => h) (Or.inl ⟨by rfl, ?_⟩) hHeld ?_
  rotate_left
  · intro V hSw
    try dsimp only at hSw
    go_simp
    all_goals with_reducible rfl
  try simp only [Act.put, List.setIfInBounds_toArray, List.set_cons_zero, List.set_cons_succ]
  refine wpAnyH_take (i := 10) (v := ?_) tk_10 (by kernel_rfl) (by kernel_rfl) (by kernel_rfl) (fun _ _ _ h => h) (Or.inl ⟨by rfl, ?_⟩) hHeld ?_
  rotate_left
  · intro V hSw
    try dsimp only at hSw
    go_simp
    all_goals with_reducible rfl
  try simp only [Act.put, List.setIfInBounds_toArray, List.set_cons_zero, List.set_cons_succ]
  refine wpAnyH_take (i := 11) (v := ?_) tk_11 (by kernel_rfl) (by kernel_rfl) (by kernel_rfl) (fun _ _ _ h => h) (Or.inl ⟨by rfl, ?_⟩) hHeld ?_
  rotate_left
  · intro V hSw
    try dsimp only at hSw
    go_simp
    all_goals with_reducible rfl
  try simp only [Act.put, List.setIfInBounds_toArray, List.set_cons_zero, List.set_cons_succ]
  refine wpAnyH_take (i := 12) (v := ?_) tk_12 (by kernel_rfl) (by kernel_rfl) (by kernel_rfl) (fun _ _ _ h => h) (Or.inl ⟨by rfl, ?_⟩) hHeld ?_
  rotate_left
  · intro V hSw
    try dsimp only at hSw
    go_simp
    all_goals with_reducible rfl
  try simp only [Act.put, List.setIfInBounds_toArray, List.set_cons_zero, List.set_cons_succ]
  refine wpAnyH_take (i := 13) (v := ?_) tk_13 (by kernel_rfl) (by kernel_rfl) (by kernel_rfl) (fun _ _ _ h => h) (Or.inl ⟨by rfl, ?_⟩) hHeld ?_
  rotate_left
  · intro V hSw
    try dsimp only at hSw
    go_simp
    all_goals with_reducible rfl
  try simp only [Act.put, List.setIfInBounds_toArray, List.set_cons_zero, List.set_cons_succ]
  refine wpAnyH_ready (rs := [14]) (by kernel_rfl) (by simp) ?_
  refine AllReadyH.cons tk_14 (fun K hK => ?_) AllReadyH.nil
  go_simp
  go_at_call 36
  with_reducible refine Calls.mono (CR.out _ J0.out.b) ?_
  rintro e w6 ⟨A6, c6, rfl, hl6, hb6⟩
  have HL6 := hide hl6
  have J6 := hide (J0.out.call hb6)
  have B6 := hide (below_call B0.out hb6)
  have O6 := hide (O0.out.trans (OldK.below hb6))
  have HS6 := KS.out _ J6
  clear hl6 hb6
  refine hK.out _ _ HS6 (fun hHeld => ?_)
  clear hK K
  try simp only [Act.put, List.setIfInBounds_toArray, List.set_cons_zero, List.set_cons_succ]
  refine wpAnyH_ready (rs := [15]) (by kernel_rfl) (by simp) ?_
  refine AllReadyH.cons tk_15 (fun K hK => ?_) AllReadyH.nil
  go_simp
  go_at_call 35
  with_reducible refine Calls.mono (CI.out _ A6 c6 HL6 J6.out.b) ?_
  intro e w7 h7
  obtain ⟨A7, c7, rfl, HL7, -, hb7⟩ := OutPost.open h7 HVA
  have J7 := hide (J6.out.call hb7)
  have B7 := hide (below_call B6.out hb7)
  have O7 := hide (O6.out.trans (OldK.below hb7))
  have HS7 := KS.out _ J7
  clear h7 hb7
  refine hK.out _ _ HS7 (fun hHeld => ?_)
  clear hK K
  try simp only [Act.put, List.setIfInBounds_toArray, List.set_cons_zero, List.set_cons_succ]
  refine wpAnyH_ready (rs := [16]) (by kernel_rfl) (by simp) ?_
  refine AllReadyH.cons tk_16 (fun K hK => ?_) AllReadyH.nil
  go_simp
  go_at_call 34
  with_reducible refine Calls.mono (CM.out _ A7 c7 HL7 B7.out) ?_
  intro e w8 h8
  obtain ⟨A8, c8, rfl, HL8, HN8, HA8, hb8⟩ := OutPost.openA h8 HMA
  have HY8 := hide (HA8.out g (Nat.lt_of_lt_of_le hgr B7.out.size))
  have J8 := hide (J7.out.call hb8)
  have O8 := hide (O7.out.trans (OldK.below hb8))
  have HS8 := KS.out _ J8
  have HZ8 := HZ.out _ J8
  obtain ⟨z8, f8⟩ := HZ8
  have HG := hide (HPT.out _ _ _ J8 HL8 HN8 HY8.out)
  have HO := hide (O8.out.trans (OldK.set_ hgb k (.slice A8 r.length c8)))
  clear h8 hb8
  refine hK.out _ _ HS8 (fun hHeld => ?_)
  clear hK K
  try simp only [Act.put, List.setIfInBounds_toArray, List.set_cons_zero, List.set_cons_succ]
  refine wpAnyH_take (i := 17) (v := ?_) tk_17 (by kernel_rfl) (by kernel_rfl) (by kernel_rfl) (fun _ _ _ h => h) (Or.inl ⟨by rfl, ?_⟩) hHeld ?_
  rotate_left
  · intro V hSw
    try dsimp only at hSw
    go_simp
    all_goals with_reducible rfl
  try simp only [Act.put, List.setIfInBounds_toArray, List.set_cons_zero, List.set_cons_succ]
  refine wpAnyH_done (by kernel_rfl) ?_ _
  unfold LastQ
  clear HS0 HS6 HS7 HS8 CR CI CM HZ KS J0 J6 J7 J8 HPT HST HUA HVA HRA HMA HAL O0 O6 O7 O8 B0 B6 B7 HL6 HL7 HL8
  go_wp2_with fail
  go_ret
  exact ⟨⟨rfl, HG.out⟩, HO.out⟩
set_option maxHeartbeats 1000000 in
theorem clone2_any (ad : Addr) (n cA : Nat) (zss : List (List Int)) (w : World) (hL : Hid (Ann w (some ad) n zss)) (h1 : 1 ≤ n) :
    Calls Tryd.prog 31 #[.slice (some ad) n cA] w fun e w' => ∃ g c vs sp, e = .returned (.slice (some ⟨g, 0, none⟩) n c) ∧ Anr w' w.heap.size g vs sp zss ∧ Below w.heap.size w w' := by
  have hq := fun w => Lib.run_eql_slice_nil (P := Tryd.prog) w 23 42 (some ad) n cA 0 0 Tryd.underlying23
  obtain ⟨j0, ji, jz0, jz1, jz2⟩ := info_parts infoS
  obtain ⟨hlz, hle, us, hsee, hul, hlst⟩ := hL.out
  have hsrc : ∀ (j : Nat) (u : Value), us[j]? = some u → (w.alloc (.cells #[] 42)).cell? (ad.add j) = some u := by
    intro j u hu
    obtain ⟨ad', he, hc⟩ := Sees.src (Sees.alloc hsee (Nat.le_refl _) (.cells #[] 42)) (by have := (List.getElem?_eq_some_iff.1 hu).1; omega)
    rw [Option.some.inj he]
    exact hc j u hu
  have h1c : ∀ u ∈ us, u.oneCell' = true := fun u hu => by
    obtain ⟨i, hi⟩ := List.mem_iff_getElem?.1 hu
    obtain ⟨A', c', e, -, -⟩ := hlst i u _ hi (List.getElem?_eq_getElem (by rw [hlz, ← hul]; exact (List.getElem?_eq_some_iff.1 hi).1))
    rw [e]
    rfl
  have HS := hide hsrc
  have hlen := hide (show us.length = n * 1 by omega)
  have he0 : (w.alloc (.cells #[] 42)).ownsRow w.heap.size 42 1 (.slice (some ⟨w.heap.size, 0, none⟩) 0 0) 0 [] := ⟨by simp, .inr ⟨w.heap.size, 0, #[], rfl, Nat.le_refl _, heap_alloc_new w _, Nat.le_refl _, by unfold maxLen; omega, by simp, by simp⟩⟩
  have HE := hide he0
  have HLS := hide hlst
  have HC1 := hide h1c
  clear hsrc hsee hlst h1c he0
  go_enter Tryd.func31, Tryd.ntmps31
  go_wp2_with (at_builtin; refine wpList_append_own _ rfl (.tmp 5) (.tmp 6) 23 rfl w.heap.size 42 j0 (.slice none 0 0) 1 24 Tryd.underlying23 ji jz0 jz1 jz2 rfl (by decide) _ 0 [] rfl HE.out ad n cA us rfl hlen.out HS.out HC1.out (by unfold maxLen; omega) (by omega) (by simp) ?_)
  intro v' w2 ho2 hg2 _
  obtain ⟨g, c, sp, rfl, hg, hR⟩ := own_row ho2 (by omega)
  have hb2 := below_append (below1 w (.cells #[] 42)) HE.out (Nat.le_refl _) hg2 (by simp)
  have HA := hide (show Anr w2 w.heap.size g us sp zss from Anr.copy hL.out hul HLS.out hb2 (by simpa using hR) hg hg)
  have HB := hide hb2
  clear ho2 hg2 hb2 hR
  go_wp2_with fail
  go_ret
  exact ⟨g, c, us, sp, rfl, HA.out, HB.out⟩
end
end Go.Proofs.YtidlnecgfgnllaaDoor
end
