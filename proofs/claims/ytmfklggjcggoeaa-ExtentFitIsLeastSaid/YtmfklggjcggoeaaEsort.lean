/-
  The contracts of slices.SortFunc with extent.Fit's comparison, and of slices.Clone, at slices of intervals: a copy, in ascending order of the offsets. Conditions: fewer than 2^40 intervals.
-/
import Derived.Test.YtmfklggjcggoeaaElay
import Derived.Test.YtmfklggjcggoeaaEleaf
import Derived.Test.YtmfklggjcggoeaaDlist
import Derived.WalkSpells
namespace Go.Proofs.Ytmfklggjcggoeaa
open Go.Shelf Go.RowKit Go.Lib Go.Sort

/-- What cmp.Compare gives. -/
def cmpV (a b : Int) : Int := if a < b then -1 else if b < a then 1 else 0
/-- The comparison of two intervals. -/
def cmpP (x y : Int × Int) : Int := cmpV x.1 y.1
theorem ltP (x y : Int × Int) : ltOf cmpP x y = decide (x.1 < y.1) := by
  unfold ltOf cmpP cmpV
  by_cases h1 : x.1 < y.1
  · simp [h1]
  · by_cases h2 : y.1 < x.1 <;> simp [h1, h2]
theorem swoP : SWO (ltOf cmpP) where
  irrefl x := by rw [ltP]; simp
  trans x y z h1 h2 := by rw [ltP] at *; simp at *; omega
  ntrans x y z h1 h2 := by rw [ltP] at *; simp at *; omega

theorem isNaN_any (n : Int) (w : World) : Calls Try.prog 53 #[.int .i64 n] w fun e w' => e = .returned (.bool false) ∧ w = w' := by
  go_enter Try.func53, Try.ntmps53
  go_wp2
  go_ret
  exact ⟨rfl, rfl⟩
theorem cmp_any (a b : Int) (w : World) : Calls Try.prog 46 #[.int .i64 a, .int .i64 b] w fun e w' => e = .returned (.int .i64 (cmpV a b)) ∧ w = w' := by
  have c := isNaN_any
  by_cases h1 : a < b
  · have hv := hide (show cmpV a b = -1 by simp [cmpV, h1])
    go_enter Try.func46, Try.ntmps46
    go_wp2_with (go_at_call 53; refine (c _ _).mono ?_; rintro e w' ⟨rfl, rfl⟩)
    go_ret
    exact ⟨ret_int hv.out.symm, rfl⟩
  · by_cases h2 : b < a
    · have hv := hide (show cmpV a b = 1 by simp [cmpV, h1, h2])
      go_enter Try.func46, Try.ntmps46
      go_wp2_with (go_at_call 53; refine (c _ _).mono ?_; rintro e w' ⟨rfl, rfl⟩)
      go_ret
      exact ⟨ret_int hv.out.symm, rfl⟩
    · have hv := hide (show cmpV a b = 0 by simp [cmpV, h1, h2])
      go_enter Try.func46, Try.ntmps46
      go_wp2_with (go_at_call 53; refine (c _ _).mono ?_; rintro e w' ⟨rfl, rfl⟩)
      go_ret
      exact ⟨ret_int hv.out.symm, rfl⟩

/-- The cells of an interval. -/
def enc2 (u : Int × Int) : List Value := [.int .i64 u.1, .int .i64 u.2]
set_option maxHeartbeats 400000 in
theorem closure_any (x y : Int × Int) (W : World) : Calls Try.prog 45 #[.agg #[.int .i64 x.1, .int .i64 x.2], .agg #[.int .i64 y.1, .int .i64 y.2]] W fun e w' => e = .returned (.int .i64 (cmpP x y)) ∧ ∃ q os', w' = grow (W.drewN q) os' := by
  have c := cmp_any x.1 y.1
  have hv := hide (show cmpP x y = cmpV x.1 y.1 from rfl)
  generalize cmpV x.1 y.1 = r at c hv
  go_enter Try.func45, Try.ntmps45
  go_wp2_with (go_at_call 46; refine (c _).mono ?_; rintro e w' ⟨rfl, rfl⟩)
  go_ret
  exact ⟨ret_int hv.out.symm, 0, _, by rw [alloc_eq_grow, alloc_eq_grow, grow_grow]; rfl⟩

theorem pcells_div (l : List (Int × Int)) (j : Nat) (hj : j < l.length * 2) : (pcells l)[j]? = (enc2 l.toArray[j / 2]!)[j % 2]? := by
  have hv : l[j / 2]? = some (l[j / 2]'(by omega)) := List.getElem?_eq_getElem (by omega)
  obtain ⟨h0, h1⟩ := pcells_at l (j / 2) _ hv
  have e : l.toArray[j / 2]! = l[j / 2]'(by omega) := by
    rw [getElem!_pos l.toArray (j / 2) (by simp; omega)]; simp
  rw [e]
  rcases (show j % 2 = 0 ∨ j % 2 = 1 by omega) with h | h
  · rw [show j / 2 * 2 = j by omega] at h0
    rw [h0, h]; rfl
  · rw [show j / 2 * 2 + 1 = j by omega] at h1
    rw [h1, h]; rfl
theorem flat_at (d : Array (Int × Int)) (j : Nat) (hj : j < d.size * 2) : (enc2 d[j / 2]!)[j % 2]? = some ((flatK enc2 2 d)[j]!) := by
  rw [get_flatK _ _ _ _ hj]
  rcases (show j % 2 = 0 ∨ j % 2 = 1 by omega) with h | h <;> rw [h] <;> rfl
/-- A row of the call's own holds its intervals. -/
theorem holds_own {w : World} {base g cap : Nat} {l : List (Int × Int)} (h : w.ownsRow base 32 2 (.slice (some ⟨g, 0, none⟩) l.length cap) l.length (pcells l)) (h0 : 0 < l.length) : base ≤ g ∧ g < w.heap.size ∧ HoldsK enc2 2 w g 0 l.toArray := by
  have hc := h.cells (g := g) rfl
  rcases h.2 with ⟨he, hz⟩ | ⟨g', cap', cur, he, hg, hh, _⟩
  · omega
  · have hgg : g' = g := by
      injection he with he
      injection he with he
      injection he with he
      exact he.symm
    subst hgg
    have hlt : g' < w.heap.size := by
      rcases Nat.lt_or_ge g' w.heap.size with h1 | h1
      · exact h1
      · rw [Array.getElem?_eq_none h1] at hh; simp at hh
    refine ⟨hg, hlt, fun j hj => ⟨?_, by simp [World.frozen?, hh]⟩⟩
    have hj' : j < l.length * 2 := by simpa using hj
    have h1 := pcells_div l j hj'
    rw [flat_at _ _ (by simpa using hj')] at h1
    have h2 := hc j _ h1
    rw [WideShapes.add_plain] at h2
    exact h2
theorem sees_holds {w : World} {g : Nat} {d : Array (Int × Int)} (h : HoldsK enc2 2 w g 0 d) (hg : g < w.heap.size) : Sees w w.heap.size (some ⟨g, 0, none⟩) (pcells d.toList) := by
  intro k u hu
  have hk : k < d.size * 2 := by
    rcases Nat.lt_or_ge k (d.size * 2) with h1 | h1
    · exact h1
    · rw [List.getElem?_eq_none (by rw [pcells_length]; simpa using h1)] at hu; simp at hu
  refine ⟨g, 0, rfl, hg, ?_⟩
  have h1 := pcells_div d.toList k (by simpa using hk)
  rw [show d.toList.toArray = d by simp, flat_at _ _ hk, hu] at h1
  rw [(h k (by simpa using hk)).1, h1]; rfl

/-- What the sort leaves lies behind B. -/
theorem below_sorted {w : World} {B g n : Nat} {os : Array Obj} (d : Array (Int × Int)) (hB : B ≤ g) (hs : B ≤ w.heap.size) : Below B w (sortWorldK enc2 2 w g 0 n d os) := by
  refine ⟨rfl, rfl, rfl, ?_, fun k hk => ?_⟩
  · exact Nat.le_trans (Nat.le_refl _) (size_sortWorldK_c enc2 2 w g 0 n d os)
  · unfold sortWorldK
    rw [heap_grow_old _ _ (by rw [size_putRowK]; show k < w.heap.size; omega)]
    have : g ≠ k := by omega
    simp [putRowK, putRow, mapBlock, Sort.ahead, Array.getElem?_modify, this]

/-- In ascending order of the offsets. -/
def Ascends (l : List (Int × Int)) : Prop := ∀ i j (hi : i < l.length) (hj : j < l.length), i < j → l[i].1 ≤ l[j].1
def SortPost (A : Option Addr) (l : List (Int × Int)) (B : Nat) (w : World) (e : Ending) (w' : World) : Prop :=
  e = .returned (.tuple #[]) ∧ ∃ l', l'.Perm l ∧ Ascends l' ∧ Sees w' w'.heap.size A (pcells l') ∧ Below B w w'

theorem sort_any (A : Option Addr) (n c : Nat) (l : List (Int × Int)) (B : Nat) (w : World) (hn : Hid (l.length = n)) (hm : n ≤ 1099511627776) (hB : B ≤ w.heap.size) (ho : Hid (w.ownsRow B 32 2 (.slice A n c) n (pcells l))) :
    Calls Try.prog 44 #[.slice A n c, .func (.func 45) #[] #[]] w (SortPost A l B w) := by
  obtain rfl := hn.out
  have ho := ho.out
  rcases Nat.eq_zero_or_pos l.length with h0 | h0
  · have hl : l = [] := List.eq_nil_of_length_eq_zero h0
    subst hl
    exact (AnyF.slices_SortFunc_none sortLaid A c _ w).mono fun e w' ⟨he, hw⟩ => ⟨he, [], List.Perm.refl _, (fun i j hi => by cases hi), Sees.nil_ _ _ _, by rw [hw]; exact Below.refl _ _⟩
  · obtain ⟨g, c', hv, hg, hlt, hnc, hc⟩ := own_block ho h0
    injection hv with hA _ hc'
    subst hA hc'
    obtain ⟨_, _, hH⟩ := holds_own ho h0
    have eg : ∀ args w, (callFunc 45 args).run Try.prog w = .ok (.enter 45 args) w := enters_of Try.func45 (by kernel_rfl) rfl
    have hcon := AnyQ.slices_SortFunc sortLaid 2 Try.isAgg32 Try.sizeOf32 enc2 (fun _ => rfl) (fun x v hv => by simp [enc2] at hv; rcases hv with rfl | rfl <;> rfl) cmpP swoP 45 #[] g 0 c l.toArray w eg (fun _ _ _ _ x y => closure_any x y _) hH hlt (by simp; omega)
    rw [show l.toArray.size = l.length by simp] at hcon
    refine hcon.mono ?_
    rintro e w' ⟨rfl, d', n', os, hp, hs, rfl⟩
    have hsz : d'.size = l.length := by have := hp.1; simpa using this
    have hperm : d'.toList.Perm l := by
      have := hp.2.2
      have e1 : d'.extract 0 l.length = d' := by rw [← hsz]; simp
      rw [e1] at this
      simpa using this
    have hB' : Below B w (sortWorldK enc2 2 w g 0 n' d' os) := below_sorted d' hg hB
    refine ⟨rfl, d'.toList, hperm, fun i j hi hj hij => ?_, sees_holds (holdsK_sortWorldK_c enc2 2 w g 0 l.toArray d' n' os hH hlt (by simpa using hsz)) (lt_sortWorldK enc2 2 w g 0 n' d' os hlt), hB'⟩
    have hi' : i < d'.size := by simpa using hi
    have hj' : j < d'.size := by simpa using hj
    have h1 := hs i j (Nat.zero_le _) hij (by omega)
    rw [ltP, getElem!_pos d' j hj', getElem!_pos d' i hi'] at h1
    simp only [decide_eq_false_iff_not] at h1
    simp only [Array.getElem_toList]
    omega
end Go.Proofs.Ytmfklggjcggoeaa
