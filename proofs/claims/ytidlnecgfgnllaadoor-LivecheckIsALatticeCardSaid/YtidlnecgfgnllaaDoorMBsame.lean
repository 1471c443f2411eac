import Derived.Test.YtidlnecgfgnllaaDoorMOwr
import Derived.Test.YtidlnecgfgnllaaDoorMBtrem
import Derived.Test.YtidlnecgfgnllaaDoorMLce1
import Derived.Test.YtidlnecgfgnllaaDoorMBref
import Derived.Deep.QuietTactic
import Derived.BigQuiet
set_option linter.unusedVariables false
set_option linter.unusedSimpArgs false
section
/-
  The contract of slices.Equal at ints: whether two lists are one; they only read. Conditions: those of the types.
-/
namespace Go.Proofs.YtidlnecgfgnllaaDoor
open Go.RowKit

set_option maxHeartbeats 400000 in
theorem equal_any (A : Option Addr) (n c : Nat) (zs : List Int) (A' : Option Addr) (n' c' : Nat) (ys : List Int) (w : World) (h : Hid (Lst w A n zs)) (h' : Hid (Lst w A' n' ys)) :
    Calls Tryd.prog 63 #[.slice A n c, .slice A' n' c'] w (BoolPost (decide (zs = ys)) w) := by
  have hl := h.out.le
  by_cases hnn : n = n'
  · subst hnn
    obtain ⟨b, hb⟩ : ∃ b, decide (zs = ys) = b := ⟨_, rfl⟩
    rw [hb]
    have HB := hide hb
    clear hb
    go_enter Tryd.func63, Tryd.ntmps63
    go_wp2_with fail
    go_loopw [13] (fun i wr => ∃ k : Nat, k ≤ n ∧ i = .int .i64 k ∧ Hid (zs.take k = ys.take k) ∧ ∃ m, wr = w.drewN m) (fun i _ => n - (intOf i).toNat)
    case atStart => exact ⟨0, by omega, rfl, hide rfl, 0, rfl⟩
    case round =>
      obtain ⟨k, hk, rfl, hT, m, rfl⟩ := hrel
      by_cases hlt : k < n
      · have l1 : k < zs.length := by have := h.out.len; omega
        have l2 : k < ys.length := by have := h'.out.len; omega
        obtain ⟨b1, o1, rfl, _, hc1⟩ := int_at h.out.see l1
        obtain ⟨b2, o2, rfl, _, hc2⟩ := int_at h'.out.see l2
        have N1 := hide (fun hne => take_ne l1 l2 hne)
        have N2 := hide (fun heq : zs[k] = ys[k] => (show zs.take (k + 1) = ys.take (k + 1) by rw [take_snoc l1, take_snoc l2, hT.out, heq]))
        generalize zs[k] = x at hc1 N1 N2
        generalize ys[k] = y at hc2 N1 N2
        clear l1 l2
        by_cases hxy : x = y
        · subst hxy
          have H2 := hide (N2.out rfl)
          clear N1 N2
          go_wp2_with fail
          go_quiet (fail)
          go_wp2_with fail
          go_roundw
          case rel => exact ⟨k + 1, by omega, by go_num, H2, _, rfl⟩
          case measure => simp [intOf]; omega
        · have hne : (x != y) = true := by rw [bne_iff_ne]; exact hxy
          have hB := hide (HB.out.symm.trans (N1.out hxy))
          clear N1 N2 hxy
          go_wp2_with fail
          go_quiet (fail)
          go_wp2_with fail
          go_ret
          exact ⟨by rw [hB.out]; rfl, _, World.drewN_drewN _ _ _⟩
      · obtain rfl : k = n := by omega
        have hB := hide (HB.out.symm.trans (decide_eq_true (by
          have := hT.out
          rwa [List.take_of_length_le (by have := h.out.len; omega), List.take_of_length_le (by have := h'.out.len; omega)] at this)))
        go_wp2_with fail
        go_ret
        exact ⟨by rw [hB.out]; rfl, _, rfl⟩
  · have hne : ((n : Int) != (n' : Int)) = true := by rw [bne_iff_ne]; omega
    have HB := hide (show decide (zs = ys) = false by
      rw [decide_eq_false_iff_not]
      rintro rfl
      exact hnn (h.out.len.symm.trans h'.out.len))
    rw [HB.out]
    clear hnn
    go_enter Tryd.func63, Tryd.ntmps63
    go_wp2_with fail
    go_ret
    exact ⟨rfl, 0, rfl⟩

end Go.Proofs.YtidlnecgfgnllaaDoor
end

section
/-
  The contracts of the reference's Check and of bitset.Check: whether a list is a set. Conditions: those of the types; the table of TrailingZeros64 lies as its initialiser lays it.
-/
namespace Go.Proofs.YtidlnecgfgnllaaDoor
open Go.RowKit

/-- The first k places are as in a set. -/
def Places (zs : List Int) (k : Nat) : Prop := ∀ (i : Nat) (hi : i < zs.length), i < k → (0 ≤ zs[i] ∧ zs[i] < 512) ∧ (∀ j, i = j + 1 → ∀ hj : j < zs.length, zs[j] < zs[i])
theorem Places.next {zs : List Int} {k : Nat} (h : Places zs k) (h1 : ∀ hi : k < zs.length, (0 ≤ zs[k] ∧ zs[k] < 512) ∧ (∀ j, k = j + 1 → ∀ hj : j < zs.length, zs[j] < zs[k])) : Places zs (k + 1) := by
  intro i hi hik
  rcases Nat.lt_or_ge i k with h2 | h2
  · exact h i hi h2
  · obtain rfl : i = k := by omega
    exact h1 hi
theorem Places.all {zs : List Int} (h : Places zs zs.length) : ascB zs = true := ascB_iff.2 (asc_of_places fun i hi => h i hi hi)
theorem asc_not {zs : List Int} (h : ¬ Asc zs) : ascB zs = false := by
  cases e : ascB zs with
  | false => rfl
  | true => exact absurd (ascB_iff.1 e) h

set_option maxHeartbeats 1000000 in
theorem rcheck_any (A : Option Addr) (n c : Nat) (zs : List Int) (w : World) (h : Hid (Lst w A n zs)) :
    Calls Tryd.prog 48 #[.slice A n c] w fun e w' => e = .returned (.bool (ascB zs)) ∧ Below w.heap.size w w' := by
  obtain ⟨b, hb⟩ : ∃ b, ascB zs = b := ⟨_, rfl⟩
  rw [hb]
  have HB := hide hb
  have hl := h.out.le
  clear hb
  go_enter Tryd.func48, Tryd.ntmps48
  go_wp2_with fail
  go_loopw [3] (fun i wr => ∃ k : Nat, k ≤ n ∧ i = .int .i64 k ∧ Hid (Places zs k) ∧ Hid (Below w.heap.size w wr)) (fun i _ => n - (intOf i).toNat)
  case atStart => exact ⟨0, by omega, rfl, hide (fun i hi h => by omega), hide (Below.refl _ _)⟩
  case round =>
    obtain ⟨k, hk, rfl, hP, hb⟩ := hrel
    by_cases hlt : k < n
    · have l1 : k < zs.length := by have := h.out.len; omega
      obtain ⟨b1, o1, rfl, _, hc0⟩ := int_at h.out.see l1
      have hc1 := keep_cellB hb.out hc0
      cases hg : goodB zs[k] with
      | true =>
        have hg' := goodB_iff.1 hg
        cases k with
        | zero =>
          have HN := hide (hP.out.next fun hi => ⟨hg', fun j e => by omega⟩)
          generalize zs[0] = y at hc0 hc1 hg
          have f1 : ∀ p : After wr, p.w.cell? ⟨b1, o1, none⟩ = some (.int .i64 y) := fun p => after_cell hc1 p
          have cg := fun w => good_any y w
          rw [hg] at cg
          clear hc0 hc1 hg hg' l1
          go_wp2_with fail
          refine wp_region_after (by kernel_rfl) (by kernel_rfl) ?_
          repeat (go_big_quiet_step ((go_at_call 39; with_reducible exact after_same (cg _))))
          refine wpQuiet_nil ?_
          intro _ hw'
          obtain ⟨p1, hw''⟩ := hw'
          subst hw''
          have HB1 := hide (below_call hb.out p1.b)
          clear f1 cg
          go_wp2_with fail
          go_roundw
          case rel => exact ⟨0 + 1, by omega, by go_num, HN, HB1⟩
          case measure => simp [intOf]; omega
        | succ j =>
          have l2 : j < zs.length := by omega
          have hd0 := (int_at h.out.see l2)
          obtain ⟨b2, o2, e2, _, hd0⟩ := hd0
          injection e2 with e2
          injection e2 with e21 e22
          subst e21 e22
          have hd1 := keep_cellB hb.out hd0
          have hk0 : decide ((0 : Int) < ((j + 1 : Nat) : Int)) = true := decide_eq_true (by omega)
          have hw1 : IntKind.i64.wrap (((j + 1 : Nat) : Int) - 1) = (j : Int) := by rw [IntWalk.i64_in _ (by omega)]; omega
          have hw2 : IntKind.i64.wrap ((j : Int) + 1 - 1) = (j : Int) := by rw [IntWalk.i64_in _ (by omega)]; omega
          have q1 : (j : Int) + 1 - 1 = (j : Int) := by omega
          cases hle : decide (zs[j + 1] ≤ zs[j]) with
          | false =>
            have hlt3 : zs[j] < zs[j + 1] := by simpa using hle
            have HN := hide (hP.out.next fun hi => ⟨hg', fun j' e hj => by
              obtain rfl : j' = j := by omega
              exact hlt3⟩)
            generalize zs[j + 1] = y at hc0 hc1 hg hle hlt3
            generalize zs[j] = z at hd0 hd1 hle hlt3
            have f1 : ∀ p : After wr, p.w.cell? ⟨b1, o1 + (j + 1), none⟩ = some (.int .i64 y) := fun p => after_cell hc1 p
            have f2 : ∀ p : After wr, p.w.cell? ⟨b1, o1 + j, none⟩ = some (.int .i64 z) := fun p => after_cell hd1 p
            have cg := fun w => good_any y w
            rw [hg] at cg
            clear hc0 hc1 hd0 hd1 hg hg' l1 l2 hlt3
            go_wp2_with fail
            refine wp_region_after (by kernel_rfl) (by kernel_rfl) ?_
            repeat (go_big_quiet_step ((go_at_call 39; with_reducible exact after_same (cg _))))
            refine wpQuiet_nil ?_
            intro _ hw'
            obtain ⟨p1, hw''⟩ := hw'
            subst hw''
            have HB1 := hide (below_call hb.out p1.b)
            clear f1 cg f2 hw1 hw2 q1 hle hk0
            go_wp2_with fail
            go_roundw
            case rel => exact ⟨j + 1 + 1, by omega, by go_num, HN, HB1⟩
            case measure => simp [intOf]; omega
          | true =>
            have hle3 : zs[j + 1] ≤ zs[j] := by simpa using hle
            have HF := hide (HB.out.symm.trans (asc_not fun ha => by have := (places_of_asc ha (j + 1) l1).2 j rfl l2; omega))
            generalize zs[j + 1] = y at hc0 hc1 hg hle hle3
            generalize zs[j] = z at hd0 hd1 hle hle3
            have f1 : ∀ p : After wr, p.w.cell? ⟨b1, o1 + (j + 1), none⟩ = some (.int .i64 y) := fun p => after_cell hc1 p
            have f2 : ∀ p : After wr, p.w.cell? ⟨b1, o1 + j, none⟩ = some (.int .i64 z) := fun p => after_cell hd1 p
            have cg := fun w => good_any y w
            rw [hg] at cg
            clear hc0 hc1 hd0 hd1 hg hg' l1 l2 hle3
            go_wp2_with fail
            refine wp_region_after (by kernel_rfl) (by kernel_rfl) ?_
            repeat (go_big_quiet_step ((go_at_call 39; with_reducible exact after_same (cg _))))
            refine wpQuiet_nil ?_
            intro _ hw'
            obtain ⟨p1, hw''⟩ := hw'
            subst hw''
            have HB1 := hide (below_call hb.out p1.b)
            clear f1 cg f2 hw1 hw2 q1 hle hk0
            go_wp2_with fail
            go_ret
            exact ⟨by rw [HF.out]; rfl, HB1.out⟩
      | false =>
        have HF := hide (HB.out.symm.trans (asc_not fun ha => by
          have := goodB_iff.2 (places_of_asc ha k l1).1
          rw [this] at hg
          cases hg))
        generalize zs[k] = y at hc0 hc1 hg
        have f1 : ∀ p : After wr, p.w.cell? ⟨b1, o1 + k, none⟩ = some (.int .i64 y) := fun p => after_cell hc1 p
        have cg := fun w => good_any y w
        rw [hg] at cg
        clear hc0 hc1 hg l1
        go_wp2_with fail
        refine wp_region_after (by kernel_rfl) (by kernel_rfl) ?_
        repeat (go_big_quiet_step ((go_at_call 39; with_reducible exact after_same (cg _))))
        refine wpQuiet_nil ?_
        intro _ hw'
        obtain ⟨p1, hw''⟩ := hw'
        subst hw''
        have HB1 := hide (below_call hb.out p1.b)
        clear f1 cg
        go_wp2_with fail
        go_ret
        exact ⟨by rw [HF.out]; rfl, HB1.out⟩
    · obtain rfl : k = n := by omega
      have HF := hide (HB.out.symm.trans (Places.all (by rw [h.out.len]; exact hP.out)))
      go_wp2_with fail
      go_ret
      exact ⟨by rw [HF.out]; rfl, hb.out⟩

theorem top_check_any (A : Option Addr) (n c : Nat) (zs : List Int) (w : World) (h : Hid (Lst w A n zs)) (hT : Hid (Tab w)) :
    Calls Tryd.prog 45 #[.slice A n c] w fun e w' => e = .returned (.bool (ascB zs)) ∧ Below w.heap.size w w' := by
  have HE := hide (show ascB zs = decide (zs = els (bs zs)) from rfl)
  rw [HE.out]
  have c0 := top_of_any A n c zs w h hT
  have HA := hide (els_asc (bs zs))
  generalize els (bs zs) = l at c0 HA ⊢
  generalize hb : decide (zs = l) = b
  have HQ := hide hb
  clear hb
  go_enter Tryd.func45, Tryd.ntmps45
  go_wp2_with fail
  refine c0.mono ?_
  rintro e w' hP
  obtain ⟨A2, c2, rfl, hL⟩ := hP.rel
  have HL := hide hL
  have h1 := hide (h.out.below HL.out.2)
  have h2 := hide (HL.out.lst (by have := HA.out.length; omega) (asc_rng HA.out))
  clear hP hL c0
  go_wp2_with fail
  have ce := equal_any A n c zs A2 l.length c2 l w' h1 h2
  rw [HQ.out] at ce
  refine ce.mono ?_
  rintro e w2 ⟨rfl, q, rfl⟩
  clear ce
  have HB := hide (below_draws HL.out.2 q)
  go_wp2_with fail
  go_ret
  exact ⟨rfl, HB.out⟩
end Go.Proofs.YtidlnecgfgnllaaDoor
end
