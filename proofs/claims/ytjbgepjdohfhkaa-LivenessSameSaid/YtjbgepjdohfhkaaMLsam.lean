import Derived.Test.YtjbgepjdohfhkaaMKit
import Derived.Test.YtjbgepjdohfhkaaMRct
import Derived.Test.YtjbgepjdohfhkaaMFrows
import Derived.Deep.QuietTactic
import Derived.BigQuiet
import Derived.Deep.DeepCutAuto
set_option linter.unusedVariables false
set_option linter.unusedSimpArgs false
section
/-
  The contract of spillframeref04.Same: whether two lists of ints are one; it only reads. Conditions: those of the types.
-/
namespace Go.Proofs.Ytjbgepjdohfhkaa
open Go.RowKit

/-- A way to the end that only drew. -/
def BoolPost (b : Bool) (w : World) (e : Ending) (w' : World) : Prop := e = .returned (.bool b) ∧ ∃ k, w' = w.drewN k
theorem take_ne {zs ys : List Int} {k : Nat} (h : k < zs.length) (h' : k < ys.length) (hne : zs[k] ≠ ys[k]) : decide (zs = ys) = false := by
  rw [decide_eq_false_iff_not]
  rintro rfl
  exact hne rfl

set_option maxHeartbeats 400000 in
theorem lsame_any (A : Option Addr) (n c : Nat) (zs : List Int) (A' : Option Addr) (n' c' : Nat) (ys : List Int) (w : World) (h : Hid (Lst w A n zs)) (h' : Hid (Lst w A' n' ys)) :
    Calls Try.prog 43 #[.slice A n c, .slice A' n' c'] w (BoolPost (decide (zs = ys)) w) := by
  have hl := h.out.le
  by_cases hnn : n = n'
  · subst hnn
    obtain ⟨b, hb⟩ : ∃ b, decide (zs = ys) = b := ⟨_, rfl⟩
    rw [hb]
    have HB := hide hb
    clear hb
    go_enter Try.func43, Try.ntmps43
    go_wp2_with fail
    go_loopw [5] (fun i wr => ∃ k : Nat, k ≤ n ∧ i = .int .i64 k ∧ Hid (zs.take k = ys.take k) ∧ ∃ m, wr = w.drewN m) (fun i _ => n - (intOf i).toNat)
    case atStart => exact ⟨0, by omega, rfl, hide rfl, 0, rfl⟩
    case round =>
      obtain ⟨k, hk, rfl, hT, m, rfl⟩ := hrel
      by_cases hlt : k < n
      · have l1 : k < zs.length := by have := h.out.len; omega
        have l2 : k < ys.length := by have := h'.out.len; omega
        obtain ⟨b1, o1, rfl, _, hc1⟩ := int_at h.out.see l1
        obtain ⟨b2, o2, rfl, _, hc2⟩ := int_at h'.out.see l2
        have N1 := hide (fun hne => take_ne l1 l2 hne)
        have N2 := hide (fun heq : zs[k] = ys[k] => (show zs.take (k + 1) = ys.take (k + 1) by rw [take_snoc l1, take_snoc l2, hT.out, heq]))
        generalize zs[k] = x at hc1 N1 N2
        generalize ys[k] = y at hc2 N1 N2
        clear l1 l2
        by_cases hxy : x = y
        · subst hxy
          have H2 := hide (N2.out rfl)
          clear N1 N2
          go_wp2_with fail
          go_quiet (fail)
          go_wp2_with fail
          go_roundw
          case rel => exact ⟨k + 1, by omega, by go_num, H2, _, rfl⟩
          case measure => simp [intOf]; omega
        · have hne : (x != y) = true := by rw [bne_iff_ne]; exact hxy
          have hB := hide (HB.out.symm.trans (N1.out hxy))
          clear N1 N2 hxy
          go_wp2_with fail
          go_quiet (fail)
          go_wp2_with fail
          go_ret
          exact ⟨by rw [hB.out]; rfl, _, World.drewN_drewN _ _ _⟩
      · obtain rfl : k = n := by omega
        have hB := hide (HB.out.symm.trans (decide_eq_true (by
          have := hT.out
          rwa [List.take_of_length_le (by have := h.out.len; omega), List.take_of_length_le (by have := h'.out.len; omega)] at this)))
        go_wp2_with fail
        go_ret
        exact ⟨by rw [hB.out]; rfl, _, rfl⟩
  · have hne : ((n : Int) != (n' : Int)) = true := by rw [bne_iff_ne]; omega
    have HB := hide (show decide (zs = ys) = false by
      rw [decide_eq_false_iff_not]
      rintro rfl
      exact hnn (h.out.len.symm.trans h'.out.len))
    rw [HB.out]
    clear hnn
    go_enter Try.func43, Try.ntmps43
    go_wp2_with fail
    go_ret
    exact ⟨rfl, 0, rfl⟩

end Go.Proofs.Ytjbgepjdohfhkaa
end

section
/-
  The contract of the reference's SameAll at any two rows of lists. Conditions: those of the types; at most 1048576 lists.
-/
namespace Go.Proofs.Ytjbgepjdohfhkaa
open Go.RowKit

theorem ann_ne {zss yss : List (List Int)} {k : Nat} (h : k < zss.length) (h' : k < yss.length) (hne : zss.getD k [] ≠ yss.getD k []) : decide (zss = yss) = false := by
  rw [decide_eq_false_iff_not]
  rintro rfl
  exact hne rfl
theorem ann_more {zss yss : List (List Int)} {k : Nat} (h : k < zss.length) (h' : k < yss.length) (ht : zss.take k = yss.take k) (he : zss.getD k [] = yss.getD k []) : zss.take (k + 1) = yss.take (k + 1) := by
  rw [List.getD_eq_getElem?_getD, List.getD_eq_getElem?_getD, List.getElem?_eq_getElem h, List.getElem?_eq_getElem h'] at he
  rw [List.take_succ_eq_append_getElem h, List.take_succ_eq_append_getElem h', ht]
  simp only [Option.getD_some] at he
  rw [he]
set_option maxRecDepth 100000 in
set_option maxHeartbeats 1000000 in
theorem sameann_any (A : Option Addr) (n c : Nat) (A' : Option Addr) (n' c' : Nat) (zss yss : List (List Int)) (w : World) (h : Hid (Ann w A n zss)) (h' : Hid (Ann w A' n' yss)) :
    Calls Try.prog 23 #[.slice A n c, .slice A' n' c'] w fun e w' => e = .returned (.bool (decide (zss = yss))) ∧ Below w.heap.size w w' := by
  have hz1 := h.out.len
  have hz2 := h'.out.len
  have hz3 := h.out.le
  by_cases hnn : n = n'
  · subst hnn
    obtain ⟨b, hb⟩ : ∃ b, decide (zss = yss) = b := ⟨_, rfl⟩
    rw [hb]
    have HB := hide hb
    clear hb
    go_enter Try.func23, Try.ntmps23
    go_wp2_with fail
    go_loopw [5] (fun s wr => ∃ k : Nat, k ≤ n ∧ s = .int .i64 (k : Int) ∧ Hid (zss.take k = yss.take k) ∧ Hid (Below w.heap.size w wr)) (fun s _ => n - (intOf s).toNat)
    case atStart => exact ⟨0, by omega, rfl, hide rfl, hide (Below.refl _ _)⟩
    case round =>
      obtain ⟨k, hk, rfl, hT, hbr⟩ := hrel
      by_cases hlt : k < n
      · obtain ⟨b1, o1, A1, c1, rfl, hb1, x0, hl1, -⟩ := (h.out.below hbr.out).at_ hlt
        obtain ⟨b2, o2, A2, c2, rfl, hb2, y0, hl2, -⟩ := (h'.out.below hbr.out).at_ hlt
        have N1 := hide (fun hne => HB.out.symm.trans (ann_ne (by omega) (by omega) (k := k) hne))
        have N2 := hide (fun he => ann_more (zss := zss) (yss := yss) (by omega) (by omega) hT.out he)
        generalize zss.getD k [] = xs at x0 hl1 N1 N2
        generalize yss.getD k [] = ys at y0 hl2 N1 N2
        have q0 : ∀ p : After wr, p.w.cell? ⟨b1, o1 + k, none⟩ = some (.slice A1 xs.length c1) := fun p => after_cell x0 p
        have q1 : ∀ p : After wr, p.w.cell? ⟨b2, o2 + k, none⟩ = some (.slice A2 ys.length c2) := fun p => after_cell y0 p
        have cA : ∀ p : After wr, Calls Try.prog 43 #[.slice A1 xs.length c1, .slice A2 ys.length c2] p.w (fun e w' => e = .returned (.bool (decide (xs = ys))) ∧ Below p.w.heap.size p.w w') := fun p => (lsame_any A1 xs.length c1 xs A2 ys.length c2 ys p.w (hide (hl1.below p.b)) (hide (hl2.below p.b))).mono fun e w' q => by
          unfold BoolPost at q
          obtain ⟨he, j, rfl⟩ := q
          exact ⟨he, below_draws (Below.refl _ _) _⟩
        have hk0 : (0 : Int) ≤ (k : Int) := by omega
        have hkn : (k : Int) < (n : Int) := by omega
        by_cases hxy : xs = ys
        · rw [decide_eq_true hxy] at cA
          have H2 := hide (N2.out hxy)
          have C1 := hide cA
          clear cA x0 y0 hl1 hl2 hz1 hz2 N1 N2 hxy hb1 hb2
          go_upto_region 6 with (fail)
          refine wp_region_after (by kernel_rfl) (by kernel_rfl) ?_
          repeat (go_big_quiet_step (first | (go_at_call 43; with_reducible exact after_of (C1.out _))))
          refine wpQuiet_nil ?_
          intro _ hw'
          obtain ⟨p1, hw''⟩ := hw'
          subst hw''
          have HB2 := hide (below_call hbr.out p1.b)
          clear q0 q1 C1
          go_wp2_with fail
          go_roundw
          case rel => exact ⟨k + 1, by omega, by go_num, H2, HB2⟩
          case measure => simp [intOf]; omega
        · rw [decide_eq_false hxy] at cA
          have H2 := hide (N1.out hxy)
          have C1 := hide cA
          clear cA x0 y0 hl1 hl2 hz1 hz2 N1 N2 hxy hb1 hb2
          go_upto_region 6 with (fail)
          refine wp_region_after (by kernel_rfl) (by kernel_rfl) ?_
          repeat (go_big_quiet_step (first | (go_at_call 43; with_reducible exact after_of (C1.out _))))
          refine wpQuiet_nil ?_
          intro _ hw'
          obtain ⟨p1, hw''⟩ := hw'
          subst hw''
          have HB2 := hide (below_call hbr.out p1.b)
          clear q0 q1 C1
          go_wp2_with fail
          go_ret
          exact ⟨ret_bool H2.out.symm, HB2.out⟩
      · obtain rfl : k = n := by omega
        have hB := hide (HB.out.symm.trans (decide_eq_true (by
          have := hT.out
          rwa [List.take_of_length_le (by omega), List.take_of_length_le (by omega)] at this)))
        go_wp2_with fail
        go_ret
        exact ⟨ret_bool hB.out.symm, hbr.out⟩
  · have hne : ((n : Int) != (n' : Int)) = true := by rw [bne_iff_ne]; omega
    have HB := hide (show decide (zss = yss) = false by
      rw [decide_eq_false_iff_not]
      rintro rfl
      omega)
    go_enter Try.func23, Try.ntmps23
    go_wp2_with fail
    go_ret
    exact ⟨ret_bool HB.out.symm, Below.refl _ _⟩
end Go.Proofs.Ytjbgepjdohfhkaa
end
