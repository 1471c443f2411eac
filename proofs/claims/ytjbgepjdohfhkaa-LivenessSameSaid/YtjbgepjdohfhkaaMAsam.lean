import Derived.Test.YtjbgepjdohfhkaaMLsam
import Derived.Test.YtjbgepjdohfhkaaMRct
set_option linter.unusedVariables false
set_option linter.unusedSimpArgs false
section
/-
  The contracts of slices.Equal, slices.EqualFunc at rows of lists, and liveness.Same. Conditions: those of the types; at most 1048576 lists.
-/
namespace Go.Proofs.Ytjbgepjdohfhkaa
open Go.RowKit

set_option maxHeartbeats 400000 in
theorem sleq_any (A : Option Addr) (n c : Nat) (zs : List Int) (A' : Option Addr) (n' c' : Nat) (ys : List Int) (w : World) (h : Hid (Lst w A n zs)) (h' : Hid (Lst w A' n' ys)) :
    Calls Try.prog 25 #[.slice A n c, .slice A' n' c'] w (BoolPost (decide (zs = ys)) w) := by
  have hl := h.out.le
  by_cases hnn : n = n'
  · subst hnn
    obtain ⟨b, hb⟩ : ∃ b, decide (zs = ys) = b := ⟨_, rfl⟩
    rw [hb]
    have HB := hide hb
    clear hb
    go_enter Try.func25, Try.ntmps25
    go_wp2_with fail
    go_loopw [5, 13] (fun s5 i wr => ∃ k : Nat, k ≤ n ∧ i = .int .i64 k ∧ Hid (zs.take k = ys.take k) ∧ ∃ m, wr = w.drewN m) (fun _ i _ => n - (intOf i).toNat)
    case atStart => exact ⟨0, by omega, rfl, hide rfl, 0, rfl⟩
    case round =>
      obtain ⟨k, hk, rfl, hT, m, rfl⟩ := hrel
      by_cases hlt : k < n
      · have l1 : k < zs.length := by have := h.out.len; omega
        have l2 : k < ys.length := by have := h'.out.len; omega
        obtain ⟨b1, o1, rfl, _, hc1⟩ := int_at h.out.see l1
        obtain ⟨b2, o2, rfl, _, hc2⟩ := int_at h'.out.see l2
        have N1 := hide (fun hne => take_ne l1 l2 hne)
        have N2 := hide (fun heq : zs[k] = ys[k] => (show zs.take (k + 1) = ys.take (k + 1) by rw [take_snoc l1, take_snoc l2, hT.out, heq]))
        generalize zs[k] = x at hc1 N1 N2
        generalize ys[k] = y at hc2 N1 N2
        clear l1 l2
        by_cases hxy : x = y
        · subst hxy
          have H2 := hide (N2.out rfl)
          clear N1 N2
          go_wp2_with fail
          go_quiet (fail)
          go_wp2_with fail
          go_roundw
          case rel => exact ⟨k + 1, by omega, by go_num, H2, _, rfl⟩
          case measure => simp [intOf]; omega
        · have hne : (x != y) = true := by rw [bne_iff_ne]; exact hxy
          have hB := hide (HB.out.symm.trans (N1.out hxy))
          clear N1 N2 hxy
          go_wp2_with fail
          go_quiet (fail)
          go_wp2_with fail
          go_ret
          exact ⟨by rw [hB.out]; rfl, _, World.drewN_drewN _ _ _⟩
      · obtain rfl : k = n := by omega
        have hB := hide (HB.out.symm.trans (decide_eq_true (by
          have := hT.out
          rwa [List.take_of_length_le (by have := h.out.len; omega), List.take_of_length_le (by have := h'.out.len; omega)] at this)))
        go_wp2_with fail
        go_ret
        exact ⟨by rw [hB.out]; rfl, _, rfl⟩
  · have hne : ((n : Int) != (n' : Int)) = true := by rw [bne_iff_ne]; omega
    have HB := hide (show decide (zs = ys) = false by
      rw [decide_eq_false_iff_not]
      rintro rfl
      exact hnn (h.out.len.symm.trans h'.out.len))
    rw [HB.out]
    clear hnn
    go_enter Try.func25, Try.ntmps25
    go_wp2_with fail
    go_ret
    exact ⟨rfl, 0, rfl⟩
set_option maxRecDepth 100000 in
set_option maxHeartbeats 1000000 in
theorem eqfunc_any (A : Option Addr) (n c : Nat) (A' : Option Addr) (n' c' : Nat) (zss yss : List (List Int)) (w : World) (h : Hid (Ann w A n zss)) (h' : Hid (Ann w A' n' yss)) :
    Calls Try.prog 24 #[.slice A n c, .slice A' n' c', .func (.func 25) #[] #[]] w (BoolPost (decide (zss = yss)) w) := by
  have hz1 := h.out.len
  have hz2 := h'.out.len
  have hz3 := h.out.le
  by_cases hnn : n = n'
  · subst hnn
    obtain ⟨b, hb⟩ : ∃ b, decide (zss = yss) = b := ⟨_, rfl⟩
    rw [hb]
    have HB := hide hb
    clear hb
    go_enter Try.func24, Try.ntmps24
    go_wp2_with fail
    go_loopw [7, 8, 9, 17] (fun s7 s8 s9 s wr => ∃ k : Nat, k ≤ n ∧ s = .int .i64 (k : Int) ∧ Hid (zss.take k = yss.take k) ∧ ∃ m, wr = w.drewN m) (fun _ _ _ s _ => n - (intOf s).toNat)
    case atStart => exact ⟨0, by omega, rfl, hide rfl, 0, rfl⟩
    case round =>
      obtain ⟨k, hk, rfl, hT, m, rfl⟩ := hrel
      by_cases hlt : k < n
      · obtain ⟨b1, o1, A1, c1, rfl, hb1, x0, hl1, -⟩ := h.out.at_ hlt
        obtain ⟨b2, o2, A2, c2, rfl, hb2, y0, hl2, -⟩ := h'.out.at_ hlt
        have N1 := hide (fun hne => HB.out.symm.trans (ann_ne (by omega) (by omega) (k := k) hne))
        have N2 := hide (fun he => ann_more (zss := zss) (yss := yss) (by omega) (by omega) hT.out he)
        generalize zss.getD k [] = xs at x0 hl1 N1 N2
        generalize yss.getD k [] = ys at y0 hl2 N1 N2
        have ce := sleq_any A1 xs.length c1 xs A2 ys.length c2 ys (w.drewN m) (hide (hl1.below (below_draws (Below.refl _ _) m))) (hide (hl2.below (below_draws (Below.refl _ _) m)))
        unfold BoolPost at ce
        have hk0 : (0 : Int) ≤ (k : Int) := by omega
        have hkn : (k : Int) < (n : Int) := by omega
        clear hl1 hl2 hb1 hb2
        by_cases hxy : xs = ys
        · rw [decide_eq_true hxy] at ce
          have H2 := hide (N2.out hxy)
          clear N1 N2 hxy
          go_wp2_with fail
          refine ce.mono ?_
          rintro e w5 ⟨rfl, q, rfl⟩
          clear ce
          go_wp2_with fail
          go_roundw
          case rel => exact ⟨k + 1, by omega, by go_num, H2, m + q, rfl⟩
          case measure => simp [intOf]; omega
        · rw [decide_eq_false hxy] at ce
          have H2 := hide (N1.out hxy)
          clear N1 N2 hxy
          go_wp2_with fail
          refine ce.mono ?_
          rintro e w5 ⟨rfl, q, rfl⟩
          clear ce
          go_wp2_with fail
          go_ret
          exact ⟨by rw [H2.out]; rfl, m + q, rfl⟩
      · obtain rfl : k = n := by omega
        have hB := hide (HB.out.symm.trans (decide_eq_true (by
          have := hT.out
          rwa [List.take_of_length_le (by omega), List.take_of_length_le (by omega)] at this)))
        go_wp2_with fail
        go_ret
        exact ⟨by rw [hB.out]; rfl, _, rfl⟩
  · have hne : ((n : Int) != (n' : Int)) = true := by rw [bne_iff_ne]; omega
    have HB := hide (show decide (zss = yss) = false by
      rw [decide_eq_false_iff_not]
      rintro rfl
      omega)
    rw [HB.out]
    clear hnn
    go_enter Try.func24, Try.ntmps24
    go_wp2_with fail
    go_ret
    exact ⟨rfl, 0, rfl⟩
set_option maxHeartbeats 1000000 in
theorem lsame16_any (A : Option Addr) (n c : Nat) (A' : Option Addr) (n' c' : Nat) (zss yss : List (List Int)) (w : World) (h : Hid (Ann w A n zss)) (h' : Hid (Ann w A' n' yss)) :
    Calls Try.prog 11 #[.agg #[.slice A n c], .agg #[.slice A' n' c']] w fun e w' => e = .returned (.bool (decide (zss = yss))) ∧ Below w.heap.size w w' := by
  obtain ⟨W, hW⟩ : ∃ W, (w.alloc (.cells #[.slice A n c] 30)).alloc (.cells #[.slice A' n' c'] 30) = W := ⟨_, rfl⟩
  have hb := hide (show Below w.heap.size w W by rw [← hW]; exact below2 w _ _)
  have r0 := hide (show Row W w.heap.size 30 [.slice A n c] by rw [← hW]; exact (Row.new w _ _).alloc _)
  have r1 := hide (show Row W (w.heap.size + 1) 30 [.slice A' n' c'] by rw [← hW]; exact (Row.new _ _ _).at_ (by simp))
  have cs := eqfunc_any A n c A' n' c' zss yss W (hide (h.out.below hb.out)) (hide (h'.out.below hb.out))
  unfold BoolPost at cs
  have HW := hide hW
  clear hW
  go_enter Try.func11, Try.ntmps11
  go_upto_region 1 with (fail)
  rw [HW.out]
  have x0 := r0.out.cell (k := 0) rfl
  have x1 := r1.out.cell (k := 0) rfl
  go_wp2_with fail
  refine cs.mono ?_
  rintro e w2 ⟨rfl, q, rfl⟩
  clear x0 x1
  go_wp2_with fail
  go_ret
  exact ⟨rfl, below_draws hb.out q⟩
end Go.Proofs.Ytjbgepjdohfhkaa
end
