/-
  The contracts of the functions on intervals: extent.right, wrong, end, Overlap, Inside; the reference's Right, Overlap, Inside. Conditions: those of the types.
-/
import Derived.Test.YtmfklggjcggoeaaEleaf
import Derived.Test.YtmfklggjcggoeaaWords
import Derived.Deep.RegionHeld3
import Derived.Deep.DrawnRows
import Derived.BigQuiet
import Derived.Outline
namespace Go.Proofs.Ytmfklggjcggoeaa
open Go.RowKit
attribute [local go_sem ↓] Go.wp_at_zero Go.wp_at_succ

set_option maxHeartbeats 400000 in
theorem right_any (o s : Int) (w : World) : Calls Try.prog 33 #[pv o s] w fun e w' => e = .returned (.bool (rightB o s)) ∧ Below w.heap.size w w' := by
  have c := add_any o s
  have hr := hide (rightB_add o s)
  generalize addV o s = v at c
  generalize addE o s = x at c hr
  go_enter Try.func33, Try.ntmps33
  go_wp2_with fail
  refine (c _).mono ?_
  rintro e w' ⟨rfl, rfl⟩
  go_wp2_with fail
  go_ret
  exact ⟨ret_bool (by rw [← hr.out]; first | rfl | (by_cases h : x = 0 <;> simp [h])), below1 _ _⟩

set_option maxHeartbeats 400000 in
theorem wrong_any (o s : Int) (w : World) : Calls Try.prog 42 #[pv o s] w fun e w' => e = .returned (.bool (!rightB o s)) ∧ Below w.heap.size w w' := by
  have c := right_any o s
  generalize rightB o s = v at c ⊢
  go_enter Try.func42, Try.ntmps42
  go_wp2_with fail
  refine (c _).mono ?_
  rintro e w1 ⟨rfl, hb1⟩
  go_wp2_with fail
  go_ret
  exact ⟨rfl, below_call (below1 _ _) hb1⟩

theorem end_any (o s : Int) (w : World) (h0 : -9223372036854775808 ≤ o + s) (h1 : o + s ≤ 9223372036854775807) : Calls Try.prog 34 #[pv o s] w fun e w' => e = .returned (.int .i64 (o + s)) ∧ Below w.heap.size w w' := by
  go_enter Try.func34, Try.ntmps34
  go_wp2_with fail
  go_ret
  exact ⟨rfl, below1 _ _⟩

/-- The two boxes of a function of two intervals. -/
theorem boxes2 (o s p t : Int) (w : World) : ∃ W, (w.alloc (.cells #[.int .i64 o, .int .i64 s] 32)).alloc (.cells #[.int .i64 p, .int .i64 t] 32) = W ∧ Below w.heap.size w W ∧ W.cell? ⟨w.heap.size, 0, none⟩ = some (.int .i64 o) ∧ W.cell? ⟨w.heap.size, 1, none⟩ = some (.int .i64 s) ∧
    W.cell? ⟨w.heap.size + 1, 0, none⟩ = some (.int .i64 p) ∧ W.cell? ⟨w.heap.size + 1, 1, none⟩ = some (.int .i64 t) := by
  have r1 := (Row.new w 32 [.int .i64 o, .int .i64 s]).alloc (.cells #[.int .i64 p, .int .i64 t] 32)
  have r2 := Row.new (w.alloc (.cells #[.int .i64 o, .int .i64 s] 32)) 32 [.int .i64 p, .int .i64 t]
  rw [show (w.alloc (.cells #[.int .i64 o, .int .i64 s] 32)).heap.size = w.heap.size + 1 by simp] at r2
  exact ⟨_, rfl, below2 _ _ _, r1.cell rfl, r1.cell rfl, r2.cell rfl, r2.cell rfl⟩

set_option maxHeartbeats 1000000 in
theorem overlap_any (o s p t : Int) (w : World) : Calls Try.prog 17 #[pv o s, pv p t] w fun e w' => e = .returned (.bool (ovlB o s p t)) ∧ Below w.heap.size w w' := by
  obtain ⟨W, hW, hb, f1, f2, f3, f4⟩ := boxes2 o s p t w
  have hbW := hide hb
  have c1 := right_any o s
  have g1 := after_cell f1
  have g2 := after_cell f2
  have g3 := after_cell f3
  have g4 := after_cell f4
  clear hb f1 f2 f3 f4
  cases hr : rightB o s with
  | false =>
    have ho := hide (ovlB_off (o := o) (s := s) (p := p) (t := t) (.inl hr))
    rw [hr] at c1
    clear hr
    go_enter Try.func17, Try.ntmps17
    go_wp2_with fail
    clear hW
    refine wp_region_after (by kernel_rfl) (by kernel_rfl) ?_
    repeat (go_big_quiet_step ((first | (go_at_call 33; with_reducible exact after_of (c1 _)))))
    refine wpQuiet_nil ?_
    intro _ hw'
    obtain ⟨p1, hw''⟩ := hw'
    subst hw''
    go_wp2_with fail
    go_ret
    exact ⟨ret_bool ho.out.symm, below_call hbW.out p1.b⟩
  | true =>
    have c2 := right_any p t
    cases hr' : rightB p t with
    | false =>
      have ho := hide (ovlB_off (o := o) (s := s) (p := p) (t := t) (.inr hr'))
      rw [hr] at c1
      rw [hr'] at c2
      clear hr hr'
      go_enter Try.func17, Try.ntmps17
      go_wp2_with fail
      clear hW
      refine wp_region_after (by kernel_rfl) (by kernel_rfl) ?_
      repeat (go_big_quiet_step ((first | (go_at_call 33; with_reducible exact after_of (c1 _)) | (go_at_call 33; with_reducible exact after_of (c2 _)))))
      refine wpQuiet_nil ?_
      intro _ hw'
      obtain ⟨p1, hw''⟩ := hw'
      subst hw''
      go_wp2_with fail
      go_ret
      exact ⟨ret_bool ho.out.symm, below_call hbW.out p1.b⟩
    | true =>
      have ho := hide (ovlB_dev hr hr')
      have b1 := rightB_iff.1 hr
      have b2 := rightB_iff.1 hr'
      obtain ⟨b3, b4, b5⟩ := b1
      obtain ⟨b6, b7, b8⟩ := b2
      rw [hr] at c1
      rw [hr'] at c2
      clear hr hr'
      go_enter Try.func17, Try.ntmps17
      go_wp2_with fail
      clear hW
      refine wp_region_after (by kernel_rfl) (by kernel_rfl) ?_
      repeat (go_big_quiet_step ((first | (go_at_call 33; with_reducible exact after_of (c1 _)) | (go_at_call 33; with_reducible exact after_of (c2 _)) | (go_at_call 34; exact after_of (end_any _ _ _ (by omega) (by omega))))))
      refine wpQuiet_nil ?_
      intro _ hw'
      obtain ⟨p1, hw''⟩ := hw'
      subst hw''
      go_wp2_with fail
      all_goals
        go_ret
        exact ⟨ret_bool (by rw [← ho.out]; exact decide_eq_decide.2 (by omega)), below_call hbW.out p1.b⟩

theorem inside_any (o s n : Int) (w : World) : Calls Try.prog 19 #[pv o s, .int .i64 n] w fun e w' => e = .returned (.bool (insB o s n)) ∧ Below w.heap.size w w' := by
  have c := right_any o s
  have r1 := Row.new w 32 [.int .i64 o, .int .i64 s]
  have f1 := r1.cell (k := 0) rfl
  have f2 := r1.cell (k := 1) rfl
  cases hr : rightB o s with
  | false =>
    rw [hr] at c
    have ho := hide (show insB o s n = false by simp [insB, hr])
    clear hr r1
    go_enter Try.func19, Try.ntmps19
    go_wp2_with fail
    refine (c _).mono ?_
    rintro e w1 ⟨rfl, hb1⟩
    go_wp2_with fail
    go_ret
    exact ⟨ret_bool ho.out.symm, below_call (below1 _ _) hb1⟩
  | true =>
    rw [hr] at c
    have ho := hide (show insB o s n = decide (o + s ≤ n) by simp [insB, hr])
    obtain ⟨b3, b4, b5⟩ := rightB_iff.1 hr
    clear hr r1
    go_enter Try.func19, Try.ntmps19
    go_wp2_with fail
    refine (c _).mono ?_
    rintro e w1 ⟨rfl, hb1⟩
    have g1 := keep_cellB hb1 f1
    have g2 := keep_cellB hb1 f2
    go_wp2_with fail
    refine (end_any o s _ (by omega) (by omega)).mono ?_
    rintro e w2 ⟨rfl, hb2⟩
    go_wp2_with fail
    go_ret
    exact ⟨ret_bool ho.out.symm, below_call (below_call (below1 _ _) hb1) hb2⟩

theorem rright_any (o s : Int) (w : World) : Calls Try.prog 35 #[pv o s] w fun e w' => e = .returned (.bool (rightB o s)) ∧ Below w.heap.size w w' := by
  have c1 := rbound_any o
  have c2 := rbound_any s
  have hr := hide (show rightB o s = (bndB o && bndB s && decide (o + s ≤ 2147483647)) from rfl)
  cases h1 : bndB o with
  | false =>
    rw [h1] at c1 hr
    clear h1
    go_enter Try.func35, Try.ntmps35
    go_wp2_with fail
    refine (c1 _).mono ?_
    rintro e w' ⟨rfl, rfl⟩
    go_wp2_with fail
    go_ret
    exact ⟨ret_bool (by rw [hr.out]; simp), below1 _ _⟩
  | true =>
    cases h2 : bndB s with
    | false =>
      rw [h1] at c1 hr
      rw [h2] at c2 hr
      clear h1 h2
      go_enter Try.func35, Try.ntmps35
      go_wp2_with fail
      refine (c1 _).mono ?_
      rintro e w' ⟨rfl, rfl⟩
      go_wp2_with fail
      refine (c2 _).mono ?_
      rintro e w' ⟨rfl, rfl⟩
      go_wp2_with fail
      go_ret
      exact ⟨ret_bool (by rw [hr.out]; simp), below1 _ _⟩
    | true =>
      obtain ⟨x0, x1⟩ := bndB_iff.1 h1
      obtain ⟨y0, y1⟩ := bndB_iff.1 h2
      rw [h1] at c1 hr
      rw [h2] at c2 hr
      clear h1 h2
      go_enter Try.func35, Try.ntmps35
      go_wp2_with fail
      refine (c1 _).mono ?_
      rintro e w' ⟨rfl, rfl⟩
      go_wp2_with fail
      refine (c2 _).mono ?_
      rintro e w' ⟨rfl, rfl⟩
      go_wp2_with fail
      go_ret
      exact ⟨ret_bool (by rw [hr.out]; simp), below1 _ _⟩

theorem rinside_any (o s n : Int) (w : World) : Calls Try.prog 20 #[pv o s, .int .i64 n] w fun e w' => e = .returned (.bool (insB o s n)) ∧ Below w.heap.size w w' := by
  have c := rright_any o s
  have r1 := Row.new w 32 [.int .i64 o, .int .i64 s]
  have f1 := r1.cell (k := 0) rfl
  have f2 := r1.cell (k := 1) rfl
  cases hr : rightB o s with
  | false =>
    rw [hr] at c
    have ho := hide (show insB o s n = false by simp [insB, hr])
    clear hr r1
    go_enter Try.func20, Try.ntmps20
    go_wp2_with fail
    refine (c _).mono ?_
    rintro e w1 ⟨rfl, hb1⟩
    go_wp2_with fail
    go_ret
    exact ⟨ret_bool ho.out.symm, below_call (below1 _ _) hb1⟩
  | true =>
    rw [hr] at c
    have ho := hide (show insB o s n = decide (o + s ≤ n) by simp [insB, hr])
    obtain ⟨b3, b4, b5⟩ := rightB_iff.1 hr
    clear hr r1
    go_enter Try.func20, Try.ntmps20
    go_wp2_with fail
    refine (c _).mono ?_
    rintro e w1 ⟨rfl, hb1⟩
    have g1 := keep_cellB hb1 f1
    have g2 := keep_cellB hb1 f2
    go_wp2_with fail
    go_ret
    exact ⟨ret_bool ho.out.symm, below_call (below1 _ _) hb1⟩

theorem decide_and2 (a b : Prop) [Decidable a] [Decidable b] : (decide a && decide b) = decide (a ∧ b) := by simp
set_option maxHeartbeats 1000000 in
theorem roverlap_any (o s p t : Int) (w : World) : Calls Try.prog 18 #[pv o s, pv p t] w fun e w' => e = .returned (.bool (ovlB o s p t)) ∧ Below w.heap.size w w' := by
  obtain ⟨W, hW, hb, f1, f2, f3, f4⟩ := boxes2 o s p t w
  have hbW := hide hb
  have hw := hide hW
  have c1 := rright_any o s
  have c2 := rright_any p t
  cases hr : rightB o s with
  | false =>
    have ho := hide (ovlB_off (o := o) (s := s) (p := p) (t := t) (.inl hr))
    rw [hr] at c1
    clear hr c2
    go_enter Try.func18, Try.ntmps18
    go_wp2_with fail
    refine (c1 _).mono ?_
    rintro e w1 ⟨rfl, hb1⟩
    go_wp2_with fail
    go_ret
    exact ⟨ret_bool ho.out.symm, below_call hb hb1⟩
  | true =>
    cases hr' : rightB p t with
    | false =>
      have ho := hide (ovlB_off (o := o) (s := s) (p := p) (t := t) (.inr hr'))
      rw [hr] at c1
      rw [hr'] at c2
      clear hr hr'
      go_enter Try.func18, Try.ntmps18
      go_wp2_with fail
      refine (c1 _).mono ?_
      rintro e w1 ⟨rfl, hb1⟩
      have g1 := keep_cellB hb1 f1
      have g2 := keep_cellB hb1 f2
      have g3 := keep_cellB hb1 f3
      have g4 := keep_cellB hb1 f4
      go_wp2_with fail
      refine (c2 _).mono ?_
      rintro e w2 ⟨rfl, hb2⟩
      go_wp2_with fail
      go_ret
      exact ⟨ret_bool ho.out.symm, below_call (below_call hb hb1) hb2⟩
    | true =>
      have b1 := rightB_iff.1 hr
      have b2 := rightB_iff.1 hr'
      obtain ⟨b3, b4, b5⟩ := b1
      obtain ⟨b6, b7, b8⟩ := b2
      rw [hr] at c1
      rw [hr'] at c2
      clear hr hr'
      go_enter Try.func18, Try.ntmps18
      go_wp2_with fail
      refine (c1 _).mono ?_
      rintro e w1 ⟨rfl, hb1⟩
      have g1 := keep_cellB hb1 f1
      have g2 := keep_cellB hb1 f2
      have g3 := keep_cellB hb1 f3
      have g4 := keep_cellB hb1 f4
      go_wp2_with fail
      refine (c2 _).mono ?_
      rintro e w2 ⟨rfl, hb2⟩
      have g5 := keep_cellB hb2 g1
      have g6 := keep_cellB hb2 g2
      have g7 := keep_cellB hb2 g3
      have g8 := keep_cellB hb2 g4
      have hB := hide (below_call (below_call hb hb1) hb2)
      clear g1 g2 g3 g4 f1 f2 f3 f4 hb hb1 hb2 hW c1 c2
      have ho := hide (ovlB_iff (o := o) (s := s) (p := p) (t := t))
      by_cases q1 : 0 < s
      all_goals by_cases q2 : 0 < t
      all_goals go_wp2_with fail
      all_goals
        go_ret
        refine ⟨ret_bool ?_, hB.out⟩
        rw [Bool.eq_iff_iff, ho.out]
        simp
        try omega
end Go.Proofs.Ytmfklggjcggoeaa
