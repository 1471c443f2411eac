/-
  The walk of the law ExtentIntervals: for all intervals a, b and every size it returns true, and what was in memory before the call is as it was. Conditions: those of the types.
-/
import Derived.Test.YtmfklggjcggoeaaEint
import Derived.Test.YtmfklggjcggoeaaEuplaw
import Derived.Deep.DeepCutAuto
namespace Go.Proofs.Ytmfklggjcggoeaa
open Go.RowKit
attribute [local go_sem ↓] Go.wp_at_zero Go.wp_at_succ

set_option maxHeartbeats 1000000 in
theorem intlaw_walk (o s p t n : Int) (w : World) :
    Calls Try.prog 5 #[pv o s, pv p t, .int .i64 n] w fun e w' => e = .returned (.bool true) ∧ Below w.heap.size w w' := by
  obtain ⟨W, hW, hb, f1, f2, f3, f4⟩ := boxes2 o s p t w
  have hbW := hide hb
  have m1 := mod_any o 20
  have m2 := mod_any s 9
  have m3 := mod_any p 20
  have m4 := mod_any t 9
  have m5 := mod_any n 30
  generalize o % 20 = o' at m1
  generalize s % 9 = s' at m2
  generalize p % 20 = p' at m3
  generalize t % 9 = t' at m4
  generalize n % 30 = n' at m5
  clear hb
  go_enter Try.func5, Try.ntmps5
  go_wp2_with fail
  refine (awake_any _).mono ?_
  rintro e w' ⟨rfl, rfl⟩
  go_wp2_with fail
  go_cut [7] (fun v wx => v = .pointer (some ⟨W.heap.size, 0, none⟩) ∧ wx = (W.alloc (.cells #[.int .i64 o', .int .i64 s'] 32)).drew)
  case first =>
    go_region_held3 (fun w' => w'.cell? ⟨w.heap.size, 0, none⟩ = some (.int .i64 o) ∧ w'.cell? ⟨w.heap.size, 1, none⟩ = some (.int .i64 s) ∧ w'.cell? ⟨w.heap.size + 1, 0, none⟩ = some (.int .i64 p) ∧ w'.cell? ⟨w.heap.size + 1, 1, none⟩ = some (.int .i64 t))
      (go_keep)
      (first
        | (go_at_call 10; (with_reducible refine (m1 _ (by omega) (by omega)).mono ?_); rintro e w2 ⟨rfl, rfl⟩)
        | (go_at_call 10; (with_reducible refine (m2 _ (by omega) (by omega)).mono ?_); rintro e w2 ⟨rfl, rfl⟩))
    all_goals
      go_wp2_with fail
      go_meet
      exact ⟨rfl, rfl⟩
  case rest =>
  obtain ⟨rfl, rfl⟩ := hcut
  have hb1 : Below W.heap.size W (W.alloc (.cells #[.int .i64 o', .int .i64 s'] 32)).drew := (below1 _ _).drew
  have r1 : Row (W.alloc (.cells #[.int .i64 o', .int .i64 s'] 32)).drew W.heap.size 32 [.int .i64 o', .int .i64 s'] := (Row.new W _ _).drew
  obtain ⟨W1, e1⟩ : ∃ W1, W1 = (W.alloc (.cells #[.int .i64 o', .int .i64 s'] 32)).drew := ⟨_, rfl⟩
  rw [← e1] at hb1 r1 ⊢
  have f1 := keep_cellB hb1 f1
  have f2 := keep_cellB hb1 f2
  have f3 := keep_cellB hb1 f3
  have f4 := keep_cellB hb1 f4
  have f5 := r1.cell (k := 0) rfl
  have f6 := r1.cell (k := 1) rfl
  have hbW := hide (below_call hbW.out hb1)
  clear hW e1 hb1 r1
  go_wp2_with fail
  go_cut [8] (fun v wx => v = .pointer (some ⟨W1.heap.size, 0, none⟩) ∧ wx = (W1.alloc (.cells #[.int .i64 p', .int .i64 t'] 32)).drew)
  case first =>
    go_region_held3 (fun w' => w'.cell? ⟨w.heap.size, 0, none⟩ = some (.int .i64 o) ∧ w'.cell? ⟨w.heap.size, 1, none⟩ = some (.int .i64 s) ∧ w'.cell? ⟨w.heap.size + 1, 0, none⟩ = some (.int .i64 p) ∧ w'.cell? ⟨w.heap.size + 1, 1, none⟩ = some (.int .i64 t) ∧ w'.cell? ⟨W.heap.size, 0, none⟩ = some (.int .i64 o') ∧ w'.cell? ⟨W.heap.size, 1, none⟩ = some (.int .i64 s'))
      (go_keep)
      (first
        | (go_at_call 10; (with_reducible refine (m3 _ (by omega) (by omega)).mono ?_); rintro e w2 ⟨rfl, rfl⟩)
        | (go_at_call 10; (with_reducible refine (m4 _ (by omega) (by omega)).mono ?_); rintro e w2 ⟨rfl, rfl⟩))
    all_goals
      go_wp2_with fail
      go_meet
      exact ⟨rfl, rfl⟩
  case rest =>
  obtain ⟨rfl, rfl⟩ := hcut
  have hb1 : Below W1.heap.size W1 (W1.alloc (.cells #[.int .i64 p', .int .i64 t'] 32)).drew := (below1 _ _).drew
  have r1 : Row (W1.alloc (.cells #[.int .i64 p', .int .i64 t'] 32)).drew W1.heap.size 32 [.int .i64 p', .int .i64 t'] := (Row.new W1 _ _).drew
  obtain ⟨W2, e1⟩ : ∃ W2, W2 = (W1.alloc (.cells #[.int .i64 p', .int .i64 t'] 32)).drew := ⟨_, rfl⟩
  rw [← e1] at hb1 r1 ⊢
  have g1 := after_cell (keep_cellB hb1 f1)
  have g2 := after_cell (keep_cellB hb1 f2)
  have g3 := after_cell (keep_cellB hb1 f3)
  have g4 := after_cell (keep_cellB hb1 f4)
  have g5 := after_cell (keep_cellB hb1 f5)
  have g6 := after_cell (keep_cellB hb1 f6)
  have g7 := after_cell (r1.cell (k := 0) rfl)
  have g8 := after_cell (r1.cell (k := 1) rfl)
  have hbW := hide (below_call hbW.out hb1)
  have c1 := overlap_any o s p t
  have c2 := roverlap_any o s p t
  have c3 := overlap_any o' s' p' t'
  have c4 := roverlap_any o' s' p' t'
  have c5 := overlap_any p' t' o' s'
  have c6 := inside_any o s n
  have c7 := rinside_any o s n
  have c8 := inside_any o' s' n'
  have c9 := rinside_any o' s' n'
  rw [ovlB_comm p' t' o' s'] at c5
  generalize ovlB o s p t = b1 at c1 c2
  generalize ovlB o' s' p' t' = b2 at c3 c4 c5
  generalize insB o s n = b3 at c6 c7
  generalize insB o' s' n' = b4 at c8 c9
  clear e1 hb1 r1 f1 f2 f3 f4 f5 f6
  go_wp2_with fail
  refine (m5 _ (by omega) (by omega)).mono ?_
  rintro e w' ⟨rfl, rfl⟩
  go_wp2_with fail
  refine wp_region_after (by kernel_rfl) (by kernel_rfl) ?_
  repeat (go_big_quiet_step ((first
    | (go_at_call 17; with_reducible exact after_of (c1 _))
    | (go_at_call 17; with_reducible exact after_of (c3 _))
    | (go_at_call 17; with_reducible exact after_of (c5 _))
    | (go_at_call 18; with_reducible exact after_of (c2 _))
    | (go_at_call 18; with_reducible exact after_of (c4 _))
    | (go_at_call 19; with_reducible exact after_of (c6 _))
    | (go_at_call 19; with_reducible exact after_of (c8 _))
    | (go_at_call 20; with_reducible exact after_of (c7 _))
    | (go_at_call 20; with_reducible exact after_of (c9 _)))))
  refine wpQuiet_nil ?_
  intro _ hw'
  obtain ⟨p1, hw''⟩ := hw'
  subst hw''
  go_wp2_with fail
  go_ret
  exact ⟨rfl, below_call hbW.out p1.b⟩
end Go.Proofs.Ytmfklggjcggoeaa
