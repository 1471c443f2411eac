import Derived.Test.YtidlnecgfgnllaaDoorMLen
import Derived.Test.YtidlnecgfgnllaaDoorMOwr
import Derived.Test.YtidlnecgfgnllaaDoorMFgr
import Derived.RegionTactic
import Derived.BigRegion
import Derived.Deep.DeepFit
import Derived.Deep.DeepCutAuto
import Derived.Maps.AppendAt
import Derived.Lib.SliceRun
import Derived.Deep.QuietTactic
import Derived.BigQuiet
set_option linter.unusedVariables false
set_option linter.unusedSimpArgs false
section
/-
  The contracts of slices.Sort and slices.Compact at rows of at most two ints that the call owns. Conditions: those of the types.
-/
namespace Go.Proofs.YtidlnecgfgnllaaDoor
open Go.RowKit

theorem grown_of {w w' : World} {row : Option Nat} (h : Below w.heap.size w w') : w.grownBy w' row := ⟨h.os, h.tape, h.output, h.size, fun k hk _ => h.block k hk⟩
theorem isnan_any (x : Int) (w : World) : Calls Tryd.prog 103 #[.int .i64 x] w fun e w' => e = .returned (.bool false) ∧ w = w' := by
  go_enter Tryd.func103, Tryd.ntmps103
  go_wp2_with fail
  go_ret
  exact ⟨ret_bool (by simp), rfl⟩
theorem cless_any (x y : Int) (w : World) : Calls Tryd.prog 93 #[.int .i64 x, .int .i64 y] w fun e w' => e = .returned (.bool (decide (x < y))) ∧ w = w' := by
  have c1 := fun z W => isnan_any z W
  go_enter Tryd.func93, Tryd.ntmps93
  go_wp2_with (first | (go_at_call 103; refine (c1 _ _).mono ?_; rintro e w' ⟨rfl, rfl⟩))
  all_goals
    go_ret
    exact ⟨ret_bool (by simp), rfl⟩
set_option maxRecDepth 100000 in
theorem blen_any (x : Int) (w : World) (h0 : 0 ≤ x) (hx : x ≤ 18446744073709551615) : Calls Tryd.prog 84 #[.int .u64 x] w fun e w' => (∃ L : Int, e = .returned (.int .i64 L)) ∧ w = w' := by
  have c1 := fun W => len64_any x W h0 hx
  go_enter Tryd.func84, Tryd.ntmps84
  go_wp2_with (first | (go_at_call 97; refine (c1 _).mono ?_; rintro e w' ⟨L, rfl, -, -, rfl⟩))
  go_ret
  exact ⟨⟨_, rfl⟩, rfl⟩
/-- The insertion sort of none or one. -/
theorem ins_few (v : Value) (n : Nat) (hn : n ≤ 1) (w : World) : Calls Tryd.prog 87 #[v, .int .i64 0, .int .i64 (n : Int)] w fun e w' => e = .returned (.tuple #[]) ∧ w = w' := by
  go_enter Tryd.func87, Tryd.ntmps87
  go_wp2_with fail
  refine wp_loop_rounds 1 ?_
  rw [rounds_succ]
  go_wp2_with fail
  go_end0
  exact ⟨rfl, rfl⟩
theorem own_two_cells {w : World} {base g c : Nat} {x y : Int} (h : w.ownsRow base 3 1 (.slice (some ⟨g, 0, none⟩) 2 c) 2 [.int .i64 x, .int .i64 y]) :
    w.cell? ⟨g, 0, none⟩ = some (.int .i64 x) ∧ w.cell? ⟨g, 1, none⟩ = some (.int .i64 y) ∧ w.frozen? ⟨g, 0, none⟩ = false ∧ w.frozen? ⟨g, 1, none⟩ = false := by
  refine ⟨?_, ?_, h.frozenAt 0, h.frozenAt 1⟩
  · rw [h.cellAt 0 (by omega)]; rfl
  · rw [h.cellAt 1 (by omega)]; rfl
set_option maxHeartbeats 1000000 in
/-- .. of two that stand right. -/
theorem ins_keep (base g c : Nat) (x y : Int) (w : World) (hxy : x ≤ y) (h : Hid (w.ownsRow base 3 1 (.slice (some ⟨g, 0, none⟩) 2 c) 2 [.int .i64 x, .int .i64 y])) :
    Calls Tryd.prog 87 #[.slice (some ⟨g, 0, none⟩) 2 c, .int .i64 0, .int .i64 2] w fun e w' => e = .returned (.tuple #[]) ∧ Below w.heap.size w w' := by
  obtain ⟨c0, c1, f0, f1⟩ := own_two_cells h.out
  have cl := fun W => cless_any y x W
  rw [show decide (y < x) = false from decide_eq_false (by omega)] at cl
  have d0 : ∀ p : After w, p.w.cell? ⟨g, 0, none⟩ = some (.int .i64 x) := fun p => after_cell c0 p
  have d1 : ∀ p : After w, p.w.cell? ⟨g, 1, none⟩ = some (.int .i64 y) := fun p => after_cell c1 p
  clear c0 c1 f0 f1
  go_enter Tryd.func87, Tryd.ntmps87
  go_wp2_with fail
  refine wp_loop_rounds 2 ?_
  rw [rounds_succ]
  go_wp2_with fail
  refine wp_loop_rounds 1 ?_
  rw [rounds_succ]
  go_wp2_with fail
  refine wp_region_after (by kernel_rfl) (by kernel_rfl) ?_
  repeat (go_big_quiet_step ((go_at_call 93; with_reducible exact after_same (cl _))))
  refine wpQuiet_nil ?_
  intro _ hw'
  obtain ⟨p1, hw''⟩ := hw'
  subst hw''
  have HB1 := hide p1.b
  clear d0 d1 cl
  go_wp2_with fail
  rw [rounds_succ]
  go_wp2_with fail
  go_end0
  exact ⟨rfl, HB1.out⟩
/-- Two cells are changed. -/
theorem own_swapped {w : World} {base g c : Nat} {x y : Int} (h : w.ownsRow base 3 1 (.slice (some ⟨g, 0, none⟩) 2 c) 2 [.int .i64 x, .int .i64 y]) :
    (((w.setCell ⟨g, 1, none⟩ (.int .i64 x)).setCell ⟨g, 0, none⟩ (.int .i64 y)).ownsRow base 3 1 (.slice (some ⟨g, 0, none⟩) 2 c) 2 [.int .i64 y, .int .i64 x] ∧ w.grownBy ((w.setCell ⟨g, 1, none⟩ (.int .i64 x)).setCell ⟨g, 0, none⟩ (.int .i64 y)) (some g)) ∧
    (((w.setCell ⟨g, 0, none⟩ (.int .i64 y)).setCell ⟨g, 1, none⟩ (.int .i64 x)).ownsRow base 3 1 (.slice (some ⟨g, 0, none⟩) 2 c) 2 [.int .i64 y, .int .i64 x] ∧ w.grownBy ((w.setCell ⟨g, 0, none⟩ (.int .i64 y)).setCell ⟨g, 1, none⟩ (.int .i64 x)) (some g)) := by
  obtain ⟨a1, g1⟩ := h.stored 1 (.int .i64 x)
  obtain ⟨a2, g2⟩ := a1.stored 0 (.int .i64 y)
  obtain ⟨b1, k1⟩ := h.stored 0 (.int .i64 y)
  obtain ⟨b2, k2⟩ := b1.stored 1 (.int .i64 x)
  exact ⟨⟨a2, g1.trans g2⟩, ⟨b2, k1.trans k2⟩⟩
set_option maxHeartbeats 2000000 in
/-- .. of two that stand wrong. -/
theorem ins_swap (base g c : Nat) (x y : Int) (w : World) (hxy : y < x) (hb : base ≤ g) (h : Hid (w.ownsRow base 3 1 (.slice (some ⟨g, 0, none⟩) 2 c) 2 [.int .i64 x, .int .i64 y])) :
    Calls Tryd.prog 87 #[.slice (some ⟨g, 0, none⟩) 2 c, .int .i64 0, .int .i64 2] w fun e w' => e = .returned (.tuple #[]) ∧ w'.ownsRow base 3 1 (.slice (some ⟨g, 0, none⟩) 2 c) 2 [.int .i64 y, .int .i64 x] ∧ w.grownBy w' (some g) := by
  obtain ⟨c0, c1, f0, f1⟩ := own_two_cells h.out
  have cl := fun W => cless_any y x W
  rw [show decide (y < x) = true from decide_eq_true (by omega)] at cl
  have d0 : ∀ p : After w, p.w.cell? ⟨g, 0, none⟩ = some (.int .i64 x) := fun p => after_cell c0 p
  have d1 : ∀ p : After w, p.w.cell? ⟨g, 1, none⟩ = some (.int .i64 y) := fun p => after_cell c1 p
  clear c0 c1 f0 f1
  go_enter Tryd.func87, Tryd.ntmps87
  go_wp2_with fail
  refine wp_loop_rounds 2 ?_
  rw [rounds_succ]
  go_wp2_with fail
  refine wp_loop_rounds 2 ?_
  rw [rounds_succ]
  go_wp2_with fail
  refine wp_region_after (by kernel_rfl) (by kernel_rfl) ?_
  repeat (go_big_quiet_step ((go_at_call 93; with_reducible exact after_same (cl _))))
  refine wpQuiet_nil ?_
  intro _ hw'
  obtain ⟨p1, hw''⟩ := hw'
  subst hw''
  have HB1 := hide p1.b
  have H1 := hide (own_below h.out p1.b)
  obtain ⟨c0, c1, f0, f1⟩ := own_two_cells H1.out
  clear d0 d1 cl
  go_upto_region 6 with (fail)
  go_region
  obtain ⟨W2, hW2⟩ : ∃ W, ((p1.w.setCell ⟨g, 1, none⟩ (.int .i64 x)).setCell ⟨g, 0, none⟩ (.int .i64 y)).drew = W := ⟨_, rfl⟩
  have H2 := hide (show W2.ownsRow base 3 1 (.slice (some ⟨g, 0, none⟩) 2 c) 2 [.int .i64 y, .int .i64 x] ∧ w.grownBy W2 (some g) by
    rw [← hW2]
    have q := (own_swapped H1.out).1
    exact ⟨q.1.drew, (grown_of HB1.out).trans (q.2.trans ⟨rfl, rfl, rfl, Nat.le_refl _, fun _ _ _ => rfl⟩)⟩)
  rw [hW2]
  clear hW2 c0 c1 f0 f1 HB1 H1 h
  go_wp2_with fail
  rw [rounds_succ]
  go_wp2_with fail
  refine wp_region_after (by kernel_rfl) (by kernel_rfl) ?_
  repeat (go_big_quiet_step (fail))
  refine wpQuiet_nil ?_
  intro _ hw'
  obtain ⟨p2, hw''⟩ := hw'
  subst hw''
  have H3 := hide (show p2.w.ownsRow base 3 1 (.slice (some ⟨g, 0, none⟩) 2 c) 2 [.int .i64 y, .int .i64 x] ∧ w.grownBy p2.w (some g) from ⟨own_below H2.out.1 p2.b, H2.out.2.trans (grown_of p2.b)⟩)
  clear H2
  go_wp2_with fail
  rw [rounds_succ]
  go_wp2_with fail
  go_end0
  exact ⟨rfl, H3.out⟩
/-- The library's sort of at most twelve. -/
theorem pdq_few {v : Value} {n : Nat} {L : Int} {w : World} {Q : Ending → World → Prop} (hn : n ≤ 12) (h : Calls Tryd.prog 87 #[v, .int .i64 0, .int .i64 (n : Int)] w fun e w' => e = .returned (.tuple #[]) ∧ Q e w') :
    Calls Tryd.prog 83 #[v, .int .i64 0, .int .i64 (n : Int), .int .i64 L] w fun e w' => e = .returned (.tuple #[]) ∧ Q e w' := by
  go_enter Tryd.func83, Tryd.ntmps83
  go_wp2_with fail
  refine wp_loop_rounds 1 ?_
  rw [rounds_succ]
  go_wp2_with fail
  refine h.mono ?_
  rintro e w' ⟨rfl, hq⟩
  have HQ := hide hq
  clear hq h
  go_wp2_with fail
  refine bodyPost_ret (results_none rfl _ _ _) rfl ?_
  exact ⟨rfl, HQ.out⟩
/-- slices.Sort of at most twelve. -/
theorem sort_few {A : Option Addr} {n c : Nat} {w : World} {Q : Ending → World → Prop} (hn : n ≤ 12) (h : Calls Tryd.prog 87 #[.slice A n c, .int .i64 0, .int .i64 (n : Int)] w fun e w' => e = .returned (.tuple #[]) ∧ Q e w') :
    Calls Tryd.prog 70 #[.slice A n c] w fun e w' => e = .returned (.tuple #[]) ∧ Q e w' := by
  have c1 := fun W => blen_any (n : Int) W (by omega) (by omega)
  have hw : IntKind.u64.wrap (n : Int) = (n : Int) := by rw [IntKind.wrap_u64]; omega
  have c2 := fun L => pdq_few (v := .slice A n c) (L := L) (w := w) hn h
  go_enter Tryd.func70, Tryd.ntmps70
  go_wp2_with fail
  refine (c1 _).mono ?_
  rintro e w' ⟨⟨L, rfl⟩, rfl⟩
  go_wp2_with fail
  refine (c2 _).mono ?_
  rintro e w' ⟨rfl, hq⟩
  have HQ := hide hq
  clear hq c1 c2 h
  go_wp2_with fail
  go_end0
  exact ⟨rfl, HQ.out⟩
/-- What slices.Sort makes of a row of at most two. -/
theorem sort_none {c : Nat} (w : World) : Calls Tryd.prog 70 #[.slice none 0 c] w fun e w' => e = .returned (.tuple #[]) ∧ w = w' := sort_few (by omega) (ins_few _ 0 (by omega) w)
theorem sort_one {A : Option Addr} {c : Nat} (w : World) : Calls Tryd.prog 70 #[.slice A 1 c] w fun e w' => e = .returned (.tuple #[]) ∧ w = w' := sort_few (by omega) (ins_few _ 1 (by omega) w)
theorem sort_keep (base g c : Nat) (x y : Int) (w : World) (hxy : x ≤ y) (h : Hid (w.ownsRow base 3 1 (.slice (some ⟨g, 0, none⟩) 2 c) 2 [.int .i64 x, .int .i64 y])) :
    Calls Tryd.prog 70 #[.slice (some ⟨g, 0, none⟩) 2 c] w fun e w' => e = .returned (.tuple #[]) ∧ Below w.heap.size w w' := sort_few (by omega) (ins_keep base g c x y w hxy h)
theorem sort_swap (base g c : Nat) (x y : Int) (w : World) (hxy : y < x) (hb : base ≤ g) (h : Hid (w.ownsRow base 3 1 (.slice (some ⟨g, 0, none⟩) 2 c) 2 [.int .i64 x, .int .i64 y])) :
    Calls Tryd.prog 70 #[.slice (some ⟨g, 0, none⟩) 2 c] w fun e w' => e = .returned (.tuple #[]) ∧ w'.ownsRow base 3 1 (.slice (some ⟨g, 0, none⟩) 2 c) 2 [.int .i64 y, .int .i64 x] ∧ w.grownBy w' (some g) := sort_few (by omega) (ins_swap base g c x y w hxy hb h)
/-- slices.Compact of less than two. -/
theorem compact_few {A : Option Addr} {n c : Nat} (w : World) (hn : n < 2) : Calls Tryd.prog 71 #[.slice A n c] w fun e w' => e = .returned (.slice A n c) ∧ w = w' := by
  go_enter Tryd.func71, Tryd.ntmps71
  go_wp2_with fail
  go_ret
  exact ⟨rfl, rfl⟩
/-- A row with one element less. -/
theorem own_shrink1 {w : World} {base e k c : Nat} {A : Option Addr} {xs : List Value} (h : w.ownsRow base e 1 (.slice A (k + 1) c) (k + 1) xs) : w.ownsRow base e 1 (.slice A k c) k (xs.take k) := by
  have hl := h.1
  rcases h.2 with ⟨e1, h0⟩ | ⟨G, cap, cur, hv, hb, hh, hn, hm, hs, ht⟩
  · omega
  · injection hv with h1 h2 h3
    subst h1 h3
    refine ⟨by rw [List.length_take, hl]; omega, .inr ⟨G, c, cur, rfl, hb, hh, by omega, hm, hs, ?_⟩⟩
    rw [← ht, List.take_take]
    congr 1
    omega
set_option maxHeartbeats 1000000 in
/-- .. of two that differ. -/
theorem compact_two (base g c : Nat) (x y : Int) (w : World) (hxy : x ≠ y) (h : Hid (w.ownsRow base 3 1 (.slice (some ⟨g, 0, none⟩) 2 c) 2 [.int .i64 x, .int .i64 y])) :
    Calls Tryd.prog 71 #[.slice (some ⟨g, 0, none⟩) 2 c] w fun e w' => e = .returned (.slice (some ⟨g, 0, none⟩) 2 c) ∧ Below w.heap.size w w' := by
  obtain ⟨c0, c1, f0, f1⟩ := own_two_cells h.out
  have hne : (y == x) = false := by rw [beq_eq_false_iff_ne]; exact fun e => hxy e.symm
  go_enter Tryd.func71, Tryd.ntmps71
  go_wp2_with fail
  refine wp_loop_rounds 2 ?_
  rw [rounds_succ]
  go_wp2_with fail
  go_quiet (fail)
  go_wp2_with fail
  rw [rounds_succ]
  go_wp2_with fail
  go_ret
  exact ⟨rfl, below_draws (Below.refl _ _) _⟩
set_option maxRecDepth 100000 in
set_option maxHeartbeats 1000000 in
/-- .. of two that are one: one is left. -/
theorem compact_same (base g c : Nat) (x : Int) (w : World) (hc : 2 ≤ c) (hb : base ≤ g) (h : Hid (w.ownsRow base 3 1 (.slice (some ⟨g, 0, none⟩) 2 c) 2 [.int .i64 x, .int .i64 x])) :
    Calls Tryd.prog 71 #[.slice (some ⟨g, 0, none⟩) 2 c] w fun e w' => e = .returned (.slice (some ⟨g, 0, none⟩) 1 c) ∧ w'.ownsRow base 3 1 (.slice (some ⟨g, 0, none⟩) 1 c) 1 [.int .i64 x] ∧ w.grownBy w' (some g) := by
  obtain ⟨c0, c1, f0, f1⟩ := own_two_cells h.out
  have h1 : ∀ j, j < 1 → (w.cell? ⟨g, 1 + j, none⟩).isSome = true := fun j hj => by
    obtain rfl : j = 0 := by omega
    rw [show 1 + 0 = 1 from rfl, c1]; rfl
  have h2 : ∀ j, j < 1 → w.frozen? ⟨g, 1 + j, none⟩ = false := fun j hj => by
    obtain rfl : j = 0 := by omega
    exact f1
  have hcl := fun (q : Nat) (ty : TypeId) (k : Nat) => Lib.run_clear_slice (P := Tryd.prog) (w.drewN q) 42 3 ty (.int .i64 0) Tryd.underlying42 (fun w => by kernel_rfl) rfl rfl g 1 1 k (by omega) h1 h2
  clear h1 h2
  have FIN := hide (fun q : Nat => show ((w.drewN q).setCells g 1 (List.replicate 1 (.int .i64 0))).ownsRow base 3 1 (.slice (some ⟨g, 0, none⟩) 1 c) 1 [.int .i64 x] ∧ w.grownBy ((w.drewN q).setCells g 1 (List.replicate 1 (.int .i64 0))) (some g) from by
    obtain ⟨a1, g1⟩ := (own_draws h.out q).stored 1 (.int .i64 0)
    have a2 := own_shrink1 a1
    exact ⟨a2, (show w.grownBy (w.drewN q) (some g) from ⟨rfl, rfl, rfl, Nat.le_refl _, fun _ _ _ => rfl⟩).trans g1⟩)
  go_enter Tryd.func71, Tryd.ntmps71
  go_wp2_with fail
  refine wp_loop_rounds 1 ?_
  rw [rounds_succ]
  go_wp2_with fail
  go_quiet (fail)
  go_wp2_with fail
  refine wp_loop_rounds 1 ?_
  rw [rounds_succ]
  go_wp2_with (simp only [hcl])
  go_ret
  exact ⟨rfl, FIN.out _⟩
end Go.Proofs.YtidlnecgfgnllaaDoor
end
