/-
  The walk of the law MachLimits: for all inputs it returns true, and what was in memory before the call is as it was. Conditions: those of the types.
-/
import Derived.Test.YtjgoldlebmfiiaaMch
import Derived.Test.YtjgoldlebmfiiaaMawk
namespace Go.Proofs.Ytjgoldlebmfiiaa
open Go.RowKit

/-- The world with a target of one frame of one instruction. -/
abbrev limW (W1 : World) (Al S : Int) : World := ((W1.alloc (.cells #[.int .i64 23, .int .i64 0, .int .i64 0, .int .i64 0, .int .u64 0] 27)).alloc (.cells #[.int .i64 0, .int .i64 S, .slice (some ⟨W1.heap.size, 0, none⟩) 1 1] 24)).alloc (.cells #[.int .i64 Al, .slice (some ⟨W1.heap.size + 1, 0, none⟩) 1 1] 39)
theorem lim_tg (W1 : World) (Al S : Int) : TgAt (limW W1 Al S) 0 (limW W1 Al S).heap.size (some ⟨W1.heap.size + 1, 0, none⟩) 1 1 [⟨0, S, some ⟨W1.heap.size, 0, none⟩, 1, 1⟩] [⟨0, S, [⟨23, 0, 0, 0, 0⟩]⟩] := by
  have r0 : Row (limW W1 Al S) W1.heap.size 27 [.int .i64 23, .int .i64 0, .int .i64 0, .int .i64 0, .int .u64 0] := ((Row.new W1 _ _).alloc _).alloc _
  have r1 : Row (limW W1 Al S) (W1.heap.size + 1) 24 [.int .i64 0, .int .i64 S, .slice (some ⟨W1.heap.size, 0, none⟩) 1 1] := Row.alloc (heap_at _ _ (by simp)) _
  have l0 := r0.lt
  have l1 := r1.lt
  refine ⟨rfl, ⟨(fun h => by cases h), Nat.le_refl _, (show (1 : Nat) ≤ 8796093022208 by omega)⟩, Far.zero _, fun k u hu => ⟨_, 0, rfl, l1, ?_⟩, rfl, fun k h f e1 e2 => ?_⟩
  · rw [Nat.zero_add]; exact r1.cell hu
  · cases k with
    | zero =>
      simp at e1 e2
      subst e1 e2
      exact ⟨rfl, rfl, rfl, ⟨(fun h => by cases h), Nat.le_refl _, (show (1 : Nat) ≤ 8796093022208 by omega)⟩, Far.zero _, fun k u hu => ⟨_, 0, rfl, l0, by rw [Nat.zero_add]; exact r0.cell hu⟩⟩
    | succ k => simp at e1
theorem lim_call (W1 : World) (Al S E : Int) (h : tgE Al [⟨0, S, [⟨23, 0, 0, 0, 0⟩]⟩] = E) : Calls Try.prog 15 #[tv Al (some ⟨W1.heap.size + 1, 0, none⟩) 1 1] (limW W1 Al S) fun e w' => e = .returned (.int .i64 E) ∧ Below (limW W1 Al S).heap.size (limW W1 Al S) w' := by
  have c := chktg_any Al _ 1 1 _ _ 0 _ (limW W1 Al S) (hide (lim_tg W1 Al S)) (Nat.le_refl _)
  rwa [h] at c
theorem tmod2 (x : Int) : x.tmod 2 = -1 ∨ x.tmod 2 = 0 ∨ x.tmod 2 = 1 := by
  have h1 := Int.tmod_lt_of_pos x (show (0 : Int) < 2 by decide)
  have h2 := Int.lt_tmod_of_pos x (show (0 : Int) < 2 by decide)
  omega
set_option maxHeartbeats 2000000 in
theorem mlim_m1_0 (x u : Int) (w : World) (hx : -128 ≤ x ∧ x ≤ 127) (hu : 0 ≤ u ∧ u ≤ 255) (hn : x.tmod 2 = -1) (hr : u % 3 = 0) :
    Calls Try.prog 6 #[.int .i8 x, .int .u8 u] w fun e w' => e = .returned (.bool true) ∧ Below w.heap.size w w' := by
  have ca := awake10_any w
  obtain ⟨x0, x1⟩ := hx
  obtain ⟨u0, u1⟩ := hu
  have lc := fun W1 => lim_call W1 16 2147483488 0 (by decide +kernel)
  go_enter Try.func6, Try.ntmps6
  go_upto_region 4 with (go_at_call 7; refine ca.mono ?_; rintro e W1 ⟨rfl, hb1⟩)
  try rw [hn]
  go_upto_region 7 with (fail)
  try rw [hr]
  go_wp2_with fail
  refine (lc _).mono ?_
  rintro e W2 ⟨rfl, hb2⟩
  go_wp2_with fail
  go_ret
  exact ⟨rfl, hb1.trans (((below3 W1 _ _ _).trans (hb2.mono (by simp; omega))).mono hb1.size)⟩
set_option maxHeartbeats 2000000 in
theorem mlim_0_0 (x u : Int) (w : World) (hx : -128 ≤ x ∧ x ≤ 127) (hu : 0 ≤ u ∧ u ≤ 255) (hn : x.tmod 2 = 0) (hr : u % 3 = 0) :
    Calls Try.prog 6 #[.int .i8 x, .int .u8 u] w fun e w' => e = .returned (.bool true) ∧ Below w.heap.size w w' := by
  have ca := awake10_any w
  obtain ⟨x0, x1⟩ := hx
  obtain ⟨u0, u1⟩ := hu
  have lc := fun W1 => lim_call W1 16 2147483504 0 (by decide +kernel)
  go_enter Try.func6, Try.ntmps6
  go_upto_region 4 with (go_at_call 7; refine ca.mono ?_; rintro e W1 ⟨rfl, hb1⟩)
  try rw [hn]
  go_upto_region 7 with (fail)
  try rw [hr]
  go_wp2_with fail
  refine (lc _).mono ?_
  rintro e W2 ⟨rfl, hb2⟩
  go_wp2_with fail
  go_ret
  exact ⟨rfl, hb1.trans (((below3 W1 _ _ _).trans (hb2.mono (by simp; omega))).mono hb1.size)⟩
set_option maxHeartbeats 2000000 in
theorem mlim_1_0 (x u : Int) (w : World) (hx : -128 ≤ x ∧ x ≤ 127) (hu : 0 ≤ u ∧ u ≤ 255) (hn : x.tmod 2 = 1) (hr : u % 3 = 0) :
    Calls Try.prog 6 #[.int .i8 x, .int .u8 u] w fun e w' => e = .returned (.bool true) ∧ Below w.heap.size w w' := by
  have ca := awake10_any w
  obtain ⟨x0, x1⟩ := hx
  obtain ⟨u0, u1⟩ := hu
  have lc := fun W1 => lim_call W1 16 2147483520 4 (by decide +kernel)
  go_enter Try.func6, Try.ntmps6
  go_upto_region 4 with (go_at_call 7; refine ca.mono ?_; rintro e W1 ⟨rfl, hb1⟩)
  try rw [hn]
  go_upto_region 7 with (fail)
  try rw [hr]
  go_wp2_with fail
  refine (lc _).mono ?_
  rintro e W2 ⟨rfl, hb2⟩
  go_wp2_with fail
  go_ret
  exact ⟨rfl, hb1.trans (((below3 W1 _ _ _).trans (hb2.mono (by simp; omega))).mono hb1.size)⟩
set_option maxHeartbeats 2000000 in
theorem mlim_m1_1 (x u : Int) (w : World) (hx : -128 ≤ x ∧ x ≤ 127) (hu : 0 ≤ u ∧ u ≤ 255) (hn : x.tmod 2 = -1) (hr : u % 3 = 1) :
    Calls Try.prog 6 #[.int .i8 x, .int .u8 u] w fun e w' => e = .returned (.bool true) ∧ Below w.heap.size w w' := by
  have ca := awake10_any w
  obtain ⟨x0, x1⟩ := hx
  obtain ⟨u0, u1⟩ := hu
  have lc := fun W1 => lim_call W1 16777216 0 0 (by decide +kernel)
  go_enter Try.func6, Try.ntmps6
  go_upto_region 4 with (go_at_call 7; refine ca.mono ?_; rintro e W1 ⟨rfl, hb1⟩)
  try rw [hn]
  go_upto_region 7 with (fail)
  try rw [hr]
  go_wp2_with fail
  refine (lc _).mono ?_
  rintro e W2 ⟨rfl, hb2⟩
  go_wp2_with fail
  go_ret
  exact ⟨rfl, hb1.trans (((below3 W1 _ _ _).trans (hb2.mono (by simp; omega))).mono hb1.size)⟩
set_option maxHeartbeats 2000000 in
theorem mlim_0_1 (x u : Int) (w : World) (hx : -128 ≤ x ∧ x ≤ 127) (hu : 0 ≤ u ∧ u ≤ 255) (hn : x.tmod 2 = 0) (hr : u % 3 = 1) :
    Calls Try.prog 6 #[.int .i8 x, .int .u8 u] w fun e w' => e = .returned (.bool true) ∧ Below w.heap.size w w' := by
  have ca := awake10_any w
  obtain ⟨x0, x1⟩ := hx
  obtain ⟨u0, u1⟩ := hu
  have lc := fun W1 => lim_call W1 16777216 0 0 (by decide +kernel)
  go_enter Try.func6, Try.ntmps6
  go_upto_region 4 with (go_at_call 7; refine ca.mono ?_; rintro e W1 ⟨rfl, hb1⟩)
  try rw [hn]
  go_upto_region 7 with (fail)
  try rw [hr]
  go_wp2_with fail
  refine (lc _).mono ?_
  rintro e W2 ⟨rfl, hb2⟩
  go_wp2_with fail
  go_ret
  exact ⟨rfl, hb1.trans (((below3 W1 _ _ _).trans (hb2.mono (by simp; omega))).mono hb1.size)⟩
set_option maxHeartbeats 2000000 in
theorem mlim_1_1 (x u : Int) (w : World) (hx : -128 ≤ x ∧ x ≤ 127) (hu : 0 ≤ u ∧ u ≤ 255) (hn : x.tmod 2 = 1) (hr : u % 3 = 1) :
    Calls Try.prog 6 #[.int .i8 x, .int .u8 u] w fun e w' => e = .returned (.bool true) ∧ Below w.heap.size w w' := by
  have ca := awake10_any w
  obtain ⟨x0, x1⟩ := hx
  obtain ⟨u0, u1⟩ := hu
  have lc := fun W1 => lim_call W1 33554432 0 5 (by decide +kernel)
  go_enter Try.func6, Try.ntmps6
  go_upto_region 4 with (go_at_call 7; refine ca.mono ?_; rintro e W1 ⟨rfl, hb1⟩)
  try rw [hn]
  go_upto_region 7 with (fail)
  try rw [hr]
  go_wp2_with fail
  refine (lc _).mono ?_
  rintro e W2 ⟨rfl, hb2⟩
  go_wp2_with fail
  go_ret
  exact ⟨rfl, hb1.trans (((below3 W1 _ _ _).trans (hb2.mono (by simp; omega))).mono hb1.size)⟩
set_option maxHeartbeats 2000000 in
theorem mlim_m1_2 (x u : Int) (w : World) (hx : -128 ≤ x ∧ x ≤ 127) (hu : 0 ≤ u ∧ u ≤ 255) (hn : x.tmod 2 = -1) (hr : u % 3 = 2) :
    Calls Try.prog 6 #[.int .i8 x, .int .u8 u] w fun e w' => e = .returned (.bool true) ∧ Below w.heap.size w w' := by
  have ca := awake10_any w
  obtain ⟨x0, x1⟩ := hx
  obtain ⟨u0, u1⟩ := hu
  have lc := fun W1 => lim_call W1 16 0 0 (by decide +kernel)
  go_enter Try.func6, Try.ntmps6
  go_upto_region 4 with (go_at_call 7; refine ca.mono ?_; rintro e W1 ⟨rfl, hb1⟩)
  try rw [hn]
  go_upto_region 7 with (fail)
  try rw [hr]
  go_wp2_with fail
  refine (lc _).mono ?_
  rintro e W2 ⟨rfl, hb2⟩
  go_wp2_with fail
  go_ret
  exact ⟨rfl, hb1.trans (((below3 W1 _ _ _).trans (hb2.mono (by simp; omega))).mono hb1.size)⟩
set_option maxHeartbeats 2000000 in
theorem mlim_0_2 (x u : Int) (w : World) (hx : -128 ≤ x ∧ x ≤ 127) (hu : 0 ≤ u ∧ u ≤ 255) (hn : x.tmod 2 = 0) (hr : u % 3 = 2) :
    Calls Try.prog 6 #[.int .i8 x, .int .u8 u] w fun e w' => e = .returned (.bool true) ∧ Below w.heap.size w w' := by
  have ca := awake10_any w
  obtain ⟨x0, x1⟩ := hx
  obtain ⟨u0, u1⟩ := hu
  have lc := fun W1 => lim_call W1 16 0 0 (by decide +kernel)
  go_enter Try.func6, Try.ntmps6
  go_upto_region 4 with (go_at_call 7; refine ca.mono ?_; rintro e W1 ⟨rfl, hb1⟩)
  try rw [hn]
  go_upto_region 7 with (fail)
  try rw [hr]
  go_wp2_with fail
  refine (lc _).mono ?_
  rintro e W2 ⟨rfl, hb2⟩
  go_wp2_with fail
  go_ret
  exact ⟨rfl, hb1.trans (((below3 W1 _ _ _).trans (hb2.mono (by simp; omega))).mono hb1.size)⟩
set_option maxHeartbeats 2000000 in
theorem mlim_1_2 (x u : Int) (w : World) (hx : -128 ≤ x ∧ x ≤ 127) (hu : 0 ≤ u ∧ u ≤ 255) (hn : x.tmod 2 = 1) (hr : u % 3 = 2) :
    Calls Try.prog 6 #[.int .i8 x, .int .u8 u] w fun e w' => e = .returned (.bool true) ∧ Below w.heap.size w w' := by
  have ca := awake10_any w
  obtain ⟨x0, x1⟩ := hx
  obtain ⟨u0, u1⟩ := hu
  have lc := fun W1 => lim_call W1 8 0 5 (by decide +kernel)
  go_enter Try.func6, Try.ntmps6
  go_upto_region 4 with (go_at_call 7; refine ca.mono ?_; rintro e W1 ⟨rfl, hb1⟩)
  try rw [hn]
  go_upto_region 7 with (fail)
  try rw [hr]
  go_wp2_with fail
  refine (lc _).mono ?_
  rintro e W2 ⟨rfl, hb2⟩
  go_wp2_with fail
  go_ret
  exact ⟨rfl, hb1.trans (((below3 W1 _ _ _).trans (hb2.mono (by simp; omega))).mono hb1.size)⟩
theorem mlimlaw_walk (x u : Int) (w : World) (hx : -128 ≤ x ∧ x ≤ 127) (hu : 0 ≤ u ∧ u ≤ 255) :
    Calls Try.prog 6 #[.int .i8 x, .int .u8 u] w fun e w' => e = .returned (.bool true) ∧ Below w.heap.size w w' := by
  have hr : u % 3 = 0 ∨ u % 3 = 1 ∨ u % 3 = 2 := by omega
  rcases tmod2 x with hn | hn | hn <;> rcases hr with hr | hr | hr
  · exact mlim_m1_0 x u w hx hu hn hr
  · exact mlim_m1_1 x u w hx hu hn hr
  · exact mlim_m1_2 x u w hx hu hn hr
  · exact mlim_0_0 x u w hx hu hn hr
  · exact mlim_0_1 x u w hx hu hn hr
  · exact mlim_0_2 x u w hx hu hn hr
  · exact mlim_1_0 x u w hx hu hn hr
  · exact mlim_1_1 x u w hx hu hn hr
  · exact mlim_1_2 x u w hx hu hn hr
end Go.Proofs.Ytjgoldlebmfiiaa
