import Derived.Test.YtidlnecgfgnllaaDoorMDraw
import Derived.Test.YtidlnecgfgnllaaDoorMFbg
import Derived.Test.YtidlnecgfgnllaaDoorMFgr
set_option linter.unusedVariables false
set_option linter.unusedSimpArgs false
section
/-
  The contract of spillframedraw's Slot: a right slot. Condition: the receiver is a list of choices.
-/
namespace Go.Proofs.YtidlnecgfgnllaaDoor
open Go.RowKit

/-- x is a slice of n cells, which stand behind h. -/
def TabAt (w : World) (h n : Nat) (x : Value) (cs : List Value) : Prop := ∃ b, h < b ∧ x = .slice (some ⟨b, 0, none⟩) n n ∧ Row w b 3 cs
/-- x points to a cell behind h that holds s. -/
def Points (w : World) (h : Nat) (x : Value) (s : Int) : Prop := ∃ b k, h < b ∧ b < w.heap.size ∧ x = .pointer (some ⟨b, k, none⟩) ∧ w.cell? ⟨b, k, none⟩ = some (.int .i64 s)
/-- x is a number below n. -/
def Small (n : Int) (x : Value) : Prop := ∃ v, 0 ≤ v ∧ v < n ∧ x = .int .i64 v

theorem tab1_at (v : Int) (h0 : 0 ≤ v) (h1 : v < 7) : ∃ s : Int, szB s = true ∧ ([.int .i64 8, .int .i64 4, .int .i64 8, .int .i64 1, .int .i64 2, .int .i64 16, .int .i64 8] : List Value)[v.toNat]? = some (.int .i64 s) := by
  rcases (show v = 0 ∨ v = 1 ∨ v = 2 ∨ v = 3 ∨ v = 4 ∨ v = 5 ∨ v = 6 by omega) with rfl | rfl | rfl | rfl | rfl | rfl | rfl <;> exact ⟨_, by decide, rfl⟩
theorem tab2_at (v : Int) (h0 : 0 ≤ v) (h1 : v < 8) : ∃ s : Int, powB s = true ∧ ([.int .i64 8, .int .i64 4, .int .i64 1, .int .i64 8, .int .i64 16, .int .i64 2, .int .i64 32, .int .i64 64] : List Value)[v.toNat]? = some (.int .i64 s) := by
  rcases (show v = 0 ∨ v = 1 ∨ v = 2 ∨ v = 3 ∨ v = 4 ∨ v = 5 ∨ v = 6 ∨ v = 7 by omega) with rfl | rfl | rfl | rfl | rfl | rfl | rfl | rfl <;> exact ⟨_, by decide, rfl⟩

/-- What each operation keeps: which of them have come up, and what they have left. -/
def SlotI (g h : Nat) (w0 : World) (l : Array Bool) (a : Act) (w : World) : Prop :=
  ∃ (b0 b1 b2 b3 b4 b5 b6 b7 b8 b9 b10 b11 : Bool) (x3 x4 x5 x6 x7 x8 x9 x10 x11 x12 x13 : Value) (y0 y1 : Int), l = #[b0, b1, b2, b3, b4, b5, b6, b7, b8, b9, b10, b11] ∧ a = ⟨#[.pointer (some ⟨g, 0, none⟩), undef, .pointer (some ⟨h, 0, none⟩), x3, x4, x5, x6, x7, x8, x9, x10, x11, x12, x13], []⟩ ∧ Codes w g ∧ w0.grownBy w (some g) ∧ Row w h 51 [.int .i64 y0, .int .i64 y1] ∧
    (b0 = true → TabAt w h 7 x3 [.int .i64 8, .int .i64 4, .int .i64 8, .int .i64 1, .int .i64 2, .int .i64 16, .int .i64 8]) ∧
    (b1 = true → x4 = .pointer (some ⟨g, 0, none⟩)) ∧
    (b2 = true → Small 7 x5) ∧
    (b3 = true → ∃ s, szB s = true ∧ Points w h x6 s) ∧
    (b4 = true → ∃ s, szB s = true ∧ x7 = .int .i64 s) ∧
    (b5 = true → TabAt w h 8 x8 [.int .i64 8, .int .i64 4, .int .i64 1, .int .i64 8, .int .i64 16, .int .i64 2, .int .i64 32, .int .i64 64]) ∧
    (b6 = true → x9 = .pointer (some ⟨g, 0, none⟩)) ∧
    (b7 = true → Small 8 x10) ∧
    (b8 = true → ∃ s, powB s = true ∧ Points w h x11 s) ∧
    (b9 = true → ∃ s, powB s = true ∧ x12 = .int .i64 s) ∧
    (b10 = true → ∃ s t, szB s = true ∧ powB t = true ∧ x13 = pv s t) ∧
    (b11 = true → szB y0 = true ∧ powB y1 = true)

section
variable {w w' : World} {h n : Nat} {x : Value} {cs : List Value} {s : Int}
theorem TabAt.alloc (t : TabAt w h n x cs) (o : Obj) : TabAt (w.alloc o) h n x cs := by
  obtain ⟨b, hb, e, r⟩ := t
  exact ⟨b, hb, e, r.alloc o⟩
theorem TabAt.kept {g : Nat} (t : TabAt w h n x cs) (hG : w.grownBy w' (some g)) (hg : g < h) : TabAt w' h n x cs := by
  obtain ⟨b, hb, e, r⟩ := t
  exact ⟨b, hb, e, r.grown hG (fun e => by injection e with e; omega)⟩
theorem TabAt.far (t : TabAt w h n x cs) (k : Nat) (u : Value) : TabAt (w.setCell ⟨h, k, none⟩ u) h n x cs := by
  obtain ⟨b, hb, e, r⟩ := t
  exact ⟨b, hb, e, r.far (p := ⟨h, k, none⟩) (by simp; omega) u⟩
theorem Points.alloc (t : Points w h x s) (o : Obj) : Points (w.alloc o) h x s := by
  obtain ⟨b, k, hb, hl, e, r⟩ := t
  exact ⟨b, k, hb, by simp; omega, e, (World.cell?_alloc_lt w o ⟨b, k, none⟩ hl).trans r⟩
theorem Points.kept {g : Nat} (t : Points w h x s) (hG : w.grownBy w' (some g)) (hg : g < h) : Points w' h x s := by
  obtain ⟨b, k, hb, hl, e, r⟩ := t
  exact ⟨b, k, hb, Nat.lt_of_lt_of_le hl hG.size, e, (World.cell?_of_block (hG.block b hl (fun e => by injection e with e; omega))).trans r⟩
theorem Points.far (t : Points w h x s) (k : Nat) (u : Value) : Points (w.setCell ⟨h, k, none⟩ u) h x s := by
  obtain ⟨b, k', hb, hl, e, r⟩ := t
  exact ⟨b, k', hb, by simpa [World.setCell] using hl, e, (World.cell?_setCell_other w ⟨h, k, none⟩ ⟨b, k', none⟩ u (fun e => by injection e with e; omega)).trans r⟩
theorem points_alloc {p : Prop} {ps : Int → Prop} (q : p → ∃ s, ps s ∧ Points w h x s) (o : Obj) : p → ∃ s, ps s ∧ Points (w.alloc o) h x s := fun e => by
  obtain ⟨s, h1, h2⟩ := q e
  exact ⟨s, h1, h2.alloc o⟩
theorem points_kept {g : Nat} {p : Prop} {ps : Int → Prop} (q : p → ∃ s, ps s ∧ Points w h x s) (hG : w.grownBy w' (some g)) (hg : g < h) : p → ∃ s, ps s ∧ Points w' h x s := fun e => by
  obtain ⟨s, h1, h2⟩ := q e
  exact ⟨s, h1, h2.kept hG hg⟩
theorem points_far {p : Prop} {ps : Int → Prop} (q : p → ∃ s, ps s ∧ Points w h x s) (k : Nat) (u : Value) : p → ∃ s, ps s ∧ Points (w.setCell ⟨h, k, none⟩ u) h x s := fun e => by
  obtain ⟨s, h1, h2⟩ := q e
  exact ⟨s, h1, h2.far k u⟩
end

theorem Codes.set2 {w : World} {g h : Nat} (hC : Codes w g) (hg : g < h) (u u' : Value) : Codes ((w.setCell ⟨h, 0, none⟩ u).setCell ⟨h, 1, none⟩ u') g := by
  obtain ⟨A, n, c, zs, i, r, s, hh⟩ := hC
  refine ⟨A, n, c, zs, i, (r.far (p := ⟨h, 0, none⟩) (by simp; omega) u).far (p := ⟨h, 1, none⟩) (by simp; omega) u', s.keep fun p hp => ?_, hh⟩
  rw [World.cell?_setCell_other _ _ _ _ (fun e => by subst e; simp at hp; omega), World.cell?_setCell_other _ _ _ _ (fun e => by subst e; simp at hp; omega)]
theorem grown_new2 {w w' : World} {g h : Nat} (hG : w.grownBy w' (some g)) (hh : w.heap.size ≤ h) (u u' : Value) : w.grownBy ((w'.setCell ⟨h, 0, none⟩ u).setCell ⟨h, 1, none⟩ u') (some g) :=
  ⟨hG.os, hG.tape, hG.output, by simpa [World.setCell] using hG.size, fun i hi hne => ((Below.heap_setCell _ ⟨h, 1, none⟩ u' i (by simp; omega)).trans (Below.heap_setCell w' ⟨h, 0, none⟩ u i (by simp; omega))).trans (hG.block i hi hne)⟩

def SlotPost (g : Nat) (w : World) (e : Ending) (w' : World) : Prop := ∃ s a : Int, e = .returned (pv s a) ∧ szB s = true ∧ powB a = true ∧ Codes w' g ∧ w.grownBy w' (some g)

set_option maxRecDepth 100000 in
set_option maxHeartbeats 4000000 in
theorem slot_any (g : Nat) (w : World) (h : Hid (Codes w g)) : Calls Tryd.prog 80 #[.pointer (some ⟨g, 0, none⟩)] w (SlotPost g w) := by
  have c := next_any g
  have hg := h.out.lt
  go_enter Tryd.func80, Tryd.ntmps80
  go_wp2_with fail
  refine wp_region_inv (by kernel_rfl) (SlotI g w.heap.size w) ?_ ?_ ?_
  · exact ⟨false, false, false, false, false, false, false, false, false, false, false, false, undef, undef, undef, undef, undef, undef, undef, undef, undef, undef, undef, 0, 0, rfl, rfl, (h.out.alloc _).drew, grown_draws (grown_below (below1 w _) _) 1, (Row.new w _ _).drew, (fun e => by cases e), (fun e => by cases e), (fun e => by cases e), (fun e => by cases e), (fun e => by cases e), (fun e => by cases e), (fun e => by cases e), (fun e => by cases e), (fun e => by cases e), (fun e => by cases e), (fun e => by cases e), (fun e => by cases e)⟩
  · rintro l a wr ⟨b0, b1, b2, b3, b4, b5, b6, b7, b8, b9, b10, b11, x3, x4, x5, x6, x7, x8, x9, x10, x11, x12, x13, y0, y1, rfl, rfl, hC, hG, hR, q0, q1, q2, q3, q4, q5, q6, q7, q8, q9, q10, q11⟩ i hi K hK
    have hlt := ready_lt hi
    have hgw : w.heap.size < wr.heap.size := hR.lt
    obtain ⟨hf, o, ho, ha⟩ := ready_of hi
    clear hi
    have hlt' : i < 12 := hlt
    clear hlt
    rcases (show i = 0 ∨ i = 1 ∨ i = 2 ∨ i = 3 ∨ i = 4 ∨ i = 5 ∨ i = 6 ∨ i = 7 ∨ i = 8 ∨ i = 9 ∨ i = 10 ∨ i = 11 by omega) with rfl | rfl | rfl | rfl | rfl | rfl | rfl | rfl | rfl | rfl | rfl | rfl
    · obtain rfl := Option.some.inj ho
      simp [Region.binds] at ha
      clear ha hf ho hlt'
      refine wpOp_plain rfl rfl ?_
      go_simp
      refine hK _ _ ⟨true, b1, b2, b3, b4, b5, b6, b7, b8, b9, b10, b11, _, _, _, _, _, _, _, _, _, _, _, y0, y1, rfl, rfl, hC.alloc _, hG.trans (World.grownBy_alloc _ _ _), hR.alloc _, (fun _ => ⟨wr.heap.size, hgw, rfl, Row.new wr _ _⟩), q1, q2, (points_alloc q3 _), q4, (fun e => (q5 e).alloc _), q6, q7, (points_alloc q8 _), q9, q10, q11⟩
    · obtain rfl := Option.some.inj ho
      simp [Region.binds] at ha
      clear ha hf ho hlt'
      refine wpOp_plain rfl rfl ?_
      go_simp
      refine hK _ _ ⟨b0, true, b2, b3, b4, b5, b6, b7, b8, b9, b10, b11, _, _, _, _, _, _, _, _, _, _, _, y0, y1, rfl, rfl, hC, hG, hR, q0, (fun _ => rfl), q2, q3, q4, q5, q6, q7, q8, q9, q10, q11⟩
    · obtain rfl := Option.some.inj ho
      simp [Region.binds] at ha
      have d1 := ha
      have x := q1 d1
      subst x
      clear ha hf ho hlt'
      refine wpOp_plain rfl rfl ?_
      go_simp
      refine (c 7 _ (hide hC) (by omega) (by omega)).mono ?_
      rintro e w2 ⟨v, rfl, v0, v1, hC1, hG1, hz⟩
      refine hK _ _ ⟨b0, b1, true, b3, b4, b5, b6, b7, b8, b9, b10, b11, _, _, _, _, _, _, _, _, _, _, _, y0, y1, rfl, rfl, hC1, hG.trans hG1, hR.grown hG1 (fun e => by injection e with e; omega), (fun e => (q0 e).kept hG1 hg), q1, (fun _ => ⟨v, v0, v1, rfl⟩), (points_kept q3 hG1 hg), q4, (fun e => (q5 e).kept hG1 hg), q6, q7, (points_kept q8 hG1 hg), q9, q10, q11⟩
    · obtain rfl := Option.some.inj ho
      simp [Region.binds] at ha
      obtain ⟨d0, d2⟩ := ha
      obtain ⟨b, hb, rfl, r⟩ := q0 d0
      obtain ⟨v, v0, v1, rfl⟩ := q2 d2
      obtain ⟨s, hs, ht⟩ := tab1_at v v0 v1
      have hc := r.cell ht
      have HS := hide hs
      clear ht hs
      clear hf ho hlt'
      refine wpOp_plain rfl rfl ?_
      go_simp
      refine hK _ _ ⟨b0, b1, b2, true, b4, b5, b6, b7, b8, b9, b10, b11, _, _, _, _, _, _, _, _, _, _, _, y0, y1, rfl, rfl, hC, hG, hR, q0, q1, q2, (fun _ => ⟨s, HS.out, b, v.toNat, hb, r.lt, rfl, hc⟩), q4, q5, q6, q7, q8, q9, q10, q11⟩
    · obtain rfl := Option.some.inj ho
      simp [Region.binds] at ha
      have d3 := ha
      obtain ⟨s, hs, b, k, hb, hl, rfl, hc⟩ := q3 d3
      have HS := hide hs
      clear hs
      clear ha hf ho hlt'
      refine wpOp_plain rfl rfl ?_
      go_simp
      refine hK _ _ ⟨b0, b1, b2, b3, true, b5, b6, b7, b8, b9, b10, b11, _, _, _, _, _, _, _, _, _, _, _, y0, y1, rfl, rfl, hC, hG, hR, q0, q1, q2, q3, (fun _ => ⟨s, HS.out, rfl⟩), q5, q6, q7, q8, q9, q10, q11⟩
    · obtain rfl := Option.some.inj ho
      simp [Region.binds] at ha
      clear ha hf ho hlt'
      refine wpOp_plain rfl rfl ?_
      go_simp
      refine hK _ _ ⟨b0, b1, b2, b3, b4, true, b6, b7, b8, b9, b10, b11, _, _, _, _, _, _, _, _, _, _, _, y0, y1, rfl, rfl, hC.alloc _, hG.trans (World.grownBy_alloc _ _ _), hR.alloc _, (fun e => (q0 e).alloc _), q1, q2, (points_alloc q3 _), q4, (fun _ => ⟨wr.heap.size, hgw, rfl, Row.new wr _ _⟩), q6, q7, (points_alloc q8 _), q9, q10, q11⟩
    · obtain rfl := Option.some.inj ho
      simp [Region.binds] at ha
      clear ha hf ho hlt'
      refine wpOp_plain rfl rfl ?_
      go_simp
      refine hK _ _ ⟨b0, b1, b2, b3, b4, b5, true, b7, b8, b9, b10, b11, _, _, _, _, _, _, _, _, _, _, _, y0, y1, rfl, rfl, hC, hG, hR, q0, q1, q2, q3, q4, q5, (fun _ => rfl), q7, q8, q9, q10, q11⟩
    · obtain rfl := Option.some.inj ho
      simp [Region.binds] at ha
      obtain ⟨d6, d2⟩ := ha
      have x := q6 d6
      subst x
      clear hf ho hlt'
      refine wpOp_plain rfl rfl ?_
      go_simp
      refine (c 8 _ (hide hC) (by omega) (by omega)).mono ?_
      rintro e w2 ⟨v, rfl, v0, v1, hC1, hG1, hz⟩
      refine hK _ _ ⟨b0, b1, b2, b3, b4, b5, b6, true, b8, b9, b10, b11, _, _, _, _, _, _, _, _, _, _, _, y0, y1, rfl, rfl, hC1, hG.trans hG1, hR.grown hG1 (fun e => by injection e with e; omega), (fun e => (q0 e).kept hG1 hg), q1, q2, (points_kept q3 hG1 hg), q4, (fun e => (q5 e).kept hG1 hg), q6, (fun _ => ⟨v, v0, v1, rfl⟩), (points_kept q8 hG1 hg), q9, q10, q11⟩
    · obtain rfl := Option.some.inj ho
      simp [Region.binds] at ha
      obtain ⟨d5, d7⟩ := ha
      obtain ⟨b, hb, rfl, r⟩ := q5 d5
      obtain ⟨v, v0, v1, rfl⟩ := q7 d7
      obtain ⟨s, hs, ht⟩ := tab2_at v v0 v1
      have hc := r.cell ht
      have HS := hide hs
      clear ht hs
      clear hf ho hlt'
      refine wpOp_plain rfl rfl ?_
      go_simp
      refine hK _ _ ⟨b0, b1, b2, b3, b4, b5, b6, b7, true, b9, b10, b11, _, _, _, _, _, _, _, _, _, _, _, y0, y1, rfl, rfl, hC, hG, hR, q0, q1, q2, q3, q4, q5, q6, q7, (fun _ => ⟨s, HS.out, b, v.toNat, hb, r.lt, rfl, hc⟩), q9, q10, q11⟩
    · obtain rfl := Option.some.inj ho
      simp [Region.binds] at ha
      have d8 := ha
      obtain ⟨s, hs, b, k, hb, hl, rfl, hc⟩ := q8 d8
      have HS := hide hs
      clear hs
      clear ha hf ho hlt'
      refine wpOp_plain rfl rfl ?_
      go_simp
      refine hK _ _ ⟨b0, b1, b2, b3, b4, b5, b6, b7, b8, true, b10, b11, _, _, _, _, _, _, _, _, _, _, _, y0, y1, rfl, rfl, hC, hG, hR, q0, q1, q2, q3, q4, q5, q6, q7, q8, (fun _ => ⟨s, HS.out, rfl⟩), q10, q11⟩
    · obtain rfl := Option.some.inj ho
      simp [Region.binds] at ha
      obtain ⟨d4, d9⟩ := ha
      obtain ⟨s, hs, rfl⟩ := q4 d4
      obtain ⟨t, ht, rfl⟩ := q9 d9
      have HS := hide hs
      have HT := hide ht
      clear hs ht
      clear hf ho hlt'
      refine wpOp_plain rfl rfl ?_
      go_simp
      refine hK _ _ ⟨b0, b1, b2, b3, b4, b5, b6, b7, b8, b9, true, b11, _, _, _, _, _, _, _, _, _, _, _, y0, y1, rfl, rfl, hC, hG, hR, q0, q1, q2, q3, q4, q5, q6, q7, q8, q9, (fun _ => ⟨s, t, HS.out, HT.out, rfl⟩), q11⟩
    · obtain rfl := Option.some.inj ho
      simp [Region.binds] at ha
      have d10 : b10 = true := by simp_all
      obtain ⟨s, t, hs, ht, rfl⟩ := q10 d10
      have HS := hide hs
      have HT := hide ht
      have c0 := hR.cell (k := 0) rfl
      have c1 := hR.cell (k := 1) rfl
      have z0 := hR.free 0
      have z1 := hR.free 1
      clear hs ht
      clear ha hf ho hlt'
      refine wpOp_plain rfl rfl ?_
      go_simp
      refine hK _ _ ⟨b0, b1, b2, b3, b4, b5, b6, b7, b8, b9, b10, true, _, _, _, _, _, _, _, _, _, _, _, s, t, rfl, rfl, hC.set2 hg _ _, grown_new2 hG (Nat.le_refl _) _ _, (hR.set_ 0 _).set_ 1 _, (fun e => ((q0 e).far _ _).far _ _), q1, q2, (points_far (points_far q3 _ _) _ _), q4, (fun e => ((q5 e).far _ _).far _ _), q6, q7, (points_far (points_far q8 _ _) _ _), q9, q10, (fun _ => ⟨HS.out, HT.out⟩)⟩
  · rintro l a wr ⟨b0, b1, b2, b3, b4, b5, b6, b7, b8, b9, b10, b11, x3, x4, x5, x6, x7, x8, x9, x10, x11, x12, x13, y0, y1, rfl, rfl, hC, hG, hR, q0, q1, q2, q3, q4, q5, q6, q7, q8, q9, q10, q11⟩ hr
    have t0 : b0 = true := by
      cases hb : b0 with
      | true => rfl
      | false =>
        exact (ready_no hr (i := 0) rfl hb (by simp [Region.binds])).elim
    have t1 : b1 = true := by
      cases hb : b1 with
      | true => rfl
      | false =>
        exact (ready_no hr (i := 1) rfl hb (by simp [Region.binds])).elim
    have t5 : b5 = true := by
      cases hb : b5 with
      | true => rfl
      | false =>
        exact (ready_no hr (i := 5) rfl hb (by simp [Region.binds])).elim
    have t6 : b6 = true := by
      cases hb : b6 with
      | true => rfl
      | false =>
        exact (ready_no hr (i := 6) rfl hb (by simp [Region.binds])).elim
    have t2 : b2 = true := by
      cases hb : b2 with
      | true => rfl
      | false =>
        exact (ready_no hr (i := 2) rfl hb (by simp [Region.binds, t1])).elim
    have t3 : b3 = true := by
      cases hb : b3 with
      | true => rfl
      | false =>
        exact (ready_no hr (i := 3) rfl hb (by simp [Region.binds, t0, t2])).elim
    have t4 : b4 = true := by
      cases hb : b4 with
      | true => rfl
      | false =>
        exact (ready_no hr (i := 4) rfl hb (by simp [Region.binds, t3])).elim
    have t7 : b7 = true := by
      cases hb : b7 with
      | true => rfl
      | false =>
        exact (ready_no hr (i := 7) rfl hb (by simp [Region.binds, t6, t2])).elim
    have t8 : b8 = true := by
      cases hb : b8 with
      | true => rfl
      | false =>
        exact (ready_no hr (i := 8) rfl hb (by simp [Region.binds, t5, t7])).elim
    have t9 : b9 = true := by
      cases hb : b9 with
      | true => rfl
      | false =>
        exact (ready_no hr (i := 9) rfl hb (by simp [Region.binds, t8])).elim
    have t10 : b10 = true := by
      cases hb : b10 with
      | true => rfl
      | false =>
        exact (ready_no hr (i := 10) rfl hb (by simp [Region.binds, t4, t9])).elim
    have t11 : b11 = true := by
      cases hb : b11 with
      | true => rfl
      | false =>
        exact (ready_no hr (i := 11) rfl hb (by simp [Region.binds, t0, t1, t2, t3, t4, t5, t6, t7, t8, t9, t10])).elim
    obtain ⟨hs, ht⟩ := q11 t11
    have c0 := hR.cell (k := 0) rfl
    have c1 := hR.cell (k := 1) rfl
    clear hr t0 t1 t2 t3 t4 t5 t6 t7 t8 t9 t10 t11 q0 q1 q2 q3 q4 q5 q6 q7 q8 q9 q10 q11 hR
    have HS := hide hs
    have HT := hide ht
    clear hs ht
    go_wp2_with fail
    exact bodyPost_ret (v := pv y0 y1) (by simp [results, Tryd.results80, go_sem, c0, c1]) rfl ⟨y0, y1, rfl, HS.out, HT.out, hC, hG⟩
end Go.Proofs.YtidlnecgfgnllaaDoor
end
