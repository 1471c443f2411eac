import Derived.Test.YthaabgiefpfeaaaMDraw
import Derived.Test.YthaabgiefpfeaaaMInv
import Derived.Test.YthaabgiefpfeaaaMPmem
set_option linter.unusedVariables false
set_option linter.unusedSimpArgs false
section
/-
  The contract of spillframelaw15.instr: an instruction on slots, drawn. Condition: the receiver is a list of choices.
-/
namespace Go.Proofs.Ythaabgiefpfeaaa
open Go.RowKit

/-- x is a slice of n cells, which stand behind h. -/
def Tab8 (w : World) (h n : Nat) (x : Value) (cs : List Value) : Prop := ∃ b, h < b ∧ x = .slice (some ⟨b, 0, none⟩) n n ∧ Row w b 3 cs
/-- x points to a cell behind h that holds s. -/
def Pnt8 (w : World) (h : Nat) (x : Value) (s : Int) : Prop := ∃ b k, h < b ∧ b < w.heap.size ∧ x = .pointer (some ⟨b, k, none⟩) ∧ w.cell? ⟨b, k, none⟩ = some (.int .i64 s)
/-- x is a number below n. -/
def Sml8 (n : Int) (x : Value) : Prop := ∃ v, 0 ≤ v ∧ v < n ∧ x = .int .i64 v
theorem tab8_at (v : Int) (h0 : 0 ≤ v) (h1 : v < 8) : ∃ s : Int, (0 ≤ s ∧ s < 25) ∧ ([.int .i64 16, .int .i64 15, .int .i64 17, .int .i64 17, .int .i64 14, .int .i64 18, .int .i64 19, .int .i64 22] : List Value)[v.toNat]? = some (.int .i64 s) := by
  rcases (show v = 0 ∨ v = 1 ∨ v = 2 ∨ v = 3 ∨ v = 4 ∨ v = 5 ∨ v = 6 ∨ v = 7 by omega) with rfl | rfl | rfl | rfl | rfl | rfl | rfl | rfl <;> exact ⟨_, by decide, rfl⟩
/-- What each operation keeps: which of them have come up, and what they have left. -/
def InsI (g h : Nat) (w0 : World) (l : Array Bool) (a : Act) (w : World) : Prop :=
  ∃ (b0 b1 b2 b3 b4 b5 b6 b7 b8 b9 b10 : Bool) (x3 x4 x5 x6 x7 x8 x9 x10 x11 x12 : Value) (y0 y1 y2 y3 y4 : Int), l = #[b0, b1, b2, b3, b4, b5, b6, b7, b8, b9, b10] ∧ a = ⟨#[.pointer (some ⟨g, 0, none⟩), undef, .pointer (some ⟨h, 0, none⟩), x3, x4, x5, x6, x7, x8, x9, x10, x11, x12], []⟩ ∧ Codes w g ∧ w0.grownBy w (some g) ∧ Row w h 24 [.int .i64 y0, .int .i64 y1, .int .i64 y2, .int .i64 y3, .int .u64 y4] ∧
    (b0 = true → Tab8 w h 8 x3 [.int .i64 16, .int .i64 15, .int .i64 17, .int .i64 17, .int .i64 14, .int .i64 18, .int .i64 19, .int .i64 22]) ∧
    (b1 = true → x4 = .pointer (some ⟨g, 0, none⟩)) ∧
    (b2 = true → Sml8 8 x5) ∧
    (b3 = true → ∃ s, (0 ≤ s ∧ s < 25) ∧ Pnt8 w h x6 s) ∧
    (b4 = true → Sml8 25 x7) ∧
    (b5 = true → x8 = .pointer (some ⟨g, 0, none⟩)) ∧
    (b6 = true → Sml8 9 x9) ∧
    (b7 = true → x10 = .pointer (some ⟨g, 0, none⟩)) ∧
    (b8 = true → Sml8 9 x11) ∧
    (b9 = true → ∃ o a b, (0 ≤ o ∧ o < 25) ∧ (0 ≤ a ∧ a < 9) ∧ (0 ≤ b ∧ b < 9) ∧ x12 = iv o a b 0 0) ∧
    (b10 = true → (0 ≤ y0 ∧ y0 < 25) ∧ (0 ≤ y1 ∧ y1 < 9) ∧ (0 ≤ y2 ∧ y2 < 9) ∧ y3 = 0 ∧ y4 = 0)
section
variable {w w' : World} {h n : Nat} {x : Value} {cs : List Value} {s : Int}
theorem Tab8.alloc (t : Tab8 w h n x cs) (o : Obj) : Tab8 (w.alloc o) h n x cs := by
  obtain ⟨b, hb, e, r⟩ := t
  exact ⟨b, hb, e, r.alloc o⟩
theorem Tab8.kept {g : Nat} (t : Tab8 w h n x cs) (hG : w.grownBy w' (some g)) (hg : g < h) : Tab8 w' h n x cs := by
  obtain ⟨b, hb, e, r⟩ := t
  exact ⟨b, hb, e, r.grown hG (fun e => by injection e with e; omega)⟩
theorem pnt8_alloc {p : Prop} {ps : Int → Prop} (q : p → ∃ s, ps s ∧ Pnt8 w h x s) (o : Obj) : p → ∃ s, ps s ∧ Pnt8 (w.alloc o) h x s := fun e => by
  obtain ⟨s, h1, b, k, hb, hl, e, r⟩ := q e
  exact ⟨s, h1, b, k, hb, by simp; omega, e, (World.cell?_alloc_lt w o ⟨b, k, none⟩ hl).trans r⟩
theorem pnt8_kept {g : Nat} {p : Prop} {ps : Int → Prop} (q : p → ∃ s, ps s ∧ Pnt8 w h x s) (hG : w.grownBy w' (some g)) (hg : g < h) : p → ∃ s, ps s ∧ Pnt8 w' h x s := fun e => by
  obtain ⟨s, h1, b, k, hb, hl, e, r⟩ := q e
  exact ⟨s, h1, b, k, hb, Nat.lt_of_lt_of_le hl hG.size, e, (World.cell?_of_block (hG.block b hl (fun e => by injection e with e; omega))).trans r⟩
end
/-- Stores into block h. -/
def put5 (w : World) (h : Nat) (o a b c m : Int) : World := ((((w.setCell ⟨h, 0, none⟩ (.int .i64 o)).setCell ⟨h, 1, none⟩ (.int .i64 a)).setCell ⟨h, 2, none⟩ (.int .i64 b)).setCell ⟨h, 3, none⟩ (.int .i64 c)).setCell ⟨h, 4, none⟩ (.int .u64 m)
theorem put5_cell (w : World) (h : Nat) (o a b c m : Int) {p : Addr} (hp : p.block ≠ h) : (put5 w h o a b c m).cell? p = w.cell? p := by
  have k : ∀ (w : World) (j : Nat) (u : Value), (w.setCell ⟨h, j, none⟩ u).cell? p = w.cell? p := fun w j u => World.cell?_setCell_other _ _ _ _ (fun e => by subst e; exact hp rfl)
  unfold put5
  rw [k, k, k, k, k]
theorem put5_heap (w : World) (h : Nat) (o a b c m : Int) {i : Nat} (hi : i ≠ h) : (put5 w h o a b c m).heap[i]? = w.heap[i]? := by
  have k : ∀ (w : World) (j : Nat) (u : Value), (w.setCell ⟨h, j, none⟩ u).heap[i]? = w.heap[i]? := fun w j u => Below.heap_setCell w ⟨h, j, none⟩ u i hi
  unfold put5
  rw [k, k, k, k, k]
theorem put5_size (w : World) (h : Nat) (o a b c m : Int) : (put5 w h o a b c m).heap.size = w.heap.size := by simp [put5]
theorem put5_row {w : World} {h : Nat} {y0 y1 y2 y3 y4 : Value} (hR : Row w h 24 [y0, y1, y2, y3, y4]) (o a b c m : Int) : Row (put5 w h o a b c m) h 24 [.int .i64 o, .int .i64 a, .int .i64 b, .int .i64 c, .int .u64 m] := ((((hR.set_ 0 _).set_ 1 _).set_ 2 _).set_ 3 _).set_ 4 _
theorem put5_codes {w : World} {g h : Nat} (hC : Codes w g) (hg : g < h) (o a b c m : Int) : Codes (put5 w h o a b c m) g := by
  obtain ⟨A, n, c', zs, i, r, s, hh⟩ := hC
  exact ⟨A, n, c', zs, i, (put5_heap w h o a b c m (by omega)).trans r, s.keep fun p hp => put5_cell w h o a b c m (by omega), hh⟩
theorem grown_new1 {w w' : World} {g h : Nat} (hG : w.grownBy w' (some g)) (hh : w.heap.size ≤ h) (k : Nat) (u : Value) : w.grownBy (w'.setCell ⟨h, k, none⟩ u) (some g) :=
  ⟨hG.os, hG.tape, hG.output, by simpa [World.setCell] using hG.size, fun i hi hne => (Below.heap_setCell w' ⟨h, k, none⟩ u i (by simp; omega)).trans (hG.block i hi hne)⟩
theorem put5_grown {w w' : World} {g h : Nat} (hG : w.grownBy w' (some g)) (hh : w.heap.size ≤ h) (o a b c m : Int) : w.grownBy (put5 w' h o a b c m) (some g) :=
  grown_new1 (grown_new1 (grown_new1 (grown_new1 (grown_new1 hG hh 0 _) hh 1 _) hh 2 _) hh 3 _) hh 4 _
theorem put5_tab {w : World} {h n : Nat} {x : Value} {cs : List Value} (t : Tab8 w h n x cs) (o a b c m : Int) : Tab8 (put5 w h o a b c m) h n x cs := by
  obtain ⟨b', hb, e, r⟩ := t
  exact ⟨b', hb, e, (put5_heap w h o a b c m (by omega)).trans r⟩
theorem put5_pnt {w : World} {h : Nat} {x : Value} {p : Prop} {ps : Int → Prop} (q : p → ∃ s, ps s ∧ Pnt8 w h x s) (o a b c m : Int) : p → ∃ s, ps s ∧ Pnt8 (put5 w h o a b c m) h x s := fun e => by
  obtain ⟨s, h1, b', k, hb, hl, e, r⟩ := q e
  exact ⟨s, h1, b', k, hb, by rw [put5_size]; exact hl, e, (put5_cell w h o a b c m (by show b' ≠ h; omega)).trans r⟩

/-- What instr leaves. -/
def InsPost (g : Nat) (w : World) (e : Ending) (w' : World) : Prop := ∃ o a b : Int, e = .returned (iv o a b 0 0) ∧ (0 ≤ o ∧ o < 25) ∧ (0 ≤ a ∧ a < 9) ∧ (0 ≤ b ∧ b < 9) ∧ Codes w' g ∧ w.grownBy w' (some g)

set_option maxRecDepth 100000 in
set_option maxHeartbeats 4000000 in
theorem instr15_any (g : Nat) (w : World) (h : Hid (Codes w g)) : Calls Try.prog 13 #[.pointer (some ⟨g, 0, none⟩)] w (InsPost g w) := by
  have c := next_any g
  have hg := h.out.lt
  go_enter Try.func13, Try.ntmps13
  go_wp2_with fail
  refine wp_region_inv (by kernel_rfl) (InsI g w.heap.size w) ?_ ?_ ?_
  · exact ⟨false, false, false, false, false, false, false, false, false, false, false, undef, undef, undef, undef, undef, undef, undef, undef, undef, undef, 0, 0, 0, 0, 0, rfl, rfl, (h.out.alloc _).drew, grown_draws (grown_below (below1 w _) _) 1, (Row.new w _ _).drew, (fun e => by cases e), (fun e => by cases e), (fun e => by cases e), (fun e => by cases e), (fun e => by cases e), (fun e => by cases e), (fun e => by cases e), (fun e => by cases e), (fun e => by cases e), (fun e => by cases e), (fun e => by cases e)⟩
  · rintro l a wr ⟨b0, b1, b2, b3, b4, b5, b6, b7, b8, b9, b10, x3, x4, x5, x6, x7, x8, x9, x10, x11, x12, y0, y1, y2, y3, y4, rfl, rfl, hC, hG, hR, q0, q1, q2, q3, q4, q5, q6, q7, q8, q9, q10⟩ i hi K hK
    have hlt := ready_lt hi
    have hgw : w.heap.size < wr.heap.size := hR.lt
    obtain ⟨hf, o, ho, ha⟩ := ready_of hi
    clear hi
    have hlt' : i < 11 := hlt
    clear hlt
    rcases (show i = 0 ∨ i = 1 ∨ i = 2 ∨ i = 3 ∨ i = 4 ∨ i = 5 ∨ i = 6 ∨ i = 7 ∨ i = 8 ∨ i = 9 ∨ i = 10 by omega) with rfl | rfl | rfl | rfl | rfl | rfl | rfl | rfl | rfl | rfl | rfl
    · obtain rfl := Option.some.inj ho
      simp [Region.binds] at ha
      clear ha hf ho hlt'
      refine wpOp_plain rfl rfl ?_
      go_simp
      refine hK _ _ ⟨true, b1, b2, b3, b4, b5, b6, b7, b8, b9, b10, _, _, _, _, _, _, _, _, _, _, y0, y1, y2, y3, y4, rfl, rfl, hC.alloc _, hG.trans (World.grownBy_alloc _ _ _), hR.alloc _, (fun _ => ⟨wr.heap.size, hgw, rfl, Row.new wr _ _⟩), q1, q2, (pnt8_alloc q3 _), q4, q5, q6, q7, q8, q9, q10⟩
    · obtain rfl := Option.some.inj ho
      simp [Region.binds] at ha
      clear ha hf ho hlt'
      refine wpOp_plain rfl rfl ?_
      go_simp
      refine hK _ _ ⟨b0, true, b2, b3, b4, b5, b6, b7, b8, b9, b10, _, _, _, _, _, _, _, _, _, _, y0, y1, y2, y3, y4, rfl, rfl, hC, hG, hR, q0, (fun _ => rfl), q2, q3, q4, q5, q6, q7, q8, q9, q10⟩
    · obtain rfl := Option.some.inj ho
      simp [Region.binds] at ha
      have d1 : b1 = true := by simp_all
      have x := q1 d1
      subst x
      clear ha hf ho hlt'
      refine wpOp_plain rfl rfl ?_
      go_simp
      refine (c 8 _ (hide hC) (by omega) (by omega)).mono ?_
      rintro e w2 ⟨v, rfl, v0, v1, hC1, hG1, hz⟩
      refine hK _ _ ⟨b0, b1, true, b3, b4, b5, b6, b7, b8, b9, b10, _, _, _, _, _, _, _, _, _, _, y0, y1, y2, y3, y4, rfl, rfl, hC1, hG.trans hG1, hR.grown hG1 (fun e => by injection e with e; omega), (fun e => (q0 e).kept hG1 hg), q1, (fun _ => ⟨v, v0, v1, rfl⟩), (pnt8_kept q3 hG1 hg), q4, q5, q6, q7, q8, q9, q10⟩
    · obtain rfl := Option.some.inj ho
      simp [Region.binds] at ha
      have d0 : b0 = true := by simp_all
      have d2 : b2 = true := by simp_all
      obtain ⟨b, hb, rfl, r⟩ := q0 d0
      obtain ⟨v, v0, v1, rfl⟩ := q2 d2
      obtain ⟨s, hs, ht⟩ := tab8_at v v0 v1
      have hc := r.cell ht
      have HS := hide hs
      clear ht hs
      clear ha hf ho hlt'
      refine wpOp_plain rfl rfl ?_
      go_simp
      refine hK _ _ ⟨b0, b1, b2, true, b4, b5, b6, b7, b8, b9, b10, _, _, _, _, _, _, _, _, _, _, y0, y1, y2, y3, y4, rfl, rfl, hC, hG, hR, q0, q1, q2, (fun _ => ⟨s, HS.out, b, v.toNat, hb, r.lt, rfl, hc⟩), q4, q5, q6, q7, q8, q9, q10⟩
    · obtain rfl := Option.some.inj ho
      simp [Region.binds] at ha
      have d3 : b3 = true := by simp_all
      obtain ⟨s, hs, b, k, hb, hl, rfl, hc⟩ := q3 d3
      have HS := hide hs
      clear hs
      clear ha hf ho hlt'
      refine wpOp_plain rfl rfl ?_
      go_simp
      refine hK _ _ ⟨b0, b1, b2, b3, true, b5, b6, b7, b8, b9, b10, _, _, _, _, _, _, _, _, _, _, y0, y1, y2, y3, y4, rfl, rfl, hC, hG, hR, q0, q1, q2, q3, (fun _ => ⟨s, HS.out.1, HS.out.2, rfl⟩), q5, q6, q7, q8, q9, q10⟩
    · obtain rfl := Option.some.inj ho
      simp [Region.binds] at ha
      clear ha hf ho hlt'
      refine wpOp_plain rfl rfl ?_
      go_simp
      refine hK _ _ ⟨b0, b1, b2, b3, b4, true, b6, b7, b8, b9, b10, _, _, _, _, _, _, _, _, _, _, y0, y1, y2, y3, y4, rfl, rfl, hC, hG, hR, q0, q1, q2, q3, q4, (fun _ => rfl), q6, q7, q8, q9, q10⟩
    · obtain rfl := Option.some.inj ho
      simp [Region.binds] at ha
      have d5 : b5 = true := by simp_all
      have d2 : b2 = true := by simp_all
      have x := q5 d5
      subst x
      clear ha hf ho hlt'
      refine wpOp_plain rfl rfl ?_
      go_simp
      refine (c 9 _ (hide hC) (by omega) (by omega)).mono ?_
      rintro e w2 ⟨v, rfl, v0, v1, hC1, hG1, hz⟩
      refine hK _ _ ⟨b0, b1, b2, b3, b4, b5, true, b7, b8, b9, b10, _, _, _, _, _, _, _, _, _, _, y0, y1, y2, y3, y4, rfl, rfl, hC1, hG.trans hG1, hR.grown hG1 (fun e => by injection e with e; omega), (fun e => (q0 e).kept hG1 hg), q1, q2, (pnt8_kept q3 hG1 hg), q4, q5, (fun _ => ⟨v, v0, v1, rfl⟩), q7, q8, q9, q10⟩
    · obtain rfl := Option.some.inj ho
      simp [Region.binds] at ha
      clear ha hf ho hlt'
      refine wpOp_plain rfl rfl ?_
      go_simp
      refine hK _ _ ⟨b0, b1, b2, b3, b4, b5, b6, true, b8, b9, b10, _, _, _, _, _, _, _, _, _, _, y0, y1, y2, y3, y4, rfl, rfl, hC, hG, hR, q0, q1, q2, q3, q4, q5, q6, (fun _ => rfl), q8, q9, q10⟩
    · obtain rfl := Option.some.inj ho
      simp [Region.binds] at ha
      have d7 : b7 = true := by simp_all
      have d6 : b6 = true := by simp_all
      have x := q7 d7
      subst x
      clear ha hf ho hlt'
      refine wpOp_plain rfl rfl ?_
      go_simp
      refine (c 9 _ (hide hC) (by omega) (by omega)).mono ?_
      rintro e w2 ⟨v, rfl, v0, v1, hC1, hG1, hz⟩
      refine hK _ _ ⟨b0, b1, b2, b3, b4, b5, b6, b7, true, b9, b10, _, _, _, _, _, _, _, _, _, _, y0, y1, y2, y3, y4, rfl, rfl, hC1, hG.trans hG1, hR.grown hG1 (fun e => by injection e with e; omega), (fun e => (q0 e).kept hG1 hg), q1, q2, (pnt8_kept q3 hG1 hg), q4, q5, q6, q7, (fun _ => ⟨v, v0, v1, rfl⟩), q9, q10⟩
    · obtain rfl := Option.some.inj ho
      simp [Region.binds] at ha
      have d4 : b4 = true := by simp_all
      have d6 : b6 = true := by simp_all
      have d8 : b8 = true := by simp_all
      obtain ⟨s, s0, s1, rfl⟩ := q4 d4
      obtain ⟨t, t0, t1, rfl⟩ := q6 d6
      obtain ⟨u, u0, u1, rfl⟩ := q8 d8
      have HS := hide (And.intro s0 s1)
      have HT := hide (And.intro t0 t1)
      have HU := hide (And.intro u0 u1)
      clear s0 s1 t0 t1 u0 u1
      clear ha hf ho hlt'
      refine wpOp_plain rfl rfl ?_
      go_simp
      refine hK _ _ ⟨b0, b1, b2, b3, b4, b5, b6, b7, b8, true, b10, _, _, _, _, _, _, _, _, _, _, y0, y1, y2, y3, y4, rfl, rfl, hC, hG, hR, q0, q1, q2, q3, q4, q5, q6, q7, q8, (fun _ => ⟨s, t, u, HS.out, HT.out, HU.out, rfl⟩), q10⟩
    · obtain rfl := Option.some.inj ho
      simp [Region.binds] at ha
      have d9 : b9 = true := by simp_all
      obtain ⟨s, t, u, hs, ht, hu, rfl⟩ := q9 d9
      have HS := hide hs
      have HT := hide ht
      have HU := hide hu
      have c0 := hR.cell (k := 0) rfl
      have c1 := hR.cell (k := 1) rfl
      have c2 := hR.cell (k := 2) rfl
      have c3 := hR.cell (k := 3) rfl
      have c4 := hR.cell (k := 4) rfl
      have z0 := hR.free 0
      have z1 := hR.free 1
      have z2 := hR.free 2
      have z3 := hR.free 3
      have z4 := hR.free 4
      clear hs ht hu
      clear ha hf ho hlt'
      refine wpOp_plain rfl rfl ?_
      go_simp
      show K _ (put5 wr w.heap.size s t u 0 0)
      refine hK _ _ ⟨b0, b1, b2, b3, b4, b5, b6, b7, b8, b9, true, _, _, _, _, _, _, _, _, _, _, s, t, u, 0, 0, rfl, rfl, put5_codes hC hg _ _ _ _ _, put5_grown hG (Nat.le_refl _) _ _ _ _ _, put5_row hR _ _ _ _ _, (fun e => put5_tab (q0 e) _ _ _ _ _), q1, q2, (put5_pnt q3 _ _ _ _ _), q4, q5, q6, q7, q8, q9, (fun _ => ⟨HS.out, HT.out, HU.out, rfl, rfl⟩)⟩
  · rintro l a wr ⟨b0, b1, b2, b3, b4, b5, b6, b7, b8, b9, b10, x3, x4, x5, x6, x7, x8, x9, x10, x11, x12, y0, y1, y2, y3, y4, rfl, rfl, hC, hG, hR, q0, q1, q2, q3, q4, q5, q6, q7, q8, q9, q10⟩ hr
    have t0 : b0 = true := by
      cases hb : b0 with
      | true => rfl
      | false =>
        exact (ready_no hr (i := 0) rfl hb (by simp [Region.binds])).elim
    have t1 : b1 = true := by
      cases hb : b1 with
      | true => rfl
      | false =>
        exact (ready_no hr (i := 1) rfl hb (by simp [Region.binds])).elim
    have t5 : b5 = true := by
      cases hb : b5 with
      | true => rfl
      | false =>
        exact (ready_no hr (i := 5) rfl hb (by simp [Region.binds])).elim
    have t7 : b7 = true := by
      cases hb : b7 with
      | true => rfl
      | false =>
        exact (ready_no hr (i := 7) rfl hb (by simp [Region.binds])).elim
    have t2 : b2 = true := by
      cases hb : b2 with
      | true => rfl
      | false =>
        exact (ready_no hr (i := 2) rfl hb (by simp [Region.binds, t1])).elim
    have t3 : b3 = true := by
      cases hb : b3 with
      | true => rfl
      | false =>
        exact (ready_no hr (i := 3) rfl hb (by simp [Region.binds, t0, t2])).elim
    have t4 : b4 = true := by
      cases hb : b4 with
      | true => rfl
      | false =>
        exact (ready_no hr (i := 4) rfl hb (by simp [Region.binds, t3])).elim
    have t6 : b6 = true := by
      cases hb : b6 with
      | true => rfl
      | false =>
        exact (ready_no hr (i := 6) rfl hb (by simp [Region.binds, t5, t2])).elim
    have t8 : b8 = true := by
      cases hb : b8 with
      | true => rfl
      | false =>
        exact (ready_no hr (i := 8) rfl hb (by simp [Region.binds, t7, t6])).elim
    have t9 : b9 = true := by
      cases hb : b9 with
      | true => rfl
      | false =>
        exact (ready_no hr (i := 9) rfl hb (by simp [Region.binds, t4, t6, t8])).elim
    have t10 : b10 = true := by
      cases hb : b10 with
      | true => rfl
      | false =>
        exact (ready_no hr (i := 10) rfl hb (by simp [Region.binds, t0, t1, t2, t3, t4, t5, t6, t7, t8, t9])).elim
    obtain ⟨h0, h1, h2, rfl, rfl⟩ := q10 t10
    have c0 := hR.cell (k := 0) rfl
    have c1 := hR.cell (k := 1) rfl
    have c2 := hR.cell (k := 2) rfl
    have c3 := hR.cell (k := 3) rfl
    have c4 := hR.cell (k := 4) rfl
    clear hr t0 t1 t2 t3 t4 t5 t6 t7 t8 t9 t10 q0 q1 q2 q3 q4 q5 q6 q7 q8 q9 q10 hR
    have H0 := hide h0
    have H1 := hide h1
    have H2 := hide h2
    clear h0 h1 h2
    go_wp2_with fail
    exact bodyPost_ret (v := iv y0 y1 y2 0 0) (by simp [results, Try.results13, go_sem, c0, c1, c2, c3, c4]) rfl ⟨y0, y1, y2, rfl, H0.out, H1.out, H2.out, hC, hG⟩
end Go.Proofs.Ythaabgiefpfeaaa
end
