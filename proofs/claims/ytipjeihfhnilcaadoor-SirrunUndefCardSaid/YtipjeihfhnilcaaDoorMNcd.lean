import Derived.Test.YtipjeihfhnilcaaDoorMNcc
import Derived.Test.YtipjeihfhnilcaaDoorMDraw
import Derived.Deep.RegionLaw
import Derived.Maps.Range
set_option linter.unusedVariables false
set_option linter.unusedSimpArgs false
section
/-
  The contracts of the core's apply, and of Execute at In, Out, Jump, Branch, Trap, Add to Equal. Conditions: those of the types.
-/
namespace Go.Proofs.YtipjeihfhnilcaaDoor
open Go.RowKit

theorem Tryd.info33z : (Tryd.prog.info? 33).map (fun i => (i.zero, i.size, i.bytes)) = some (some (.agg #[.int .u64 0, .int .u64 0]), 2, 16) := by kernel_rfl
theorem drew1 (w : World) (o : Obj) : Below w.heap.size w (w.alloc o).drew := below_draws (below1 w o) 1
section
variable {g base fu : Nat} {T : TypeId} {vi vt : Value} {rest : List Value} {c : Co}
/-- A value more in the output. -/
theorem CoAt.outed {w w7 : World} {v' : Value} {V : Nat} (h : CoAt w g base T fu vi vt rest c) (hg : w.grownBy w7 vt.ownBlock) (ho : w7.ownsRow base 33 2 v' (c.trace.length + 1) (vcells c.trace ++ vcell V)) :
    CoAt (w7.setCell ⟨g, 6, none⟩ v') g base T fu vi v' rest { c with trace := c.trace ++ [V] } ∧ Row w7 g T (ccells fu c vi vt ++ rest) := by
  have hB : Below base w w7 := (Below.refl _ _).grown hg h.bl (fun k hk => (h.tr.lt k hk).1)
  have hoff := own_offT h.tr h.row h.nt
  have r7 : Row w7 g T (ccells fu c vi vt ++ rest) := h.row.grown hg (fun e => by
    rcases hoff with h1 | h1
    · rw [h1] at e; cases e
    · first | exact h1 e | exact h1 e.symm)
  have hB2 : Below base w7 (w7.setCell ⟨g, 6, none⟩ v') := (Below.refl _ _).setCell h.gb _
  refine ⟨⟨?_, h.gb, h.nt, h.r8, (h.inp.below hB).below hB2, ?_⟩, r7⟩
  · have := r7.set_ 6 v'
    exact this
  · show World.ownsRow _ base _ 2 v' (c.trace ++ [V]).length (vcells (c.trace ++ [V]))
    rw [List.length_append, vcells_app]
    exact ho.kept (put_grown w7 g 6 v') (own_offT ho r7 h.nt)

set_option maxRecDepth 100000 in
set_option maxHeartbeats 4000000 in
theorem exec_13 (a b d m : Int) (w : World) (hV2 : Hid (c.inp.headD 0 < 18446744073709551616)) (h : Hid (CoAt w g base T fu vi vt rest c)) :
    Calls Tryd.prog 42 #[.pointer (some ⟨g, 0, none⟩), iv 13 a b d m] w fun e w' => e = .returned (.tuple #[]) ∧ (∃ vi' vt', CoAt w' g base T fu vi' vt' rest (({ c with inp := c.inp.tail } : Co).setR a (c.inp.headD 0)) ∧ CKp w w' g base) := by
  obtain ⟨W1, hW1, R1, H1, K1⟩ := exec_box w 13 a b d m h
  have HW1 := hide hW1
  clear hW1
  have x0 := R1.out.cell (k := 0) rfl
  have x1 := R1.out.cell (k := 1) rfl
  have x2 := R1.out.cell (k := 2) rfl
  have x3 := R1.out.cell (k := 3) rfl
  have x4 := R1.out.cell (k := 4) rfl
  obtain ⟨V, hV⟩ : ∃ V, c.inp.headD 0 = V := ⟨_, rfl⟩
  rw [hV] at hV2
  have cr := fun q => coread_any (W1.drewN q) (hide (H1.out.drewN q))
  rw [hV] at cr ⊢
  have hvv := hide (show vv V = .agg #[.int .u64 (V : Int), .int .u64 0] by unfold vv lo hi; have := hV2.out; rw [Nat.mod_eq_of_lt this, show V / 18446744073709551616 % 18446744073709551616 = 0 by omega]; rfl)
  have cs := fun (W : World) (vi' : Value) hW => coSet_any (g := g) (base := base) (T := T) (fu := fu) (vi := vi') (vt := vt) (rest := rest) (c := { c with inp := c.inp.tail }) a V W hW
  rw [hvv.out] at cs
  have hgX : g ≠ w.heap.size := by have := h.out.gl; omega
  clear hV hvv
  go_enter Tryd.func42, Tryd.ntmps42
  go_upto_region 1 with (fail)
  rw [HW1.out]
  clear HW1
  go_upto_region 12 with (fail)
  go_region_held3 (fun w' => w'.cell? ⟨w.heap.size, 1, none⟩ = some (.int .i64 a)) (first | go_keep | exact m5 | exact m6)
    (first
      | (go_at_call 56; refine (cr _).mono ?_; rintro e w5 ⟨rfl, ⟨vi5, h5⟩, hb5⟩; have H5 := hide h5; have J5 := hide (JKp.trans (JKp.of_below (below_draws (Below.refl W1.heap.size W1) _) g vt) hb5); have m5 := (J5.out.row R1.out hgX.symm (tr_far h.out)).cell (k := 1) rfl; clear h5 hb5)
      | (go_at_call 50; refine (cs _ vi5 (hide (H5.out.drewN _))).mono ?_; rintro e w6 ⟨rfl, h6, k6⟩; have H6 := hide h6; have J6 := hide (JKp.trans (J5.out.drew _) k6); have m6 := (J6.out.row R1.out hgX.symm (tr_far h.out)).cell (k := 1) rfl; clear h6 k6)
      | (go_at_call 50; refine (cs _ vi5 H5).mono ?_; rintro e w6 ⟨rfl, h6, k6⟩; have H6 := hide h6; have J6 := hide (JKp.trans J5.out k6); have m6 := (J6.out.row R1.out hgX.symm (tr_far h.out)).cell (k := 1) rfl; clear h6 k6))
  all_goals
    go_wp2_with fail
    go_end0
    exact ⟨rfl, ⟨_, _, H6.out, (K1.out.trans J6.out).weak h.out.tr⟩⟩
set_option maxRecDepth 100000 in
set_option maxHeartbeats 4000000 in
theorem exec_14 (a b d m : Int) (w : World) (hm : Hid (c.trace.length ≤ 1000000)) (h : Hid (CoAt w g base T fu vi vt rest c)) :
    Calls Tryd.prog 42 #[.pointer (some ⟨g, 0, none⟩), iv 14 a b d m] w fun e w' => e = .returned (.tuple #[]) ∧ (∃ vi' vt', CoAt w' g base T fu vi' vt' rest ({ c with trace := c.trace ++ [c.reg a] }) ∧ CKp w w' g base) := by
  obtain ⟨W1, hW1, R1, H1, K1⟩ := exec_box w 14 a b d m h
  have HW1 := hide hW1
  clear hW1
  have x0 := R1.out.cell (k := 0) rfl
  have x1 := R1.out.cell (k := 1) rfl
  have x2 := R1.out.cell (k := 2) rfl
  have x3 := R1.out.cell (k := 3) rfl
  have x4 := R1.out.cell (k := 4) rfl
  obtain ⟨i0, ih, hz0, hz1, hz2⟩ := info_parts Tryd.info33z
  obtain ⟨V, hV⟩ : ∃ V, c.reg a = V := ⟨_, rfl⟩
  rw [hV]
  have cr : ∀ W, CoAt W g base T fu vi vt rest c → Calls Tryd.prog 49 #[.pointer (some ⟨g, 0, none⟩), .int .i64 a] W fun e w' => e = .returned (vv V) ∧ Below W.heap.size W w' := fun W hW => by rw [← hV]; exact coReg_any a W (hide hW)
  have CR := hide cr
  have t0 := H1.out.far 6 rfl
  have HM3 := hide (show c.trace.length + 1 ≤ maxLen by have := hm.out; unfold maxLen; omega)
  have HM4 := hide (show (c.trace.length + 1) * 16 ≤ 140737488355328 by have := hm.out; omega)
  have HBL := hide (show base ≤ W1.heap.size from H1.out.bl)
  clear cr hV
  go_enter Tryd.func42, Tryd.ntmps42
  go_upto_region 1 with (fail)
  rw [HW1.out]
  clear HW1
  go_upto_region 14 with (fail)
  go_region_law (first
    | (go_simp; go_at_call 49; refine (CR.out W1.drew (H1.out.drewN 1)).mono ?_; rintro e w5 ⟨rfl, hb5⟩; have b5 := hide (Below.trans (show Below W1.heap.size W1 W1.drew from below_draws (Below.refl W1.heap.size W1) 1) hb5); have H5 := hide (H1.out.call b5.out); have t5 := H5.out.far 6 rfl; have t6 : ∀ o : Obj, (w5.alloc o).cell? ⟨g, 6, none⟩ = some vt := (fun o => (H5.out.alloc o).far 6 rfl); clear hb5)
    | (refine wp_append_own _ (.tmp 70) (.tmp 75) 34 rfl base 33 i0 (.agg #[.int .u64 0, .int .u64 0]) 2 16 Tryd.underlying34 ih hz0 hz1 hz2 rfl (by decide) vt c.trace.length (vcells c.trace) rfl ((H5.out.alloc _).tr) ⟨w5.heap.size, 0, none⟩ 1 1 (vcell V) rfl rfl (fun j u hu => by rw [WideShapes.add_plain, Nat.zero_add]; exact (Row.new w5 33 (vcell V)).cell hu) (vcell_oneCell V) HM3.out HM4.out (Nat.le_trans HBL.out (Nat.le_trans b5.out.size (by simp))) ?_; intro v2 w7 ho2 hg2 hk2; obtain ⟨A7, c7, rfl⟩ := own_shape ho2; have G7 := hide ((World.grownBy_alloc w5 _ _).trans hg2); have FIN := hide (H5.out.outed G7.out ho2); have p0 := FIN.out.2.cell (k := 6) rfl; have p1 := FIN.out.2.free 6; clear ho2 hk2 hg2))
  all_goals
    go_wp2_with fail
    go_end0
    exact ⟨rfl, ⟨_, _, FIN.out.1, (((K1.out.trans (JKp.of_below b5.out g vt)).weak h.out.tr).trans (CKp.of_row G7.out H5.out.tr g)).trans (CKp.set _ g base 6 _)⟩⟩
set_option maxRecDepth 100000 in
set_option maxHeartbeats 4000000 in
theorem exec_20 (a b d m : Int) (w : World) (h : Hid (CoAt w g base T fu vi vt rest c)) :
    Calls Tryd.prog 42 #[.pointer (some ⟨g, 0, none⟩), iv 20 a b d m] w fun e w' => e = .returned (.tuple #[]) ∧ CoAt w' g base T fu vi vt rest c ∧ JKp w w' g vt vt := by
  obtain ⟨W1, hW1, R1, H1, K1⟩ := exec_box w 20 a b d m h
  have HW1 := hide hW1
  clear hW1
  have x0 := R1.out.cell (k := 0) rfl
  have x1 := R1.out.cell (k := 1) rfl
  have x2 := R1.out.cell (k := 2) rfl
  have x3 := R1.out.cell (k := 3) rfl
  have x4 := R1.out.cell (k := 4) rfl
  go_enter Tryd.func42, Tryd.ntmps42
  go_upto_region 1 with (fail)
  rw [HW1.out]
  clear HW1
  go_wp2_with fail
  go_end0
  exact ⟨rfl, H1.out, K1.out⟩
set_option maxRecDepth 100000 in
set_option maxHeartbeats 4000000 in
theorem exec_21 (a b d m : Int) (w : World) (h : Hid (CoAt w g base T fu vi vt rest c)) :
    Calls Tryd.prog 42 #[.pointer (some ⟨g, 0, none⟩), iv 21 a b d m] w fun e w' => e = .returned (.tuple #[]) ∧ CoAt w' g base T fu vi vt rest c ∧ JKp w w' g vt vt := by
  obtain ⟨W1, hW1, R1, H1, K1⟩ := exec_box w 21 a b d m h
  have HW1 := hide hW1
  clear hW1
  have x0 := R1.out.cell (k := 0) rfl
  have x1 := R1.out.cell (k := 1) rfl
  have x2 := R1.out.cell (k := 2) rfl
  have x3 := R1.out.cell (k := 3) rfl
  have x4 := R1.out.cell (k := 4) rfl
  go_enter Tryd.func42, Tryd.ntmps42
  go_upto_region 1 with (fail)
  rw [HW1.out]
  clear HW1
  go_wp2_with fail
  go_end0
  exact ⟨rfl, H1.out, K1.out⟩
set_option maxRecDepth 100000 in
set_option maxHeartbeats 4000000 in
theorem exec_24 (a b d m : Int) (w : World) (h : Hid (CoAt w g base T fu vi vt rest c)) :
    Calls Tryd.prog 42 #[.pointer (some ⟨g, 0, none⟩), iv 24 a b d m] w fun e w' => e = .returned (.tuple #[]) ∧ CoAt w' g base T fu vi vt rest (({ c with code := m } : Co).stop 1) ∧ JKp w w' g vt vt := by
  obtain ⟨W1, hW1, R1, H1, K1⟩ := exec_box w 24 a b d m h
  have HW1 := hide hW1
  clear hW1
  have x0 := R1.out.cell (k := 0) rfl
  have x1 := R1.out.cell (k := 1) rfl
  have x2 := R1.out.cell (k := 2) rfl
  have x3 := R1.out.cell (k := 3) rfl
  have x4 := R1.out.cell (k := 4) rfl
  have z3 := H1.out.row.free 3
  have c3 := H1.out.far 3 rfl
  obtain ⟨W2, hW2⟩ : ∃ W, W1.setCell ⟨g, 3, none⟩ (.int .u64 m) = W := ⟨_, rfl⟩
  have H2 := hide (show CoAt W2 g base T fu vi vt rest { c with code := m } by rw [← hW2]; exact H1.out.store 3 (.int .u64 m) rfl H1.out.inp rfl H1.out.r8)
  have K2 := hide (show JKp w W2 g vt vt by rw [← hW2]; exact K1.out.trans (JKp.set W1 g 3 vt _))
  have HW2 := hide hW2
  have cn := coEnd_any 1 W2 H2
  clear hW2
  go_enter Tryd.func42, Tryd.ntmps42
  go_upto_region 1 with (fail)
  rw [HW1.out]
  clear HW1
  go_upto_region 19 with (fail)
  rw [HW2.out]
  clear z3 c3 HW2
  go_wp2_with fail
  refine cn.mono ?_
  rintro e w5 ⟨rfl, h5, k5⟩
  have H5 := hide h5
  have K5 := hide (K2.out.trans k5)
  clear h5 k5 cn
  go_wp2_with fail
  go_end0
  exact ⟨rfl, H5.out, K5.out⟩
theorem row_drew1 (w : World) (t : Nat) (cs : List Value) {w5 : World} (hb : Below (w.alloc (.cells cs.toArray t)).drew.heap.size (w.alloc (.cells cs.toArray t)).drew w5) : Row w5 w.heap.size t cs := (show Row (w.alloc (.cells cs.toArray t)).drew w.heap.size t cs from Row.new w t cs).call hb
set_option maxRecDepth 100000 in
set_option maxHeartbeats 8000000 in
theorem coapply_any (op a b d m : Int) (w : World) (hV2 : Hid (c.reg b < two128)) (hU2 : Hid (c.reg d < two128)) (h : Hid (CoAt w g base T fu vi vt rest c)) :
    Calls Tryd.prog 57 #[.pointer (some ⟨g, 0, none⟩), iv op a b d m] w fun e w' => e = .returned (.tuple #[]) ∧ CoAt w' g base T fu vi vt rest (if opOk op (c.reg d) then c.setR a (opRes op (c.reg b) (c.reg d)) else c.stop 2) ∧ JKp w w' g vt vt := by
  obtain ⟨W1, hW1, R1, H1, K1⟩ := exec_box w op a b d m h
  have HW1 := hide hW1
  obtain ⟨V, hV⟩ : ∃ V, c.reg b = V := ⟨_, rfl⟩
  obtain ⟨U, hU⟩ : ∃ V, c.reg d = V := ⟨_, rfl⟩
  rw [hV] at hV2 ⊢
  rw [hU] at hU2 ⊢
  have rb : ∀ W, Below W1.heap.size W1 W → Calls Tryd.prog 49 #[.pointer (some ⟨g, 0, none⟩), .int .i64 b] W fun e w' => e = .returned (vv V) ∧ Below W.heap.size W w' := fun W hW => by rw [← hV]; exact coReg_any b W (hide (H1.out.call hW))
  have rd : ∀ W, Below W1.heap.size W1 W → Calls Tryd.prog 49 #[.pointer (some ⟨g, 0, none⟩), .int .i64 d] W fun e w' => e = .returned (vv U) ∧ Below W.heap.size W w' := fun W hW => by rw [← hU]; exact coReg_any d W (hide (H1.out.call hW))
  have ca := fun (W : World) (_ : Below W1.heap.size W1 W) => apply_any op V U W hV2.out hU2.out
  obtain ⟨B, hB⟩ : ∃ B, opOk op U = B := ⟨_, rfl⟩
  obtain ⟨R, hR⟩ : ∃ R, opRes op V U = R := ⟨_, rfl⟩
  rw [hB, hR] at ca ⊢
  have RB := hide rb
  have RD := hide rd
  have CA := hide ca
  clear hW1 hV hU hB hR rb rd ca
  have x0 := fun (w' : World) (hb : Below W1.heap.size W1 w') => (R1.out.call hb).cell (k := 0) rfl
  have x2 := fun (w' : World) (hb : Below W1.heap.size W1 w') => (R1.out.call hb).cell (k := 2) rfl
  have x3 := fun (w' : World) (hb : Below W1.heap.size W1 w') => (R1.out.call hb).cell (k := 3) rfl
  go_enter Tryd.func57, Tryd.ntmps57
  go_upto_region 1 with (fail)
  rw [HW1.out]
  clear HW1
  go_region_held3 (fun w' => Below W1.heap.size W1 w') (first | exact bb | exact below_draws (Below.refl _ _) 1 | exact drew1 _ _ | exact (bb.setCell (Nat.le_refl _) _).setCell (Nat.le_refl _) _ | exact bb.alloc bb.size _ | exact ((bb.alloc bb.size _).setCell bb.size _).setCell bb.size _ | exact (bb.setCell hY5 _).setCell hY5 _)
    (first
      | (go_at_call 49; have y6 := Y5.out; with_reducible refine Calls.mono (RB.out _ (by first | exact bb | exact bb.drew)) ?_; rintro e w5 ⟨rfl, hb5⟩; have y7 := y6.call hb5; have bb := below_call (show Below W1.heap.size W1 _ from by first | exact bb | exact bb.drew | exact below_draws bb 1) hb5; have n0 := y7.cell (k := 0) rfl; have n1 := y7.cell (k := 1) rfl; have n2 := y7.free 0; have n3 := y7.free 1; have Y5 := hide y7; clear hb5 y6 y7)
      | (go_at_call 49; with_reducible refine Calls.mono (RB.out _ (by first | exact bb | exact bb.drew | exact (Below.refl _ _).drew)) ?_; rintro e w5 ⟨rfl, hb5⟩; have bb := below_call (show Below W1.heap.size W1 _ from by first | exact bb | exact below_draws bb _ | exact (Below.refl _ _).drew | exact bb.drew | exact below_draws (Below.refl _ _) 1) hb5; clear hb5)
      | (go_at_call 49; with_reducible refine Calls.mono (RB.out (W1.alloc (.cells #[.int .u64 0, .int .u64 0] 33)).drew (drew1 W1 _)) ?_; rintro e w5 ⟨rfl, hb5⟩; have bb := below_call (drew1 W1 _) hb5; have y7 := row_drew1 W1 33 [.int .u64 0, .int .u64 0] hb5; have hY5 : W1.heap.size ≤ W1.heap.size := Nat.le_refl _; have n0 := y7.cell (k := 0) rfl; have n1 := y7.cell (k := 1) rfl; have n2 := y7.free 0; have n3 := y7.free 1; have Y5 := hide y7; clear hb5 y7)
      | (go_at_call 49; obtain ⟨wY, hwY⟩ : ∃ wY, wY = w5 := ⟨_, rfl⟩; subst hwY; with_reducible refine Calls.mono (RB.out (wY.alloc (.cells #[.int .u64 0, .int .u64 0] 33)) (bb.alloc bb.size _)) ?_; rintro e w5 ⟨rfl, hb5⟩; have hY5 : W1.heap.size ≤ wY.heap.size := bb.size; have y7 := (Row.new wY 33 [.int .u64 0, .int .u64 0]).call hb5; have bb := below_call (bb.alloc bb.size (.cells #[.int .u64 0, .int .u64 0] 33)) hb5; have n0 := y7.cell (k := 0) rfl; have n1 := y7.cell (k := 1) rfl; have n2 := y7.free 0; have n3 := y7.free 1; have Y5 := hide y7; clear hb5 y7)
      | (go_at_call 49; have y6 := Y5.out; with_reducible refine Calls.mono (RD.out _ (by first | exact bb | exact bb.drew)) ?_; rintro e w5 ⟨rfl, hb5⟩; have y7 := y6.call hb5; have bb := below_call (show Below W1.heap.size W1 _ from by first | exact bb | exact bb.drew | exact below_draws bb 1) hb5; have n0 := y7.cell (k := 0) rfl; have n1 := y7.cell (k := 1) rfl; have n2 := y7.free 0; have n3 := y7.free 1; have Y5 := hide y7; clear hb5 y6 y7)
      | (go_at_call 49; with_reducible refine Calls.mono (RD.out _ (by first | exact bb | exact bb.drew | exact (Below.refl _ _).drew)) ?_; rintro e w5 ⟨rfl, hb5⟩; have bb := below_call (show Below W1.heap.size W1 _ from by first | exact bb | exact below_draws bb _ | exact (Below.refl _ _).drew | exact bb.drew | exact below_draws (Below.refl _ _) 1) hb5; clear hb5)
      | (go_at_call 49; with_reducible refine Calls.mono (RD.out (W1.alloc (.cells #[.int .u64 0, .int .u64 0] 33)).drew (drew1 W1 _)) ?_; rintro e w5 ⟨rfl, hb5⟩; have bb := below_call (drew1 W1 _) hb5; have y7 := row_drew1 W1 33 [.int .u64 0, .int .u64 0] hb5; have hY5 : W1.heap.size ≤ W1.heap.size := Nat.le_refl _; have n0 := y7.cell (k := 0) rfl; have n1 := y7.cell (k := 1) rfl; have n2 := y7.free 0; have n3 := y7.free 1; have Y5 := hide y7; clear hb5 y7)
      | (go_at_call 49; obtain ⟨wY, hwY⟩ : ∃ wY, wY = w5 := ⟨_, rfl⟩; subst hwY; with_reducible refine Calls.mono (RD.out (wY.alloc (.cells #[.int .u64 0, .int .u64 0] 33)) (bb.alloc bb.size _)) ?_; rintro e w5 ⟨rfl, hb5⟩; have hY5 : W1.heap.size ≤ wY.heap.size := bb.size; have y7 := (Row.new wY 33 [.int .u64 0, .int .u64 0]).call hb5; have bb := below_call (bb.alloc bb.size (.cells #[.int .u64 0, .int .u64 0] 33)) hb5; have n0 := y7.cell (k := 0) rfl; have n1 := y7.cell (k := 1) rfl; have n2 := y7.free 0; have n3 := y7.free 1; have Y5 := hide y7; clear hb5 y7)
      | (go_at_call 64; have y6 := Y5.out; with_reducible refine Calls.mono (CA.out _ (by first | exact bb | exact bb.drew)) ?_; rintro e w5 ⟨rfl, hb5⟩; have y7 := y6.call hb5; have bb := below_call (show Below W1.heap.size W1 _ from by first | exact bb | exact bb.drew | exact below_draws bb 1) hb5; have n0 := y7.cell (k := 0) rfl; have n1 := y7.cell (k := 1) rfl; have n2 := y7.free 0; have n3 := y7.free 1; have Y5 := hide y7; clear hb5 y6 y7)
      | (go_at_call 64; with_reducible refine Calls.mono (CA.out _ (by first | exact bb | exact bb.drew | exact (Below.refl _ _).drew)) ?_; rintro e w5 ⟨rfl, hb5⟩; have bb := below_call (show Below W1.heap.size W1 _ from by first | exact bb | exact below_draws bb _ | exact (Below.refl _ _).drew | exact bb.drew | exact below_draws (Below.refl _ _) 1) hb5; clear hb5)
      | (go_at_call 64; with_reducible refine Calls.mono (CA.out (W1.alloc (.cells #[.int .u64 0, .int .u64 0] 33)).drew (drew1 W1 _)) ?_; rintro e w5 ⟨rfl, hb5⟩; have bb := below_call (drew1 W1 _) hb5; have y7 := row_drew1 W1 33 [.int .u64 0, .int .u64 0] hb5; have hY5 : W1.heap.size ≤ W1.heap.size := Nat.le_refl _; have n0 := y7.cell (k := 0) rfl; have n1 := y7.cell (k := 1) rfl; have n2 := y7.free 0; have n3 := y7.free 1; have Y5 := hide y7; clear hb5 y7)
      | (go_at_call 64; obtain ⟨wY, hwY⟩ : ∃ wY, wY = w5 := ⟨_, rfl⟩; subst hwY; with_reducible refine Calls.mono (CA.out (wY.alloc (.cells #[.int .u64 0, .int .u64 0] 33)) (bb.alloc bb.size _)) ?_; rintro e w5 ⟨rfl, hb5⟩; have hY5 : W1.heap.size ≤ wY.heap.size := bb.size; have y7 := (Row.new wY 33 [.int .u64 0, .int .u64 0]).call hb5; have bb := below_call (bb.alloc bb.size (.cells #[.int .u64 0, .int .u64 0] 33)) hb5; have n0 := y7.cell (k := 0) rfl; have n1 := y7.cell (k := 1) rfl; have n2 := y7.free 0; have n3 := y7.free 1; have Y5 := hide y7; clear hb5 y7)
    )
  all_goals
    first
      | (obtain ⟨W6, hW6⟩ : ∃ W6, (w5.setCell ⟨wY.heap.size, 0, none⟩ (.int .u64 (lo R))).setCell ⟨wY.heap.size, 1, none⟩ (.int .u64 (hi R)) = W6 := ⟨_, rfl⟩; obtain ⟨Y, hY⟩ : ∃ Y, wY.heap.size = Y := ⟨_, rfl⟩; have Y6 := hide (show Row W6 Y 33 [.int .u64 (lo R), .int .u64 (hi R)] by rw [← hW6, ← hY]; exact (Y5.out.set_ 0 (.int .u64 (lo R))).set_ 1 (.int .u64 (hi R))); have bW := hide (show Below W1.heap.size W1 W6 by rw [← hW6]; exact (bb.setCell (p := ⟨wY.heap.size, 0, none⟩) hY5 _).setCell (p := ⟨wY.heap.size, 1, none⟩) hY5 _); clear n0 n1 n2 n3 hY5 Y5)
      | (obtain ⟨W6, hW6⟩ : ∃ W6, (w5.setCell ⟨W1.heap.size, 0, none⟩ (.int .u64 (lo R))).setCell ⟨W1.heap.size, 1, none⟩ (.int .u64 (hi R)) = W6 := ⟨_, rfl⟩; obtain ⟨Y, hY⟩ : ∃ Y, W1.heap.size = Y := ⟨_, rfl⟩; have Y6 := hide (show Row W6 Y 33 [.int .u64 (lo R), .int .u64 (hi R)] by rw [← hW6, ← hY]; exact (Y5.out.set_ 0 (.int .u64 (lo R))).set_ 1 (.int .u64 (hi R))); have bW := hide (show Below W1.heap.size W1 W6 by rw [← hW6]; exact (bb.setCell (p := ⟨W1.heap.size, 0, none⟩) hY5 _).setCell (p := ⟨W1.heap.size, 1, none⟩) hY5 _); clear n0 n1 n2 n3 hY5 Y5)
      | (obtain ⟨W6, hW6⟩ : ∃ W6, w5.alloc (.cells #[.int .u64 (lo R), .int .u64 (hi R)] 33) = W6 := ⟨_, rfl⟩; obtain ⟨Y, hY⟩ : ∃ Y, w5.heap.size = Y := ⟨_, rfl⟩; have Y6 := hide (show Row W6 Y 33 [.int .u64 (lo R), .int .u64 (hi R)] by rw [← hW6, ← hY]; exact Row.new w5 _ _); have bW := hide (show Below W1.heap.size W1 W6 by rw [← hW6]; exact bb.alloc bb.size _))
    have HW6 := hide hW6
    have HY := hide hY
    clear hW6 hY bb x0 x2 x3 RB RD CA
    go_upto_region 2 with (fail)
    rw [HW6.out, HY.out]
    have x1 := (R1.out.call bW.out).cell (k := 1) rfl
    have y0 := Y6.out.cell (k := 0) rfl
    have y1 := Y6.out.cell (k := 1) rfl
    have H6 := hide (H1.out.call bW.out)
    have K6 := hide (K1.out.trans (JKp.of_below bW.out g vt))
    cases B with
    | false =>
      have cn := coEnd_any 2 W6 H6
      go_wp2_with fail
      refine cn.mono ?_
      rintro e w7 ⟨rfl, h7, k7⟩
      have H7 := hide h7
      have K7 := hide (K6.out.trans k7)
      clear cn h7 k7
      go_wp2_with fail
      (try simp only [Exit.inBlock, Exit.then])
      refine bodyPost_ret (results_none rfl _ _ _) rfl ?_
      exact ⟨rfl, H7.out, K7.out⟩
    | true =>
      have cs := coSet_any a R W6 H6
      go_wp2_with fail
      refine cs.mono ?_
      rintro e w7 ⟨rfl, h7, k7⟩
      have H7 := hide h7
      have K7 := hide (K6.out.trans k7)
      clear cs h7 k7
      go_wp2_with fail
      go_end0
      exact ⟨rfl, H7.out, K7.out⟩
set_option maxRecDepth 100000 in
set_option maxHeartbeats 4000000 in
theorem exec_mid (op a b d m : Int) (w : World) (hop : 2 ≤ op ∧ op ≤ 10) (hV2 : Hid (c.reg b < two128)) (hU2 : Hid (c.reg d < two128)) (h : Hid (CoAt w g base T fu vi vt rest c)) :
    Calls Tryd.prog 42 #[.pointer (some ⟨g, 0, none⟩), iv op a b d m] w fun e w' => e = .returned (.tuple #[]) ∧ CoAt w' g base T fu vi vt rest (if opOk op (c.reg d) then c.setR a (opRes op (c.reg b) (c.reg d)) else c.stop 2) ∧ JKp w w' g vt vt := by
  obtain ⟨W1, hW1, R1, H1, K1⟩ := exec_box w op a b d m h
  have HW1 := hide hW1
  clear hW1
  have x0 := R1.out.cell (k := 0) rfl
  have x1 := R1.out.cell (k := 1) rfl
  have x2 := R1.out.cell (k := 2) rfl
  have x3 := R1.out.cell (k := 3) rfl
  have x4 := R1.out.cell (k := 4) rfl
  have e0 : (op == 0) = false := by rw [beq_eq_false_iff_ne]; omega
  have e1 : (op == 1) = false := by rw [beq_eq_false_iff_ne]; omega
  have e11 : (op == 11) = false := by rw [beq_eq_false_iff_ne]; omega
  have e12 : (op == 12) = false := by rw [beq_eq_false_iff_ne]; omega
  have e13 : (op == 13) = false := by rw [beq_eq_false_iff_ne]; omega
  have e14 : (op == 14) = false := by rw [beq_eq_false_iff_ne]; omega
  have e20 : (op == 20) = false := by rw [beq_eq_false_iff_ne]; omega
  have e21 : (op == 21) = false := by rw [beq_eq_false_iff_ne]; omega
  have e24 : (op == 24) = false := by rw [beq_eq_false_iff_ne]; omega
  have ca := coapply_any op a b d m W1 hV2 hU2 H1
  obtain ⟨S2, hS2⟩ : ∃ S2, (if opOk op (c.reg d) then c.setR a (opRes op (c.reg b) (c.reg d)) else c.stop 2) = S2 := ⟨_, rfl⟩
  rw [hS2] at ca ⊢
  clear hS2
  go_enter Tryd.func42, Tryd.ntmps42
  go_upto_region 1 with (fail)
  rw [HW1.out]
  clear HW1
  go_wp2_with fail
  refine ca.mono ?_
  rintro e w5 ⟨rfl, h5, k5⟩
  have H5 := hide h5
  have K5 := hide (K1.out.trans k5)
  clear h5 k5 ca
  go_wp2_with fail
  go_end0
  exact ⟨rfl, H5.out, K5.out⟩
end
end Go.Proofs.YtipjeihfhnilcaaDoor
end
