import Derived.Test.YtlkcjjalkdlicaaDoorMZcm3
set_option linter.unusedVariables false
set_option linter.unusedSimpArgs false
section
/-
  The contract of the machine's apply (chapter 8). Conditions: those of the types.
-/
namespace Go.Proofs.YtlkcjjalkdlicaaDoor
open Go.RowKit

section
variable {g base : Nat} {vi vt vf vs : Value} {zs : List Zn} {s : Mch}
theorem drew1 (w : World) (o : Obj) : Below w.heap.size w (w.alloc o).drew := below_draws (below1 w o) 1
theorem row_drew1 (w : World) (t : Nat) (cs : List Value) {w5 : World} (hb : Below (w.alloc (.cells cs.toArray t)).drew.heap.size (w.alloc (.cells cs.toArray t)).drew w5) : Row w5 w.heap.size t cs := (show Row (w.alloc (.cells cs.toArray t)).drew w.heap.size t cs from Row.new w t cs).call hb
set_option maxHeartbeats 8000000 in
theorem capply_any (op : Int) (a b c V U : Nat) (imm : Int) (w : World) (ha : a < 8) (hb : b < 8) (hc : c < 8) (hV : Hid (s.regs.getD b 0 = V)) (hU : Hid (s.regs.getD c 0 = U)) (hV2 : Hid (V < two128)) (hU2 : Hid (U < two128)) (h : Hid (MRaw w g base vi vt vf vs zs s)) :
    Calls Tryd.prog 115 #[.pointer (some ⟨g, 0, none⟩), iv op (a : Int) (b : Int) (c : Int) imm] w fun e w' => e = .returned (.tuple #[]) ∧ MRaw w' g base vi vt vf vs zs (if opOk op U then s.setR (a : Int) (opRes op V U) else s.stop 2) ∧ Below base w w' := by
  have ca := fun (W : World) => apply_any op V U W hV2.out hU2.out
  obtain ⟨B, hB⟩ : ∃ B, opOk op U = B := ⟨_, rfl⟩
  obtain ⟨R, hR⟩ : ∃ R, opRes op V U = R := ⟨_, rfl⟩
  rw [hB, hR] at ca
  rw [hB, hR]
  clear hB hR
  have hgl := h.out.gl
  go_enter Tryd.func115, Tryd.ntmps115
  obtain ⟨X, hX⟩ : ∃ X, w.heap.size = X := ⟨_, rfl⟩
  obtain ⟨W1, hW1⟩ : ∃ W1, w.alloc (.cells #[.int .i64 op, .int .i64 (a : Int), .int .i64 (b : Int), .int .i64 (c : Int), .int .u64 imm] 65) = W1 := ⟨_, rfl⟩
  have R1 := hide (show Row W1 X 65 [.int .i64 op, .int .i64 (a : Int), .int .i64 (b : Int), .int .i64 (c : Int), .int .u64 imm] by rw [← hW1, ← hX]; exact Row.new w _ _)
  have H1 := hide (show MRaw W1 g base vi vt vf vs zs s by rw [← hW1]; exact h.out.alloc _)
  have B1 := hide (show Below base w W1 by rw [← hW1]; exact (Below.refl _ _).alloc h.out.bl _)
  have hgX : g ≠ X := by omega
  have HX := hide hX
  have HW1 := hide hW1
  clear hX hW1
  go_upto_region 1 with (fail)
  rw [HW1.out, HX.out]
  have x0 := fun (w' : World) (hb : Below W1.heap.size W1 w') => (R1.out.call hb).cell (k := 0) rfl
  have x2 := fun (w' : World) (hb : Below W1.heap.size W1 w') => (R1.out.call hb).cell (k := 2) rfl
  have x3 := fun (w' : World) (hb : Below W1.heap.size W1 w') => (R1.out.call hb).cell (k := 3) rfl
  have q0 := fun (w' : World) (hw : Below W1.heap.size W1 w') => ((H1.out.call hw).reg hb).1
  have q1 := fun (w' : World) (hw : Below W1.heap.size W1 w') => ((H1.out.call hw).reg hb).2
  have p0 := fun (w' : World) (hw : Below W1.heap.size W1 w') => ((H1.out.call hw).reg hc).1
  have p1 := fun (w' : World) (hw : Below W1.heap.size W1 w') => ((H1.out.call hw).reg hc).2
  rw [hV.out] at q0 q1
  rw [hU.out] at p0 p1
  have hb0 : (0 : Int) ≤ (b : Int) := by omega
  have hb1 : (b : Int) < 8 := by omega
  have hc0 : (0 : Int) ≤ (c : Int) := by omega
  have hc1 : (c : Int) < 8 := by omega
  go_region_held3 (fun w' => Below W1.heap.size W1 w') (first | exact below_draws (Below.refl _ _) 1 | exact drew1 _ _ | exact bb | exact (bb.setCell (Nat.le_refl _) _).setCell (Nat.le_refl _) _ | exact bb.alloc bb.size _ | exact ((bb.alloc bb.size _).setCell bb.size _).setCell bb.size _)
    (first
      | (go_at_call 137; refine (ca (W1.alloc (.cells #[.int .u64 0, .int .u64 0] 33)).drew).mono ?_; rintro e w5 ⟨rfl, hb5⟩; have bb := (drew1 W1 _).trans (hb5.mono (drew1 W1 _).size); have y5 := row_drew1 W1 33 [.int .u64 0, .int .u64 0] hb5; have n0 := y5.cell (k := 0) rfl; have n1 := y5.cell (k := 1) rfl; have n2 := y5.free 0; have n3 := y5.free 1; have Y5 := hide y5; clear hb5 y5)
      | (go_at_call 137; refine (ca (W1.drewN _)).mono ?_; rintro e w5 ⟨rfl, hb5⟩; have bb := Below.trans (below_draws (Below.refl _ _) _) hb5; clear hb5))
  · obtain ⟨W6, hW6⟩ : ∃ W6, w5.alloc (.cells #[.int .u64 (lo R), .int .u64 (hi R)] 33) = W6 := ⟨_, rfl⟩
    obtain ⟨Y, hY⟩ : ∃ Y, w5.heap.size = Y := ⟨_, rfl⟩
    have Y6 := hide (show Row W6 Y 33 [.int .u64 (lo R), .int .u64 (hi R)] by rw [← hW6, ← hY]; exact Row.new w5 _ _)
    have bW := hide (show Below W1.heap.size W1 W6 by rw [← hW6]; exact bb.alloc bb.size _)
    have HY := hide hY
    have HW6 := hide hW6
    clear hY hW6 bb
    go_upto_region 2 with (fail)
    rw [HW6.out, HY.out]
    clear x0 x2 x3 q0 q1 p0 p1 ca
    have x1 := (R1.out.call bW.out).cell (k := 1) rfl
    have y0 := Y6.out.cell (k := 0) rfl
    have y1 := Y6.out.cell (k := 1) rfl
    have H6 := hide (H1.out.call bW.out)
    have B6 := hide (B1.out.trans (bW.out.mono H1.out.bl))
    cases B with
    | false =>
      have ce := cend_any 2 W6 H6
      go_wp2_with fail
      refine ce.mono ?_
      rintro e w7 ⟨rfl, h7, hg7⟩
      have H7 := hide h7
      have B7 := hide (B6.out.trans (H6.out.gB hg7))
      clear ce h7 hg7
      go_wp2_with fail
      (try simp only [Exit.inBlock, Exit.then])
      refine bodyPost_ret (results_none rfl _ _ _) rfl ?_
      exact ⟨rfl, H7.out, B7.out⟩
    | true =>
      obtain ⟨r0, r1⟩ := H6.out.reg ha
      have z0 := H6.out.row.free (a * 2)
      have z1 := H6.out.row.free (a * 2 + 1)
      go_wp2_with (first | go_region)
      go_end0
      exact ⟨rfl, (H6.out.setReg ha R).drewN 1, below_draws (B6.out.trans (H6.out.setRegB a _ _)) 1⟩
  · obtain ⟨W6, hW6⟩ : ∃ W6, (w5.setCell ⟨W1.heap.size, 0, none⟩ (.int .u64 (lo R))).setCell ⟨W1.heap.size, 1, none⟩ (.int .u64 (hi R)) = W6 := ⟨_, rfl⟩
    obtain ⟨Y, hY⟩ : ∃ Y, W1.heap.size = Y := ⟨_, rfl⟩
    have Y6 := hide (show Row W6 Y 33 [.int .u64 (lo R), .int .u64 (hi R)] by rw [← hW6, ← hY]; exact (Y5.out.set_ 0 (.int .u64 (lo R))).set_ 1 (.int .u64 (hi R)))
    have bW := hide (show Below W1.heap.size W1 W6 by rw [← hW6]; exact (bb.setCell (p := ⟨W1.heap.size, 0, none⟩) (Nat.le_refl _) _).setCell (p := ⟨W1.heap.size, 1, none⟩) (Nat.le_refl _) _)
    have HY := hide hY
    have HW6 := hide hW6
    clear hW6 bb n0 n1 n2 n3
    go_upto_region 2 with (fail)
    rw [HW6.out, hY]
    clear hY
    clear x0 x2 x3 q0 q1 p0 p1 ca
    have x1 := (R1.out.call bW.out).cell (k := 1) rfl
    have y0 := Y6.out.cell (k := 0) rfl
    have y1 := Y6.out.cell (k := 1) rfl
    have H6 := hide (H1.out.call bW.out)
    have B6 := hide (B1.out.trans (bW.out.mono H1.out.bl))
    cases B with
    | false =>
      have ce := cend_any 2 W6 H6
      go_wp2_with fail
      refine ce.mono ?_
      rintro e w7 ⟨rfl, h7, hg7⟩
      have H7 := hide h7
      have B7 := hide (B6.out.trans (H6.out.gB hg7))
      clear ce h7 hg7
      go_wp2_with fail
      (try simp only [Exit.inBlock, Exit.then])
      refine bodyPost_ret (results_none rfl _ _ _) rfl ?_
      exact ⟨rfl, H7.out, B7.out⟩
    | true =>
      obtain ⟨r0, r1⟩ := H6.out.reg ha
      have z0 := H6.out.row.free (a * 2)
      have z1 := H6.out.row.free (a * 2 + 1)
      go_wp2_with (first | go_region)
      go_end0
      exact ⟨rfl, (H6.out.setReg ha R).drewN 1, below_draws (B6.out.trans (H6.out.setRegB a _ _)) 1⟩
end
end Go.Proofs.YtlkcjjalkdlicaaDoor
end
