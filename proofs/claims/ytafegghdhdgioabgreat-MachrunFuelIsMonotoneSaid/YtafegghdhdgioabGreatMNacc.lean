import Derived.Test.YtafegghdhdgioabGreatMNlea
import Derived.Test.YtafegghdhdgioabGreatMKld
import Derived.Test.YtafegghdhdgioabGreatMMtgm
set_option linter.unusedVariables false
set_option linter.unusedSimpArgs false
section
/-
  The contracts of the machine's accessed and access (chapter 12). Conditions: those of the types; the access lies on the stack.
-/
namespace Go.Proofs.YtafegghdhdgioabGreat
open Go.RowKit

section
variable {g base fu T0 : Nat} {vi vt vf vs : Value} {A1 A2 : Option Addr} {c1 c2 : Nat} {s : Tm}
set_option maxHeartbeats 1000000 in
theorem taccd_ok (w : World) (h : Hid (TmAt w g base fu T0 vi vt vf A1 c1 A2 c2 vs s)) :
    Calls Tryz.prog 98 #[.pointer (some ⟨g, 0, none⟩), .bool true, .int .i64 0] w fun e w' => e = .returned (.tuple #[]) ∧ Below w.heap.size w w' := by
  go_enter Tryz.func98, Tryz.ntmps98
  go_wp2_with fail
  go_end0
  exact ⟨rfl, Below.refl _ _⟩
set_option maxHeartbeats 1000000 in
theorem taccd_undef (w : World) (h : Hid (TmAt w g base fu T0 vi vt vf A1 c1 A2 c2 vs s)) :
    Calls Tryz.prog 98 #[.pointer (some ⟨g, 0, none⟩), .bool false, .int .i64 0] w fun e w' => e = .returned (.tuple #[]) ∧ TmAt w' g base fu T0 vi vt vf A1 c1 A2 c2 vs (s.stop 3) ∧ CKp w w' g base := by
  have cn := coEnd_any 3 w (hide h.out.core)
  go_enter Tryz.func98, Tryz.ntmps98
  go_wp2_with fail
  refine cn.mono ?_
  rintro e w6 ⟨rfl, h6, k6⟩
  have H6 := hide (h.out.cored h6 (k6.weak h.out.core.tr))
  have K6 := hide (k6.weak h.out.core.tr)
  clear h6 k6 cn
  go_wp2_with fail
  go_end0
  exact ⟨rfl, H6.out, K6.out⟩
/-- Where the access's instruction lies. -/
theorem tacc_box (w : World) (op a b d m : Int) (h : Hid (TmAt w g base fu T0 vi vt vf A1 c1 A2 c2 vs s)) : ∃ W1, w.alloc (.cells #[.int .i64 op, .int .i64 a, .int .i64 b, .int .i64 d, .int .u64 m] 52) = W1 ∧ Hid (Row W1 w.heap.size 52 [.int .i64 op, .int .i64 a, .int .i64 b, .int .i64 d, .int .u64 m]) ∧ Hid (TmAt W1 g base fu T0 vi vt vf A1 c1 A2 c2 vs s) ∧ Hid (Below base w W1) :=
  ⟨_, rfl, hide (Row.new w _ _), hide (h.out.alloc _), hide ((below1 w _).mono h.out.bl)⟩
set_option maxRecDepth 100000 in
set_option maxHeartbeats 4000000 in
theorem tacc_17 (a b d m : Int) (w : World) (ha : AccOk T0 s ⟨17, a, b, d, m⟩) (hlen : T0 ≤ s.mem.bs.length) (h : Hid (TmAt w g base fu T0 vi vt vf A1 c1 A2 c2 vs s)) :
    Calls Tryz.prog 67 #[.pointer (some ⟨g, 0, none⟩), iv 17 a b d m] w (TPost g base fu T0 vf (s.access ⟨17, a, b, d, m⟩) w) := by
  have hsz : szB d = true := ha.sz
  have hs1 := sz_pos hsz
  obtain ⟨r1, r2⟩ := ha.wr (show ¬ (17 : Int) = 15 by decide)
  obtain ⟨r3, r4⟩ := ha.rd (show ¬ (17 : Int) = 16 by decide)
  dsimp only at r1 r2 r3 r4
  have hf1 : fitB s.mem a d = true := fit_of hsz r1 (by omega)
  have hf2 : fitB s.mem b d = true := fit_of hsz r3 (by omega)
  obtain ⟨a', rfl⟩ : ∃ k : Nat, a = (k : Int) := ⟨a.toNat, by omega⟩
  obtain ⟨b', rfl⟩ : ∃ k : Nat, b = (k : Int) := ⟨b.toNat, by omega⟩
  obtain ⟨d', rfl⟩ : ∃ k : Nat, d = (k : Int) := ⟨d.toNat, by omega⟩
  simp only [Int.toNat_natCast] at r2 r4
  obtain ⟨W1, hW1, R1, H1, B1⟩ := tacc_box w 17 (a' : Int) (b' : Int) (d' : Int) m h
  have HW1 := hide hW1
  have hgX := hide (show w.heap.size ≠ g by have := h.out.gl; omega)
  have x0 := R1.out.cell (k := 0) rfl
  have x1 := R1.out.cell (k := 1) rfl
  have x2 := R1.out.cell (k := 2) rfl
  have x3 := R1.out.cell (k := 3) rfl
  have cm := fun q => mmove_any (a' : Int) (b' : Int) (d' : Int) (W1.drewN q) (hide (H1.out.drewN q).mem)
  have hA : s.access ⟨17, (a' : Int), (b' : Int), (d' : Int), m⟩ = if usedB s.mem (s.mem.sp + b') d' = false then s.stop 3 else { s with mem := putS s.mem (s.mem.sp + a') (cutS s.mem (s.mem.sp + b') d') } := by
    unfold Tm.access
    dsimp only
    rw [if_neg (by decide), if_neg (by decide), if_neg (by rw [hf1, hf2]; simp)]
    rfl
  rw [hA]
  clear hW1 hA
  cases hu : usedB s.mem (s.mem.sp + b') d' with
  | false =>
    obtain ⟨hE, hB, hR⟩ := move_undef hf1 hf2 hu
    rw [hE, hB, hR] at cm
    clear hE hB hR hf1 hf2 hu
    go_enter Tryz.func67, Tryz.ntmps67
    go_upto_region 1 with (fail)
    rw [HW1.out]
    clear HW1
    go_upto_region 9 with (fail)
    go_region_held3 (fun w' => w'.cell? ⟨w.heap.size, 1, none⟩ = some (.int .i64 (a' : Int)) ∧ w'.cell? ⟨w.heap.size, 2, none⟩ = some (.int .i64 (b' : Int)) ∧ w'.cell? ⟨w.heap.size, 3, none⟩ = some (.int .i64 (d' : Int))) (first | go_keep | exact m5 | exact m6)
      (first
        | (go_at_call 100; refine (cm _).mono ?_; rintro e w5 ⟨rfl, h5, k5⟩; have H5 := hide ((H1.out.drewN _).stored h5 k5 rfl rfl); have B5 := hide ((H1.out.drewN _).belowM k5); have R5 := hide (k5.row (R1.out.drewN _) hgX.out (.inr ⟨by decide, by decide⟩)); have m5 := (⟨R5.out.cell (k := 1) rfl, R5.out.cell (k := 2) rfl, R5.out.cell (k := 3) rfl⟩ : w5.cell? ⟨w.heap.size, 1, none⟩ = some (.int .i64 (a' : Int)) ∧ w5.cell? ⟨w.heap.size, 2, none⟩ = some (.int .i64 (b' : Int)) ∧ w5.cell? ⟨w.heap.size, 3, none⟩ = some (.int .i64 (d' : Int))); clear h5 k5)
        | (go_at_call 98; refine (taccd_undef w5 H5).mono ?_; rintro e w6 ⟨rfl, h6, k6⟩; have H6 := hide h6; have B6 := hide (H5.out.belowC k6); have R6 := hide (k6.row R5.out hgX.out (.inr (by decide))); have m6 := (⟨R6.out.cell (k := 1) rfl, R6.out.cell (k := 2) rfl, R6.out.cell (k := 3) rfl⟩ : w6.cell? ⟨w.heap.size, 1, none⟩ = some (.int .i64 (a' : Int)) ∧ w6.cell? ⟨w.heap.size, 2, none⟩ = some (.int .i64 (b' : Int)) ∧ w6.cell? ⟨w.heap.size, 3, none⟩ = some (.int .i64 (d' : Int))); clear h6 k6))
    all_goals
      go_wp2_with fail
      go_end0
      exact ⟨rfl, H6.out.in_, ((below_draws B1.out _).trans B5.out).trans B6.out⟩
  | true =>
    obtain ⟨hE, hB, hR⟩ := move_yes hf1 hf2 hu
    rw [hE, hB, hR] at cm
    have hPL := hide (put_len (S := s.mem) (a := s.mem.sp + a') (zs := cutS s.mem (s.mem.sp + b') d') (by rw [cut_len (by omega)]; omega))
    clear hE hB hR hf1 hf2 hu
    go_enter Tryz.func67, Tryz.ntmps67
    go_upto_region 1 with (fail)
    rw [HW1.out]
    clear HW1
    go_upto_region 9 with (fail)
    go_region_held3 (fun w' => w'.cell? ⟨w.heap.size, 1, none⟩ = some (.int .i64 (a' : Int)) ∧ w'.cell? ⟨w.heap.size, 2, none⟩ = some (.int .i64 (b' : Int)) ∧ w'.cell? ⟨w.heap.size, 3, none⟩ = some (.int .i64 (d' : Int))) (first | go_keep | exact m5 | exact m6)
      (first
        | (go_at_call 100; refine (cm _).mono ?_; rintro e w5 ⟨rfl, h5, k5⟩; have H5 := hide ((H1.out.drewN _).stored h5 k5 hPL.out rfl); have B5 := hide ((H1.out.drewN _).belowM k5); have R5 := hide (k5.row (R1.out.drewN _) hgX.out (.inr ⟨by decide, by decide⟩)); have m5 := (⟨R5.out.cell (k := 1) rfl, R5.out.cell (k := 2) rfl, R5.out.cell (k := 3) rfl⟩ : w5.cell? ⟨w.heap.size, 1, none⟩ = some (.int .i64 (a' : Int)) ∧ w5.cell? ⟨w.heap.size, 2, none⟩ = some (.int .i64 (b' : Int)) ∧ w5.cell? ⟨w.heap.size, 3, none⟩ = some (.int .i64 (d' : Int))); clear h5 k5)
        | (go_at_call 98; refine (taccd_ok w5 H5).mono ?_; rintro e w6 ⟨rfl, b6⟩; have H6 := hide (H5.out.call b6); have B6 := hide (b6.mono H5.out.bl); have R6 := hide (R5.out.call b6); have m6 := (⟨R6.out.cell (k := 1) rfl, R6.out.cell (k := 2) rfl, R6.out.cell (k := 3) rfl⟩ : w6.cell? ⟨w.heap.size, 1, none⟩ = some (.int .i64 (a' : Int)) ∧ w6.cell? ⟨w.heap.size, 2, none⟩ = some (.int .i64 (b' : Int)) ∧ w6.cell? ⟨w.heap.size, 3, none⟩ = some (.int .i64 (d' : Int))); clear b6))
    all_goals
      go_wp2_with fail
      go_end0
      exact ⟨rfl, H6.out.in_, ((below_draws B1.out _).trans B5.out).trans B6.out⟩
set_option maxRecDepth 100000 in
set_option maxHeartbeats 4000000 in
theorem tacc_16 (a b d m : Int) (w : World) (ha : AccOk T0 s ⟨16, a, b, d, m⟩) (hlen : T0 ≤ s.mem.bs.length) (hX : s.c.reg b < two128) (h : Hid (TmAt w g base fu T0 vi vt vf A1 c1 A2 c2 vs s)) :
    Calls Tryz.prog 67 #[.pointer (some ⟨g, 0, none⟩), iv 16 a b d m] w (TPost g base fu T0 vf (s.access ⟨16, a, b, d, m⟩) w) := by
  have hsz : szB d = true := ha.sz
  have hs1 := sz_pos hsz
  obtain ⟨r1, r2⟩ := ha.wr (show ¬ (16 : Int) = 15 by decide)
  dsimp only at r1 r2
  have hf1 : fitB s.mem a d = true := fit_of hsz r1 (by omega)
  obtain ⟨a', rfl⟩ : ∃ k : Nat, a = (k : Int) := ⟨a.toNat, by omega⟩
  obtain ⟨d', rfl⟩ : ∃ k : Nat, d = (k : Int) := ⟨d.toNat, by omega⟩
  simp only [Int.toNat_natCast] at r2
  obtain ⟨W1, hW1, R1, H1, B1⟩ := tacc_box w 16 (a' : Int) b (d' : Int) m h
  have HW1 := hide hW1
  have hgX := hide (show w.heap.size ≠ g by have := h.out.gl; omega)
  have x0 := R1.out.cell (k := 0) rfl
  have x1 := R1.out.cell (k := 1) rfl
  have x2 := R1.out.cell (k := 2) rfl
  have x3 := R1.out.cell (k := 3) rfl
  have hA : s.access ⟨16, (a' : Int), b, (d' : Int), m⟩ = { s with mem := storeS s.mem (s.mem.sp + a') d' (s.c.reg b) } := by
    unfold Tm.access
    dsimp only
    rw [if_neg (by decide), if_pos rfl, if_neg (by rw [hf1]; decide)]
    rfl
  rw [hA]
  obtain ⟨V, hV⟩ : ∃ V, s.c.reg b = V := ⟨_, rfl⟩
  have cr := fun q => coReg_any b (W1.drewN q) (hide (H1.out.drewN q).core)
  rw [hV] at cr hX ⊢
  have cs := fun (W : World) (hb : Below W1.heap.size W1 W) => mstore_any (a' : Int) (d' : Int) V hX W (hide (H1.out.call hb).mem)
  obtain ⟨hE, hR⟩ := store_yes (X := V) hf1
  rw [hE, hR] at cs
  have hPL := hide (show (storeS s.mem (s.mem.sp + a') d' V).bs.length = s.mem.bs.length from put_len (by rw [bytesV_length]; omega))
  clear hW1 hA hE hR hf1 hV
  go_enter Tryz.func67, Tryz.ntmps67
  go_upto_region 1 with (fail)
  rw [HW1.out]
  clear HW1
  go_upto_region 7 with (fail)
  go_region_held3 (fun w' => w'.cell? ⟨w.heap.size, 1, none⟩ = some (.int .i64 (a' : Int)) ∧ w'.cell? ⟨w.heap.size, 2, none⟩ = some (.int .i64 b) ∧ w'.cell? ⟨w.heap.size, 3, none⟩ = some (.int .i64 (d' : Int))) (first | go_keep | exact m4 | exact m5 | exact m6)
    (first
      | (go_at_call 95; refine (cr _).mono ?_; rintro e w4 ⟨rfl, hb4⟩; have b4 := hide (show Below W1.heap.size W1 w4 from Below.trans (below_draws (Below.refl W1.heap.size W1) _) hb4); have R4 := hide (R1.out.call b4.out); have m4 := (⟨R4.out.cell (k := 1) rfl, R4.out.cell (k := 2) rfl, R4.out.cell (k := 3) rfl⟩ : w4.cell? ⟨w.heap.size, 1, none⟩ = some (.int .i64 (a' : Int)) ∧ w4.cell? ⟨w.heap.size, 2, none⟩ = some (.int .i64 b) ∧ w4.cell? ⟨w.heap.size, 3, none⟩ = some (.int .i64 (d' : Int))); clear hb4)
      | (go_at_call 99; refine (cs w4 b4.out).mono ?_; rintro e w5 ⟨rfl, h5, k5⟩; have H5 := hide ((H1.out.call b4.out).stored h5 k5 hPL.out rfl); have B5 := hide ((H1.out.call b4.out).belowM k5); have R5 := hide (k5.row R4.out hgX.out (.inr ⟨by decide, by decide⟩)); have m5 := (⟨R5.out.cell (k := 1) rfl, R5.out.cell (k := 2) rfl, R5.out.cell (k := 3) rfl⟩ : w5.cell? ⟨w.heap.size, 1, none⟩ = some (.int .i64 (a' : Int)) ∧ w5.cell? ⟨w.heap.size, 2, none⟩ = some (.int .i64 b) ∧ w5.cell? ⟨w.heap.size, 3, none⟩ = some (.int .i64 (d' : Int))); clear h5 k5)
      | (go_at_call 98; refine (taccd_ok w5 H5).mono ?_; rintro e w6 ⟨rfl, b6⟩; have H6 := hide (H5.out.call b6); have B6 := hide (b6.mono H5.out.bl); have R6 := hide (R5.out.call b6); have m6 := (⟨R6.out.cell (k := 1) rfl, R6.out.cell (k := 2) rfl, R6.out.cell (k := 3) rfl⟩ : w6.cell? ⟨w.heap.size, 1, none⟩ = some (.int .i64 (a' : Int)) ∧ w6.cell? ⟨w.heap.size, 2, none⟩ = some (.int .i64 b) ∧ w6.cell? ⟨w.heap.size, 3, none⟩ = some (.int .i64 (d' : Int))); clear b6))
  all_goals
    go_wp2_with fail
    go_end0
    exact ⟨rfl, H6.out.in_, ((B1.out.trans (b4.out.mono H1.out.bl)).trans B5.out).trans B6.out⟩
set_option maxRecDepth 100000 in
set_option maxHeartbeats 4000000 in
theorem tacc_15 (a b d m : Int) (w : World) (ha : AccOk T0 s ⟨15, a, b, d, m⟩) (hlen : T0 ≤ s.mem.bs.length) (h : Hid (TmAt w g base fu T0 vi vt vf A1 c1 A2 c2 vs s)) :
    Calls Tryz.prog 67 #[.pointer (some ⟨g, 0, none⟩), iv 15 a b d m] w (TPost g base fu T0 vf (s.access ⟨15, a, b, d, m⟩) w) := by
  have hsz : szB d = true := ha.sz
  have hs1 := sz_pos hsz
  obtain ⟨r3, r4⟩ := ha.rd (show ¬ (15 : Int) = 16 by decide)
  dsimp only at r3 r4
  have hf2 : fitB s.mem b d = true := fit_of hsz r3 (by omega)
  have hmost := h.out.own.ok.most
  obtain ⟨b', rfl⟩ : ∃ k : Nat, b = (k : Int) := ⟨b.toNat, by omega⟩
  obtain ⟨d', rfl⟩ : ∃ k : Nat, d = (k : Int) := ⟨d.toNat, by omega⟩
  simp only [Int.toNat_natCast] at r4
  obtain ⟨W1, hW1, R1, H1, B1⟩ := tacc_box w 15 a (b' : Int) (d' : Int) m h
  have HW1 := hide hW1
  have x0 := R1.out.cell (k := 0) rfl
  obtain ⟨V, u, hV, hu, hA⟩ : ∃ V u, loadV s.mem (b' : Int) (d' : Int) = V ∧ loadB s.mem (b' : Int) (d' : Int) = u ∧ s.access ⟨15, a, (b' : Int), (d' : Int), m⟩ = if u = true then { s with c := s.c.setR a V } else ({ s with c := s.c.setR a V } : Tm).stop 3 := by
    refine ⟨_, _, rfl, rfl, ?_⟩
    unfold Tm.access
    dsimp only
    rw [if_pos rfl, if_neg (by rw [hf2]; decide)]
    simp only [Int.toNat_natCast]
    cases hub : usedB s.mem (s.mem.sp + b') d' with
    | false =>
      obtain ⟨_, e2, e3⟩ := load_undef hf2 hub
      rw [e2, e3]
      rfl
    | true =>
      obtain ⟨_, e2, e3⟩ := load_yes hf2 hub
      rw [e2, e3, List.take_of_length_le (by rw [cut_len (by omega)]; omega)]
      rfl
  have hE : fitE s.mem (b' : Int) (d' : Int) = 0 := by simp [fitE, hf2]
  have cl : ∀ W, Below W1.heap.size W1 W → Calls Tryz.prog 96 #[sv A1 c1 A2 c2 s.mem, .int .i64 (b' : Int), .int .i64 (d' : Int)] W fun e w' => e = .returned (.tuple #[vv V, .bool u, .int .i64 0]) ∧ Below W.heap.size W w' := fun W hW => by
    have := load_any (A1 := A1) (A2 := A2) (c1 := c1) (c2 := c2) (b' : Int) (d' : Int) (by constructor <;> omega) W (hide (H1.out.call hW).own.at_)
    unfold LoadPost at this
    rwa [hV, hu, hE] at this
  have CL := hide cl
  rw [hA]
  clear hW1 hA hf2 hV hu hE cl
  have x2 := fun (w' : World) (hb : Below W1.heap.size W1 w') => (R1.out.call hb).cell (k := 2) rfl
  have x3 := fun (w' : World) (hb : Below W1.heap.size W1 w') => (R1.out.call hb).cell (k := 3) rfl
  have y1 := fun (w' : World) (hb : Below W1.heap.size W1 w') => (H1.out.call hb).far 1 rfl
  have y2 := fun (w' : World) (hb : Below W1.heap.size W1 w') => (H1.out.call hb).far 2 rfl
  have y3 := fun (w' : World) (hb : Below W1.heap.size W1 w') => (H1.out.call hb).far 3 rfl
  cases u with
  | true =>
    go_enter Tryz.func67, Tryz.ntmps67
    go_upto_region 1 with (fail)
    rw [HW1.out]
    clear HW1
    go_upto_region 3 with (fail)
    go_region_held3 (fun w' => Below W1.heap.size W1 w') (first | exact bb | exact below_draws (Below.refl _ _) 1 | exact drew1 _ _ | exact (bb.setCell (Nat.le_refl _) _).setCell (Nat.le_refl _) _ | exact bb.alloc bb.size _ | exact ((bb.alloc bb.size _).setCell bb.size _).setCell bb.size _)
      (first
        | (go_at_call 96; with_reducible refine Calls.mono (CL.out _ (by first | exact bb | exact bb.drew | exact (Below.refl _ _).drew)) ?_; rintro e w5 ⟨rfl, hb5⟩; have bb := below_call (show Below W1.heap.size W1 _ from by first | exact bb | exact bb.drew | exact (Below.refl _ _).drew) hb5; clear hb5)
        | (go_at_call 96; with_reducible refine Calls.mono (CL.out (W1.alloc (.cells #[.int .u64 0, .int .u64 0] 38)).drew (drew1 W1 _)) ?_; rintro e w5 ⟨rfl, hb5⟩; have bb := below_call (drew1 W1 _) hb5; have y7 := row_drew1 W1 38 [.int .u64 0, .int .u64 0] hb5; have n0 := y7.cell (k := 0) rfl; have n1 := y7.cell (k := 1) rfl; have n2 := y7.free 0; have n3 := y7.free 1; have Y5 := hide y7; clear hb5 y7))
    all_goals
      first
        | (obtain ⟨W6, hW6⟩ : ∃ W6, (w5.setCell ⟨W1.heap.size, 0, none⟩ (.int .u64 (lo V))).setCell ⟨W1.heap.size, 1, none⟩ (.int .u64 (hi V)) = W6 := ⟨_, rfl⟩; obtain ⟨Y, hY⟩ : ∃ Y, W1.heap.size = Y := ⟨_, rfl⟩; have Y6 := hide (show Row W6 Y 38 [.int .u64 (lo V), .int .u64 (hi V)] by rw [← hW6, ← hY]; exact (Y5.out.set_ 0 (.int .u64 (lo V))).set_ 1 (.int .u64 (hi V))); have bW := hide (show Below W1.heap.size W1 W6 by rw [← hW6]; exact (bb.setCell (p := ⟨W1.heap.size, 0, none⟩) (Nat.le_refl _) _).setCell (p := ⟨W1.heap.size, 1, none⟩) (Nat.le_refl _) _); clear n0 n1 n2 n3 Y5)
        | (obtain ⟨W6, hW6⟩ : ∃ W6, w5.alloc (.cells #[.int .u64 (lo V), .int .u64 (hi V)] 38) = W6 := ⟨_, rfl⟩; obtain ⟨Y, hY⟩ : ∃ Y, w5.heap.size = Y := ⟨_, rfl⟩; have Y6 := hide (show Row W6 Y 38 [.int .u64 (lo V), .int .u64 (hi V)] by rw [← hW6, ← hY]; exact Row.new w5 _ _); have bW := hide (show Below W1.heap.size W1 W6 by rw [← hW6]; exact bb.alloc bb.size _))
      have HW6 := hide hW6
      have HY := hide hY
      clear hW6 hY bb x2 x3 y1 y2 y3 CL
      go_upto_region 4 with (fail)
      rw [HW6.out, HY.out]
      have H6 := hide (H1.out.call bW.out)
      have B6 := hide (B1.out.trans (bW.out.mono H1.out.bl))
      have z1 := fun p : After W6 => after_cell ((R1.out.call bW.out).cell (k := 1) rfl) p
      have z2 := fun p : After W6 => after_cell (Y6.out.cell (k := 0) rfl) p
      have z3 := fun p : After W6 => after_cell (Y6.out.cell (k := 1) rfl) p
      refine wp_region_last 6 (by kernel_rfl) rfl rfl (by kernel_rfl) (by kernel_rfl) (by kernel_rfl) (C := fun w' => ∃ p : After W6, w' = p.w) ⟨⟨W6.drew, (Below.refl _ _).drew⟩, rfl⟩ ?_
      dsimp only [List.take_succ_cons, List.take_zero]
      repeat (go_big_quiet_step (fail))
      refine wpQuiet_nil ?_
      intro _ hw'
      obtain ⟨p1, hw''⟩ := hw'
      subst hw''
      have cs := coSet_any a V p1.w (hide (H6.out.call p1.b).core)
      clear z1 z2 z3
      go_wp2_with fail
      go_fit cs
      rintro e w7 ⟨rfl, h7, k7⟩
      have H7 := hide ((H6.out.call p1.b).cored h7 (k7.weak (H6.out.call p1.b).core.tr))
      have B7 := hide (B6.out.trans ((p1.b.mono H6.out.bl).trans ((H6.out.call p1.b).belowC (k7.weak (H6.out.call p1.b).core.tr))))
      clear h7 k7 cs
      have ca := taccd_ok w7 H7
      go_wp2_with fail
      go_fit ca
      rintro e w8 ⟨rfl, b8⟩
      have H8 := hide (H7.out.call b8)
      have B8 := hide (B7.out.trans (b8.mono H7.out.bl))
      clear b8 ca
      go_wp2_with fail
      go_end0
      exact ⟨rfl, H8.out.in_, B8.out⟩
  | false =>
    go_enter Tryz.func67, Tryz.ntmps67
    go_upto_region 1 with (fail)
    rw [HW1.out]
    clear HW1
    go_upto_region 3 with (fail)
    go_region_held3 (fun w' => Below W1.heap.size W1 w') (first | exact bb | exact below_draws (Below.refl _ _) 1 | exact drew1 _ _ | exact (bb.setCell (Nat.le_refl _) _).setCell (Nat.le_refl _) _ | exact bb.alloc bb.size _ | exact ((bb.alloc bb.size _).setCell bb.size _).setCell bb.size _)
      (first
        | (go_at_call 96; with_reducible refine Calls.mono (CL.out _ (by first | exact bb | exact bb.drew | exact (Below.refl _ _).drew)) ?_; rintro e w5 ⟨rfl, hb5⟩; have bb := below_call (show Below W1.heap.size W1 _ from by first | exact bb | exact bb.drew | exact (Below.refl _ _).drew) hb5; clear hb5)
        | (go_at_call 96; with_reducible refine Calls.mono (CL.out (W1.alloc (.cells #[.int .u64 0, .int .u64 0] 38)).drew (drew1 W1 _)) ?_; rintro e w5 ⟨rfl, hb5⟩; have bb := below_call (drew1 W1 _) hb5; have y7 := row_drew1 W1 38 [.int .u64 0, .int .u64 0] hb5; have n0 := y7.cell (k := 0) rfl; have n1 := y7.cell (k := 1) rfl; have n2 := y7.free 0; have n3 := y7.free 1; have Y5 := hide y7; clear hb5 y7))
    all_goals
      first
        | (obtain ⟨W6, hW6⟩ : ∃ W6, (w5.setCell ⟨W1.heap.size, 0, none⟩ (.int .u64 (lo V))).setCell ⟨W1.heap.size, 1, none⟩ (.int .u64 (hi V)) = W6 := ⟨_, rfl⟩; obtain ⟨Y, hY⟩ : ∃ Y, W1.heap.size = Y := ⟨_, rfl⟩; have Y6 := hide (show Row W6 Y 38 [.int .u64 (lo V), .int .u64 (hi V)] by rw [← hW6, ← hY]; exact (Y5.out.set_ 0 (.int .u64 (lo V))).set_ 1 (.int .u64 (hi V))); have bW := hide (show Below W1.heap.size W1 W6 by rw [← hW6]; exact (bb.setCell (p := ⟨W1.heap.size, 0, none⟩) (Nat.le_refl _) _).setCell (p := ⟨W1.heap.size, 1, none⟩) (Nat.le_refl _) _); clear n0 n1 n2 n3 Y5)
        | (obtain ⟨W6, hW6⟩ : ∃ W6, w5.alloc (.cells #[.int .u64 (lo V), .int .u64 (hi V)] 38) = W6 := ⟨_, rfl⟩; obtain ⟨Y, hY⟩ : ∃ Y, w5.heap.size = Y := ⟨_, rfl⟩; have Y6 := hide (show Row W6 Y 38 [.int .u64 (lo V), .int .u64 (hi V)] by rw [← hW6, ← hY]; exact Row.new w5 _ _); have bW := hide (show Below W1.heap.size W1 W6 by rw [← hW6]; exact bb.alloc bb.size _))
      have HW6 := hide hW6
      have HY := hide hY
      clear hW6 hY bb x2 x3 y1 y2 y3 CL
      go_upto_region 4 with (fail)
      rw [HW6.out, HY.out]
      have H6 := hide (H1.out.call bW.out)
      have B6 := hide (B1.out.trans (bW.out.mono H1.out.bl))
      have z1 := fun p : After W6 => after_cell ((R1.out.call bW.out).cell (k := 1) rfl) p
      have z2 := fun p : After W6 => after_cell (Y6.out.cell (k := 0) rfl) p
      have z3 := fun p : After W6 => after_cell (Y6.out.cell (k := 1) rfl) p
      refine wp_region_last 6 (by kernel_rfl) rfl rfl (by kernel_rfl) (by kernel_rfl) (by kernel_rfl) (C := fun w' => ∃ p : After W6, w' = p.w) ⟨⟨W6.drew, (Below.refl _ _).drew⟩, rfl⟩ ?_
      dsimp only [List.take_succ_cons, List.take_zero]
      repeat (go_big_quiet_step (fail))
      refine wpQuiet_nil ?_
      intro _ hw'
      obtain ⟨p1, hw''⟩ := hw'
      subst hw''
      have cs := coSet_any a V p1.w (hide (H6.out.call p1.b).core)
      clear z1 z2 z3
      go_wp2_with fail
      go_fit cs
      rintro e w7 ⟨rfl, h7, k7⟩
      have H7 := hide ((H6.out.call p1.b).cored h7 (k7.weak (H6.out.call p1.b).core.tr))
      have B7 := hide (B6.out.trans ((p1.b.mono H6.out.bl).trans ((H6.out.call p1.b).belowC (k7.weak (H6.out.call p1.b).core.tr))))
      clear h7 k7 cs
      have ca := taccd_undef w7 H7
      go_wp2_with fail
      go_fit ca
      rintro e w8 ⟨rfl, h8, k8⟩
      have H8 := hide h8
      have B8 := hide (B7.out.trans (H7.out.belowC k8))
      clear h8 k8 ca
      go_wp2_with fail
      go_end0
      exact ⟨rfl, H8.out.in_, B8.out⟩
theorem tacc_any (x : Ins) (w : World) (ha : AccOk T0 s x) (hlen : T0 ≤ s.mem.bs.length) (hs : SmallC s.c) (h : Hid (TmAt w g base fu T0 vi vt vf A1 c1 A2 c2 vs s)) :
    Calls Tryz.prog 67 #[.pointer (some ⟨g, 0, none⟩), ivI x] w (TPost g base fu T0 vf (s.access x) w) := by
  obtain ⟨op, a, b, d, m⟩ := x
  unfold ivI
  rcases ha.op with h1 | h1 | h1
  · have h1 : op = 15 := h1
    subst h1
    exact tacc_15 a b d m w ha hlen h
  · have h1 : op = 16 := h1
    subst h1
    exact tacc_16 a b d m w ha hlen (hs.reg b) h
  · have h1 : op = 17 := h1
    subst h1
    exact tacc_17 a b d m w ha hlen h
end
end Go.Proofs.YtafegghdhdgioabGreat
end
