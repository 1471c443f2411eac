import Derived.Test.YtlcmcmocjbeocaaGreatDoorMJmath
import Derived.Test.YtlcmcmocjbeocaaGreatDoorMQputi
import Derived.Test.YtlcmcmocjbeocaaGreatDoorMMrw
import Derived.Test.YtlcmcmocjbeocaaGreatDoorMQopd
import Derived.Test.YtlcmcmocjbeocaaGreatDoorMPmem
import Derived.Test.YtlcmcmocjbeocaaGreatDoorMBitsm
import Derived.Deep.DeepCutAuto
import Derived.Outline
set_option linter.unusedVariables false
set_option linter.unusedSimpArgs false
section
/-
  The reference's PutInstr, for the instructions of a target. Conditions: those of the types; the instruction can be written.
-/
namespace Go.Proofs.YtlcmcmocjbeocaaGreatDoor
open Go.RowKit

theorem mshapes_of {z : Int} (h0 : 0 ≤ z) (h1 : z < 25) : (mA z = true ∧ mB z = true ∧ mC z = true ∧ mI z = false) ∨ (mA z = true ∧ mB z = true ∧ mC z = false ∧ mI z = false) ∨ (mA z = true ∧ mB z = false ∧ mC z = false ∧ mI z = false) ∨ (mA z = true ∧ mB z = false ∧ mC z = false ∧ mI z = true) ∨ (mA z = false ∧ mB z = false ∧ mC z = false ∧ mI z = true) ∨ (mA z = false ∧ mB z = false ∧ mC z = false ∧ mI z = false) := by
  rcases m25 h0 h1 with rfl | rfl | rfl | rfl | rfl | rfl | rfl | rfl | rfl | rfl | rfl | rfl | rfl | rfl | rfl | rfl | rfl | rfl | rfl | rfl | rfl | rfl | rfl | rfl | rfl <;> decide
theorem rputm_any (A : Option Addr) (n c : Nat) (zs : List Int) (x : Ins) (B : Nat) (w : World) (hA : Hid (A = none → c = 0)) (hnc : Hid (n ≤ c)) (hn : Hid (zs.length = n)) (hm : n ≤ 1073741824) (hs : Hid (Sees w B A (cellsU8 zs))) (hB : Hid (B ≤ w.heap.size)) (hx : Hid (MInsW x)) :
    Calls Tryz.prog 40 #[.slice A n c, iv x.op x.a x.b x.c x.imm, .bool (mA x.op), .bool (mB x.op), .bool (mC x.op), .bool (mI x.op)] w fun e w' => ∃ r l, e = .returned r ∧ l = n + (minsY x).length ∧ w'.ownsRow w.heap.size 5 1 r l (cellsU8 (zs ++ minsY x)) ∧ Below w.heap.size w w' := by
  have h := hx.out
  obtain ⟨o, a, p, d, m⟩ := x
  have h1 := h.o
  have h2 := h.a
  have h3 := h.b
  have h4 := h.c
  have h5 := h.m
  simp only at h1 h2 h3 h4 h5
  have hl : ∀ ua ub uc ui : Bool, n + 1 + (opsY ua ub uc ui ⟨o, a, p, d, m⟩).length = n + (o :: opsY ua ub uc ui ⟨o, a, p, d, m⟩).length := fun _ _ _ _ => by simp; omega
  unfold minsY
  simp only
  rcases mshapes_of h1.1 h1.2 with ⟨a1, a2, a3, a4⟩ | ⟨a1, a2, a3, a4⟩ | ⟨a1, a2, a3, a4⟩ | ⟨a1, a2, a3, a4⟩ | ⟨a1, a2, a3, a4⟩ | ⟨a1, a2, a3, a4⟩
  · rw [a1, a2, a3, a4]
    exact (rputi_aaa A n c zs o a p d m B w hA hnc hn hm hs hB h1.1 (by omega) h2 h3 h4 h5).mono fun e w' ⟨r, l, e1, e2, e3, e4⟩ => ⟨r, l, e1, by rw [e2]; exact hl _ _ _ _, e3, e4⟩
  · rw [a1, a2, a3, a4]
    exact (rputi_aa A n c zs o a p d m B w hA hnc hn hm hs hB h1.1 (by omega) h2 h3 h4 h5).mono fun e w' ⟨r, l, e1, e2, e3, e4⟩ => ⟨r, l, e1, by rw [e2]; exact hl _ _ _ _, e3, e4⟩
  · rw [a1, a2, a3, a4]
    exact (rputi_a A n c zs o a p d m B w hA hnc hn hm hs hB h1.1 (by omega) h2 h3 h4 h5).mono fun e w' ⟨r, l, e1, e2, e3, e4⟩ => ⟨r, l, e1, by rw [e2]; exact hl _ _ _ _, e3, e4⟩
  · rw [a1, a2, a3, a4]
    exact (rputi_ai A n c zs o a p d m B w hA hnc hn hm hs hB h1.1 (by omega) h2 h3 h4 h5).mono fun e w' ⟨r, l, e1, e2, e3, e4⟩ => ⟨r, l, e1, by rw [e2]; exact hl _ _ _ _, e3, e4⟩
  · rw [a1, a2, a3, a4]
    exact (rputi_i A n c zs o a p d m B w hA hnc hn hm hs hB h1.1 (by omega) h2 h3 h4 h5).mono fun e w' ⟨r, l, e1, e2, e3, e4⟩ => ⟨r, l, e1, by rw [e2]; exact hl _ _ _ _, e3, e4⟩
  · rw [a1, a2, a3, a4]
    exact (rputi_o A n c zs o a p d m B w hA hnc hn hm hs hB h1.1 (by omega) h2 h3 h4 h5).mono fun e w' ⟨r, l, e1, e2, e3, e4⟩ => ⟨r, l, e1, by rw [e2]; exact hl _ _ _ _, e3, e4⟩
end Go.Proofs.YtlcmcmocjbeocaaGreatDoor
end

section
/-
  The contracts of the reference's Bound, Right, Inside. Conditions: those of the types.
-/
namespace Go.Proofs.YtlcmcmocjbeocaaGreatDoor
open Go.RowKit
attribute [local go_sem ↓] Go.wp_at_zero Go.wp_at_succ

theorem rbound_any (n : Int) (w : World) : Calls Tryz.prog 37 #[.int .i64 n] w fun e w' => e = .returned (.bool (bndB n)) ∧ w = w' := by
  go_enter Tryz.func37, Tryz.ntmps37
  by_cases h : 0 ≤ n
  · go_wp2
    go_ret
    exact ⟨ret_bool (by simp [bndB, h]), rfl⟩
  · go_wp2
    go_ret
    exact ⟨ret_bool (by simp [bndB]; omega), rfl⟩


theorem rright_any (o s : Int) (w : World) : Calls Tryz.prog 147 #[pv o s] w fun e w' => e = .returned (.bool (rightB o s)) ∧ Below w.heap.size w w' := by
  have c1 := rbound_any o
  have c2 := rbound_any s
  have hr := hide (show rightB o s = (bndB o && bndB s && decide (o + s ≤ 2147483647)) from rfl)
  cases h1 : bndB o with
  | false =>
    rw [h1] at c1 hr
    clear h1
    go_enter Tryz.func147, Tryz.ntmps147
    go_wp2_with fail
    refine (c1 _).mono ?_
    rintro e w' ⟨rfl, rfl⟩
    go_wp2_with fail
    go_ret
    exact ⟨ret_bool (by rw [hr.out]; simp), below1 _ _⟩
  | true =>
    cases h2 : bndB s with
    | false =>
      rw [h1] at c1 hr
      rw [h2] at c2 hr
      clear h1 h2
      go_enter Tryz.func147, Tryz.ntmps147
      go_wp2_with fail
      refine (c1 _).mono ?_
      rintro e w' ⟨rfl, rfl⟩
      go_wp2_with fail
      refine (c2 _).mono ?_
      rintro e w' ⟨rfl, rfl⟩
      go_wp2_with fail
      go_ret
      exact ⟨ret_bool (by rw [hr.out]; simp), below1 _ _⟩
    | true =>
      obtain ⟨x0, x1⟩ := bndB_iff.1 h1
      obtain ⟨y0, y1⟩ := bndB_iff.1 h2
      rw [h1] at c1 hr
      rw [h2] at c2 hr
      clear h1 h2
      go_enter Tryz.func147, Tryz.ntmps147
      go_wp2_with fail
      refine (c1 _).mono ?_
      rintro e w' ⟨rfl, rfl⟩
      go_wp2_with fail
      refine (c2 _).mono ?_
      rintro e w' ⟨rfl, rfl⟩
      go_wp2_with fail
      go_ret
      exact ⟨ret_bool (by rw [hr.out]; simp), below1 _ _⟩

theorem rinside_any (o s n : Int) (w : World) : Calls Tryz.prog 109 #[pv o s, .int .i64 n] w fun e w' => e = .returned (.bool (insB o s n)) ∧ Below w.heap.size w w' := by
  have c := rright_any o s
  have r1 := Row.new w 167 [.int .i64 o, .int .i64 s]
  have f1 := r1.cell (k := 0) rfl
  have f2 := r1.cell (k := 1) rfl
  cases hr : rightB o s with
  | false =>
    rw [hr] at c
    have ho := hide (show insB o s n = false by simp [insB, hr])
    clear hr r1
    go_enter Tryz.func109, Tryz.ntmps109
    go_wp2_with fail
    refine (c _).mono ?_
    rintro e w1 ⟨rfl, hb1⟩
    go_wp2_with fail
    go_ret
    exact ⟨ret_bool ho.out.symm, below_call (below1 _ _) hb1⟩
  | true =>
    rw [hr] at c
    have ho := hide (show insB o s n = decide (o + s ≤ n) by simp [insB, hr])
    obtain ⟨b3, b4, b5⟩ := rightB_iff.1 hr
    clear hr r1
    go_enter Tryz.func109, Tryz.ntmps109
    go_wp2_with fail
    refine (c _).mono ?_
    rintro e w1 ⟨rfl, hb1⟩
    have g1 := keep_cellB hb1 f1
    have g2 := keep_cellB hb1 f2
    go_wp2_with fail
    go_ret
    exact ⟨ret_bool ho.out.symm, below_call (below1 _ _) hb1⟩

end Go.Proofs.YtlcmcmocjbeocaaGreatDoor
end

section
/-
  The contracts of the reference's Reads and Writes: what an instruction reads and writes. Conditions: those of the types.
-/
namespace Go.Proofs.YtlcmcmocjbeocaaGreatDoor
open Go.RowKit

set_option maxHeartbeats 400000 in
theorem rreads_any (P S : Int) (A : Option Addr) (n cp : Nat) (o a b c m : Int) (w : World) :
    Calls Tryz.prog 145 #[mv P S A n cp, iv o a b c m] w fun e w' => e = .returned (.tuple #[pv (rdI ⟨o, a, b, c, m⟩).1 (rdI ⟨o, a, b, c, m⟩).2, .bool (rdB o)]) ∧ Below w.heap.size w w' := by
  by_cases h1 : o = 15
  · subst h1
    obtain ⟨W, hW, hbW, hsW, r0, r1, r2⟩ := boxes3 w [.int .i64 P, .int .i64 S, .slice A n cp] [.int .i64 15, .int .i64 a, .int .i64 b, .int .i64 c, .int .u64 m] [.int .i64 0, .int .i64 0] 90 64 167
    have HW := hide hW
    have HB := hide hbW
    have HS := hide hsW
    have R := hide r2
    have x0 := r1.cell (k := 0) rfl
    have x1 := r1.cell (k := 1) rfl
    have x2 := r1.cell (k := 2) rfl
    have x3 := r1.cell (k := 3) rfl
    have y0 := r2.free 0
    have y1 := r2.free 1
    have z0 := r2.cell (k := 0) rfl
    have z1 := r2.cell (k := 1) rfl
    clear hW hbW hsW r0 r1 r2
    go_enter Tryz.func145, Tryz.ntmps145
    go_upto_region 1 with (fail)
    rw [HW.out]
    clear HW
    go_wp2_with fail
    obtain ⟨W7, hW7⟩ : ∃ V, (W.setCell ⟨w.heap.size + 1 + 1, 0, none⟩ (.int .i64 b)).setCell ⟨w.heap.size + 1 + 1, 1, none⟩ (.int .i64 c) = V := ⟨_, rfl⟩
    have R7 : Row W7 (w.heap.size + 1 + 1) 167 [.int .i64 b, .int .i64 c] := by rw [← hW7]; exact (R.out.set_ 0 _).set_ 1 _
    have B7 : Below w.heap.size w W7 := by rw [← hW7]; exact (HB.out.setCell (p := ⟨w.heap.size + 1 + 1, 0, none⟩) (by simp; omega) _).setCell (p := ⟨w.heap.size + 1 + 1, 1, none⟩) (by simp; omega) _
    rw [hW7]
    have u0 := R7.cell (k := 0) rfl
    have u1 := R7.cell (k := 1) rfl
    refine bodyPost_ret (v := .tuple #[pv b c, .bool true]) (by simp [results, Tryz.results145, go_sem, u0, u1]) rfl ?_
    exact ⟨rfl, B7⟩
  · by_cases h2 : o = 17
    · subst h2
      obtain ⟨W, hW, hbW, hsW, r0, r1, r2⟩ := boxes3 w [.int .i64 P, .int .i64 S, .slice A n cp] [.int .i64 17, .int .i64 a, .int .i64 b, .int .i64 c, .int .u64 m] [.int .i64 0, .int .i64 0] 90 64 167
      have HW := hide hW
      have HB := hide hbW
      have HS := hide hsW
      have R := hide r2
      have x0 := r1.cell (k := 0) rfl
      have x1 := r1.cell (k := 1) rfl
      have x2 := r1.cell (k := 2) rfl
      have x3 := r1.cell (k := 3) rfl
      have y0 := r2.free 0
      have y1 := r2.free 1
      have z0 := r2.cell (k := 0) rfl
      have z1 := r2.cell (k := 1) rfl
      clear hW hbW hsW r0 r1 r2
      go_enter Tryz.func145, Tryz.ntmps145
      go_upto_region 1 with (fail)
      rw [HW.out]
      clear HW
      go_wp2_with fail
      obtain ⟨W7, hW7⟩ : ∃ V, (W.setCell ⟨w.heap.size + 1 + 1, 0, none⟩ (.int .i64 b)).setCell ⟨w.heap.size + 1 + 1, 1, none⟩ (.int .i64 c) = V := ⟨_, rfl⟩
      have R7 : Row W7 (w.heap.size + 1 + 1) 167 [.int .i64 b, .int .i64 c] := by rw [← hW7]; exact (R.out.set_ 0 _).set_ 1 _
      have B7 : Below w.heap.size w W7 := by rw [← hW7]; exact (HB.out.setCell (p := ⟨w.heap.size + 1 + 1, 0, none⟩) (by simp; omega) _).setCell (p := ⟨w.heap.size + 1 + 1, 1, none⟩) (by simp; omega) _
      rw [hW7]
      have u0 := R7.cell (k := 0) rfl
      have u1 := R7.cell (k := 1) rfl
      refine bodyPost_ret (v := .tuple #[pv b c, .bool true]) (by simp [results, Tryz.results145, go_sem, u0, u1]) rfl ?_
      exact ⟨rfl, B7⟩
    · have b1 : (o == 15) = false := by simpa using h1
      have b2 : (o == 17) = false := by simpa using h2
      have d1 : (o != 15) = true := by simpa using h1
      have d2 : (o != 17) = true := by simpa using h2
      have e := hide (show rdB o = false by simp [rdB, h1, h2])
      have e2 := hide (show rdI ⟨o, a, b, c, m⟩ = (0, 0) by unfold rdI; rw [show rdB (Ins.op ⟨o, a, b, c, m⟩) = false from e.out]; rfl)
      clear h1 h2
      obtain ⟨W, hW, hbW, hsW, r0, r1, r2⟩ := boxes3 w [.int .i64 P, .int .i64 S, .slice A n cp] [.int .i64 o, .int .i64 a, .int .i64 b, .int .i64 c, .int .u64 m] [.int .i64 0, .int .i64 0] 90 64 167
      have HW := hide hW
      have HB := hide hbW
      have HS := hide hsW
      have R := hide r2
      have x0 := r1.cell (k := 0) rfl
      have x1 := r1.cell (k := 1) rfl
      have x2 := r1.cell (k := 2) rfl
      have x3 := r1.cell (k := 3) rfl
      have y0 := r2.free 0
      have y1 := r2.free 1
      have z0 := r2.cell (k := 0) rfl
      have z1 := r2.cell (k := 1) rfl
      clear hW hbW hsW r0 r1 r2
      go_enter Tryz.func145, Tryz.ntmps145
      go_upto_region 1 with (fail)
      rw [HW.out]
      clear HW
      go_wp2_with fail
      obtain ⟨W7, hW7⟩ : ∃ V, (W.setCell ⟨w.heap.size + 1 + 1, 0, none⟩ (.int .i64 0)).setCell ⟨w.heap.size + 1 + 1, 1, none⟩ (.int .i64 0) = V := ⟨_, rfl⟩
      have R7 : Row W7 (w.heap.size + 1 + 1) 167 [.int .i64 0, .int .i64 0] := by rw [← hW7]; exact (R.out.set_ 0 _).set_ 1 _
      have B7 : Below w.heap.size w W7 := by rw [← hW7]; exact (HB.out.setCell (p := ⟨w.heap.size + 1 + 1, 0, none⟩) (by simp; omega) _).setCell (p := ⟨w.heap.size + 1 + 1, 1, none⟩) (by simp; omega) _
      rw [hW7]
      have u0 := R7.cell (k := 0) rfl
      have u1 := R7.cell (k := 1) rfl
      refine bodyPost_ret (v := .tuple #[pv 0 0, .bool false]) (by simp [results, Tryz.results145, go_sem, u0, u1]) rfl ?_
      exact ⟨by rw [e.out, e2.out], B7⟩
set_option maxHeartbeats 400000 in
theorem rwrites_any (P S : Int) (A : Option Addr) (n cp : Nat) (o a b c m : Int) (w : World) :
    Calls Tryz.prog 146 #[mv P S A n cp, iv o a b c m] w fun e w' => e = .returned (.tuple #[pv (wrI ⟨o, a, b, c, m⟩).1 (wrI ⟨o, a, b, c, m⟩).2, .bool (wrB o)]) ∧ Below w.heap.size w w' := by
  by_cases h1 : o = 16
  · subst h1
    obtain ⟨W, hW, hbW, hsW, r0, r1, r2⟩ := boxes3 w [.int .i64 P, .int .i64 S, .slice A n cp] [.int .i64 16, .int .i64 a, .int .i64 b, .int .i64 c, .int .u64 m] [.int .i64 0, .int .i64 0] 90 64 167
    have HW := hide hW
    have HB := hide hbW
    have HS := hide hsW
    have R := hide r2
    have x0 := r1.cell (k := 0) rfl
    have x1 := r1.cell (k := 1) rfl
    have x2 := r1.cell (k := 2) rfl
    have x3 := r1.cell (k := 3) rfl
    have y0 := r2.free 0
    have y1 := r2.free 1
    have z0 := r2.cell (k := 0) rfl
    have z1 := r2.cell (k := 1) rfl
    clear hW hbW hsW r0 r1 r2
    go_enter Tryz.func146, Tryz.ntmps146
    go_upto_region 1 with (fail)
    rw [HW.out]
    clear HW
    go_wp2_with fail
    obtain ⟨W7, hW7⟩ : ∃ V, (W.setCell ⟨w.heap.size + 1 + 1, 0, none⟩ (.int .i64 a)).setCell ⟨w.heap.size + 1 + 1, 1, none⟩ (.int .i64 c) = V := ⟨_, rfl⟩
    have R7 : Row W7 (w.heap.size + 1 + 1) 167 [.int .i64 a, .int .i64 c] := by rw [← hW7]; exact (R.out.set_ 0 _).set_ 1 _
    have B7 : Below w.heap.size w W7 := by rw [← hW7]; exact (HB.out.setCell (p := ⟨w.heap.size + 1 + 1, 0, none⟩) (by simp; omega) _).setCell (p := ⟨w.heap.size + 1 + 1, 1, none⟩) (by simp; omega) _
    rw [hW7]
    have u0 := R7.cell (k := 0) rfl
    have u1 := R7.cell (k := 1) rfl
    refine bodyPost_ret (v := .tuple #[pv a c, .bool true]) (by simp [results, Tryz.results146, go_sem, u0, u1]) rfl ?_
    exact ⟨rfl, B7⟩
  · by_cases h2 : o = 17
    · subst h2
      obtain ⟨W, hW, hbW, hsW, r0, r1, r2⟩ := boxes3 w [.int .i64 P, .int .i64 S, .slice A n cp] [.int .i64 17, .int .i64 a, .int .i64 b, .int .i64 c, .int .u64 m] [.int .i64 0, .int .i64 0] 90 64 167
      have HW := hide hW
      have HB := hide hbW
      have HS := hide hsW
      have R := hide r2
      have x0 := r1.cell (k := 0) rfl
      have x1 := r1.cell (k := 1) rfl
      have x2 := r1.cell (k := 2) rfl
      have x3 := r1.cell (k := 3) rfl
      have y0 := r2.free 0
      have y1 := r2.free 1
      have z0 := r2.cell (k := 0) rfl
      have z1 := r2.cell (k := 1) rfl
      clear hW hbW hsW r0 r1 r2
      go_enter Tryz.func146, Tryz.ntmps146
      go_upto_region 1 with (fail)
      rw [HW.out]
      clear HW
      go_wp2_with fail
      obtain ⟨W7, hW7⟩ : ∃ V, (W.setCell ⟨w.heap.size + 1 + 1, 0, none⟩ (.int .i64 a)).setCell ⟨w.heap.size + 1 + 1, 1, none⟩ (.int .i64 c) = V := ⟨_, rfl⟩
      have R7 : Row W7 (w.heap.size + 1 + 1) 167 [.int .i64 a, .int .i64 c] := by rw [← hW7]; exact (R.out.set_ 0 _).set_ 1 _
      have B7 : Below w.heap.size w W7 := by rw [← hW7]; exact (HB.out.setCell (p := ⟨w.heap.size + 1 + 1, 0, none⟩) (by simp; omega) _).setCell (p := ⟨w.heap.size + 1 + 1, 1, none⟩) (by simp; omega) _
      rw [hW7]
      have u0 := R7.cell (k := 0) rfl
      have u1 := R7.cell (k := 1) rfl
      refine bodyPost_ret (v := .tuple #[pv a c, .bool true]) (by simp [results, Tryz.results146, go_sem, u0, u1]) rfl ?_
      exact ⟨rfl, B7⟩
    · have b1 : (o == 16) = false := by simpa using h1
      have b2 : (o == 17) = false := by simpa using h2
      have d1 : (o != 16) = true := by simpa using h1
      have d2 : (o != 17) = true := by simpa using h2
      have e := hide (show wrB o = false by simp [wrB, h1, h2])
      have e2 := hide (show wrI ⟨o, a, b, c, m⟩ = (0, 0) by unfold wrI; rw [show wrB (Ins.op ⟨o, a, b, c, m⟩) = false from e.out]; rfl)
      clear h1 h2
      obtain ⟨W, hW, hbW, hsW, r0, r1, r2⟩ := boxes3 w [.int .i64 P, .int .i64 S, .slice A n cp] [.int .i64 o, .int .i64 a, .int .i64 b, .int .i64 c, .int .u64 m] [.int .i64 0, .int .i64 0] 90 64 167
      have HW := hide hW
      have HB := hide hbW
      have HS := hide hsW
      have R := hide r2
      have x0 := r1.cell (k := 0) rfl
      have x1 := r1.cell (k := 1) rfl
      have x2 := r1.cell (k := 2) rfl
      have x3 := r1.cell (k := 3) rfl
      have y0 := r2.free 0
      have y1 := r2.free 1
      have z0 := r2.cell (k := 0) rfl
      have z1 := r2.cell (k := 1) rfl
      clear hW hbW hsW r0 r1 r2
      go_enter Tryz.func146, Tryz.ntmps146
      go_upto_region 1 with (fail)
      rw [HW.out]
      clear HW
      go_wp2_with fail
      obtain ⟨W7, hW7⟩ : ∃ V, (W.setCell ⟨w.heap.size + 1 + 1, 0, none⟩ (.int .i64 0)).setCell ⟨w.heap.size + 1 + 1, 1, none⟩ (.int .i64 0) = V := ⟨_, rfl⟩
      have R7 : Row W7 (w.heap.size + 1 + 1) 167 [.int .i64 0, .int .i64 0] := by rw [← hW7]; exact (R.out.set_ 0 _).set_ 1 _
      have B7 : Below w.heap.size w W7 := by rw [← hW7]; exact (HB.out.setCell (p := ⟨w.heap.size + 1 + 1, 0, none⟩) (by simp; omega) _).setCell (p := ⟨w.heap.size + 1 + 1, 1, none⟩) (by simp; omega) _
      rw [hW7]
      have u0 := R7.cell (k := 0) rfl
      have u1 := R7.cell (k := 1) rfl
      refine bodyPost_ret (v := .tuple #[pv 0 0, .bool false]) (by simp [results, Tryz.results146, go_sem, u0, u1]) rfl ?_
      exact ⟨by rw [e.out, e2.out], B7⟩
end Go.Proofs.YtlcmcmocjbeocaaGreatDoor
end

section
/-
  The contract of the reference's Size. Conditions: those of the types.
-/
namespace Go.Proofs.YtlcmcmocjbeocaaGreatDoor
open Go.RowKit

set_option maxHeartbeats 400000 in
theorem rsz_1 (w : World) : Calls Tryz.prog 144 #[.int .i64 1] w fun e w' => e = .returned (.bool true) ∧ w = w' := by
  go_enter Tryz.func144, Tryz.ntmps144
  go_wp2
  go_ret
  exact ⟨rfl, rfl⟩
set_option maxHeartbeats 400000 in
theorem rsz_2 (w : World) : Calls Tryz.prog 144 #[.int .i64 2] w fun e w' => e = .returned (.bool true) ∧ w = w' := by
  go_enter Tryz.func144, Tryz.ntmps144
  go_wp2
  go_ret
  exact ⟨rfl, rfl⟩
set_option maxHeartbeats 400000 in
theorem rsz_4 (w : World) : Calls Tryz.prog 144 #[.int .i64 4] w fun e w' => e = .returned (.bool true) ∧ w = w' := by
  go_enter Tryz.func144, Tryz.ntmps144
  go_wp2
  go_ret
  exact ⟨rfl, rfl⟩
set_option maxHeartbeats 400000 in
theorem rsz_8 (w : World) : Calls Tryz.prog 144 #[.int .i64 8] w fun e w' => e = .returned (.bool true) ∧ w = w' := by
  go_enter Tryz.func144, Tryz.ntmps144
  go_wp2
  go_ret
  exact ⟨rfl, rfl⟩
set_option maxHeartbeats 400000 in
theorem rsz_16 (w : World) : Calls Tryz.prog 144 #[.int .i64 16] w fun e w' => e = .returned (.bool true) ∧ w = w' := by
  go_enter Tryz.func144, Tryz.ntmps144
  go_wp2
  go_ret
  exact ⟨rfl, rfl⟩
set_option maxHeartbeats 400000 in
theorem rsz_none (n : Int) (w : World) (h : szB n = false) : Calls Tryz.prog 144 #[.int .i64 n] w fun e w' => e = .returned (.bool false) ∧ w = w' := by
  have hn := of_decide_eq_false h
  have o1 : (n == 1) = false := by rw [beq_eq_false_iff_ne]; omega
  have o2 : (n == 2) = false := by rw [beq_eq_false_iff_ne]; omega
  have o4 : (n == 4) = false := by rw [beq_eq_false_iff_ne]; omega
  have o8 : (n == 8) = false := by rw [beq_eq_false_iff_ne]; omega
  have o16 : (n == 16) = false := by rw [beq_eq_false_iff_ne]; omega
  clear hn h
  go_enter Tryz.func144, Tryz.ntmps144
  go_wp2
  go_ret
  exact ⟨rfl, rfl⟩
theorem rsz_any (n : Int) (w : World) : Calls Tryz.prog 144 #[.int .i64 n] w fun e w' => e = .returned (.bool (szB n)) ∧ w = w' := by
  by_cases h : szB n = true
  · rw [h]
    have hn := of_decide_eq_true h
    rcases hn with rfl | rfl | rfl | rfl | rfl
    · exact rsz_1 w
    · exact rsz_2 w
    · exact rsz_4 w
    · exact rsz_8 w
    · exact rsz_16 w
  · have h : szB n = false := by simpa using h
    rw [h]
    exact rsz_none n w h

end Go.Proofs.YtlcmcmocjbeocaaGreatDoor
end
