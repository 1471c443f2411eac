import Derived.Test.YtafegghdhdgioaaDoorMPeqm
import Derived.Deep.DeepCutAuto
import Derived.Outline
set_option linter.unusedVariables false
set_option linter.unusedSimpArgs false
section
/-
  The contracts of the reference's Reads and Writes: what an instruction reads and writes. Conditions: those of the types.
-/
namespace Go.Proofs.YtafegghdhdgioaaDoor
open Go.RowKit

set_option maxHeartbeats 400000 in
theorem rreads_any (P S : Int) (A : Option Addr) (n cp : Nat) (o a b c m : Int) (w : World) :
    Calls Tryd.prog 128 #[mv P S A n cp, iv o a b c m] w fun e w' => e = .returned (.tuple #[pv (rdI ⟨o, a, b, c, m⟩).1 (rdI ⟨o, a, b, c, m⟩).2, .bool (rdB o)]) ∧ Below w.heap.size w w' := by
  by_cases h1 : o = 15
  · subst h1
    obtain ⟨W, hW, hbW, hsW, r0, r1, r2⟩ := boxes3 w [.int .i64 P, .int .i64 S, .slice A n cp] [.int .i64 15, .int .i64 a, .int .i64 b, .int .i64 c, .int .u64 m] [.int .i64 0, .int .i64 0] 85 48 143
    have HW := hide hW
    have HB := hide hbW
    have HS := hide hsW
    have R := hide r2
    have x0 := r1.cell (k := 0) rfl
    have x1 := r1.cell (k := 1) rfl
    have x2 := r1.cell (k := 2) rfl
    have x3 := r1.cell (k := 3) rfl
    have y0 := r2.free 0
    have y1 := r2.free 1
    have z0 := r2.cell (k := 0) rfl
    have z1 := r2.cell (k := 1) rfl
    clear hW hbW hsW r0 r1 r2
    go_enter Tryd.func128, Tryd.ntmps128
    go_upto_region 1 with (fail)
    rw [HW.out]
    clear HW
    go_wp2_with fail
    obtain ⟨W7, hW7⟩ : ∃ V, (W.setCell ⟨w.heap.size + 1 + 1, 0, none⟩ (.int .i64 b)).setCell ⟨w.heap.size + 1 + 1, 1, none⟩ (.int .i64 c) = V := ⟨_, rfl⟩
    have R7 : Row W7 (w.heap.size + 1 + 1) 143 [.int .i64 b, .int .i64 c] := by rw [← hW7]; exact (R.out.set_ 0 _).set_ 1 _
    have B7 : Below w.heap.size w W7 := by rw [← hW7]; exact (HB.out.setCell (p := ⟨w.heap.size + 1 + 1, 0, none⟩) (by simp; omega) _).setCell (p := ⟨w.heap.size + 1 + 1, 1, none⟩) (by simp; omega) _
    rw [hW7]
    have u0 := R7.cell (k := 0) rfl
    have u1 := R7.cell (k := 1) rfl
    refine bodyPost_ret (v := .tuple #[pv b c, .bool true]) (by simp [results, Tryd.results128, go_sem, u0, u1]) rfl ?_
    exact ⟨rfl, B7⟩
  · by_cases h2 : o = 17
    · subst h2
      obtain ⟨W, hW, hbW, hsW, r0, r1, r2⟩ := boxes3 w [.int .i64 P, .int .i64 S, .slice A n cp] [.int .i64 17, .int .i64 a, .int .i64 b, .int .i64 c, .int .u64 m] [.int .i64 0, .int .i64 0] 85 48 143
      have HW := hide hW
      have HB := hide hbW
      have HS := hide hsW
      have R := hide r2
      have x0 := r1.cell (k := 0) rfl
      have x1 := r1.cell (k := 1) rfl
      have x2 := r1.cell (k := 2) rfl
      have x3 := r1.cell (k := 3) rfl
      have y0 := r2.free 0
      have y1 := r2.free 1
      have z0 := r2.cell (k := 0) rfl
      have z1 := r2.cell (k := 1) rfl
      clear hW hbW hsW r0 r1 r2
      go_enter Tryd.func128, Tryd.ntmps128
      go_upto_region 1 with (fail)
      rw [HW.out]
      clear HW
      go_wp2_with fail
      obtain ⟨W7, hW7⟩ : ∃ V, (W.setCell ⟨w.heap.size + 1 + 1, 0, none⟩ (.int .i64 b)).setCell ⟨w.heap.size + 1 + 1, 1, none⟩ (.int .i64 c) = V := ⟨_, rfl⟩
      have R7 : Row W7 (w.heap.size + 1 + 1) 143 [.int .i64 b, .int .i64 c] := by rw [← hW7]; exact (R.out.set_ 0 _).set_ 1 _
      have B7 : Below w.heap.size w W7 := by rw [← hW7]; exact (HB.out.setCell (p := ⟨w.heap.size + 1 + 1, 0, none⟩) (by simp; omega) _).setCell (p := ⟨w.heap.size + 1 + 1, 1, none⟩) (by simp; omega) _
      rw [hW7]
      have u0 := R7.cell (k := 0) rfl
      have u1 := R7.cell (k := 1) rfl
      refine bodyPost_ret (v := .tuple #[pv b c, .bool true]) (by simp [results, Tryd.results128, go_sem, u0, u1]) rfl ?_
      exact ⟨rfl, B7⟩
    · have b1 : (o == 15) = false := by simpa using h1
      have b2 : (o == 17) = false := by simpa using h2
      have d1 : (o != 15) = true := by simpa using h1
      have d2 : (o != 17) = true := by simpa using h2
      have e := hide (show rdB o = false by simp [rdB, h1, h2])
      have e2 := hide (show rdI ⟨o, a, b, c, m⟩ = (0, 0) by unfold rdI; rw [show rdB (Ins.op ⟨o, a, b, c, m⟩) = false from e.out]; rfl)
      clear h1 h2
      obtain ⟨W, hW, hbW, hsW, r0, r1, r2⟩ := boxes3 w [.int .i64 P, .int .i64 S, .slice A n cp] [.int .i64 o, .int .i64 a, .int .i64 b, .int .i64 c, .int .u64 m] [.int .i64 0, .int .i64 0] 85 48 143
      have HW := hide hW
      have HB := hide hbW
      have HS := hide hsW
      have R := hide r2
      have x0 := r1.cell (k := 0) rfl
      have x1 := r1.cell (k := 1) rfl
      have x2 := r1.cell (k := 2) rfl
      have x3 := r1.cell (k := 3) rfl
      have y0 := r2.free 0
      have y1 := r2.free 1
      have z0 := r2.cell (k := 0) rfl
      have z1 := r2.cell (k := 1) rfl
      clear hW hbW hsW r0 r1 r2
      go_enter Tryd.func128, Tryd.ntmps128
      go_upto_region 1 with (fail)
      rw [HW.out]
      clear HW
      go_wp2_with fail
      obtain ⟨W7, hW7⟩ : ∃ V, (W.setCell ⟨w.heap.size + 1 + 1, 0, none⟩ (.int .i64 0)).setCell ⟨w.heap.size + 1 + 1, 1, none⟩ (.int .i64 0) = V := ⟨_, rfl⟩
      have R7 : Row W7 (w.heap.size + 1 + 1) 143 [.int .i64 0, .int .i64 0] := by rw [← hW7]; exact (R.out.set_ 0 _).set_ 1 _
      have B7 : Below w.heap.size w W7 := by rw [← hW7]; exact (HB.out.setCell (p := ⟨w.heap.size + 1 + 1, 0, none⟩) (by simp; omega) _).setCell (p := ⟨w.heap.size + 1 + 1, 1, none⟩) (by simp; omega) _
      rw [hW7]
      have u0 := R7.cell (k := 0) rfl
      have u1 := R7.cell (k := 1) rfl
      refine bodyPost_ret (v := .tuple #[pv 0 0, .bool false]) (by simp [results, Tryd.results128, go_sem, u0, u1]) rfl ?_
      exact ⟨by rw [e.out, e2.out], B7⟩
set_option maxHeartbeats 400000 in
theorem rwrites_any (P S : Int) (A : Option Addr) (n cp : Nat) (o a b c m : Int) (w : World) :
    Calls Tryd.prog 129 #[mv P S A n cp, iv o a b c m] w fun e w' => e = .returned (.tuple #[pv (wrI ⟨o, a, b, c, m⟩).1 (wrI ⟨o, a, b, c, m⟩).2, .bool (wrB o)]) ∧ Below w.heap.size w w' := by
  by_cases h1 : o = 16
  · subst h1
    obtain ⟨W, hW, hbW, hsW, r0, r1, r2⟩ := boxes3 w [.int .i64 P, .int .i64 S, .slice A n cp] [.int .i64 16, .int .i64 a, .int .i64 b, .int .i64 c, .int .u64 m] [.int .i64 0, .int .i64 0] 85 48 143
    have HW := hide hW
    have HB := hide hbW
    have HS := hide hsW
    have R := hide r2
    have x0 := r1.cell (k := 0) rfl
    have x1 := r1.cell (k := 1) rfl
    have x2 := r1.cell (k := 2) rfl
    have x3 := r1.cell (k := 3) rfl
    have y0 := r2.free 0
    have y1 := r2.free 1
    have z0 := r2.cell (k := 0) rfl
    have z1 := r2.cell (k := 1) rfl
    clear hW hbW hsW r0 r1 r2
    go_enter Tryd.func129, Tryd.ntmps129
    go_upto_region 1 with (fail)
    rw [HW.out]
    clear HW
    go_wp2_with fail
    obtain ⟨W7, hW7⟩ : ∃ V, (W.setCell ⟨w.heap.size + 1 + 1, 0, none⟩ (.int .i64 a)).setCell ⟨w.heap.size + 1 + 1, 1, none⟩ (.int .i64 c) = V := ⟨_, rfl⟩
    have R7 : Row W7 (w.heap.size + 1 + 1) 143 [.int .i64 a, .int .i64 c] := by rw [← hW7]; exact (R.out.set_ 0 _).set_ 1 _
    have B7 : Below w.heap.size w W7 := by rw [← hW7]; exact (HB.out.setCell (p := ⟨w.heap.size + 1 + 1, 0, none⟩) (by simp; omega) _).setCell (p := ⟨w.heap.size + 1 + 1, 1, none⟩) (by simp; omega) _
    rw [hW7]
    have u0 := R7.cell (k := 0) rfl
    have u1 := R7.cell (k := 1) rfl
    refine bodyPost_ret (v := .tuple #[pv a c, .bool true]) (by simp [results, Tryd.results129, go_sem, u0, u1]) rfl ?_
    exact ⟨rfl, B7⟩
  · by_cases h2 : o = 17
    · subst h2
      obtain ⟨W, hW, hbW, hsW, r0, r1, r2⟩ := boxes3 w [.int .i64 P, .int .i64 S, .slice A n cp] [.int .i64 17, .int .i64 a, .int .i64 b, .int .i64 c, .int .u64 m] [.int .i64 0, .int .i64 0] 85 48 143
      have HW := hide hW
      have HB := hide hbW
      have HS := hide hsW
      have R := hide r2
      have x0 := r1.cell (k := 0) rfl
      have x1 := r1.cell (k := 1) rfl
      have x2 := r1.cell (k := 2) rfl
      have x3 := r1.cell (k := 3) rfl
      have y0 := r2.free 0
      have y1 := r2.free 1
      have z0 := r2.cell (k := 0) rfl
      have z1 := r2.cell (k := 1) rfl
      clear hW hbW hsW r0 r1 r2
      go_enter Tryd.func129, Tryd.ntmps129
      go_upto_region 1 with (fail)
      rw [HW.out]
      clear HW
      go_wp2_with fail
      obtain ⟨W7, hW7⟩ : ∃ V, (W.setCell ⟨w.heap.size + 1 + 1, 0, none⟩ (.int .i64 a)).setCell ⟨w.heap.size + 1 + 1, 1, none⟩ (.int .i64 c) = V := ⟨_, rfl⟩
      have R7 : Row W7 (w.heap.size + 1 + 1) 143 [.int .i64 a, .int .i64 c] := by rw [← hW7]; exact (R.out.set_ 0 _).set_ 1 _
      have B7 : Below w.heap.size w W7 := by rw [← hW7]; exact (HB.out.setCell (p := ⟨w.heap.size + 1 + 1, 0, none⟩) (by simp; omega) _).setCell (p := ⟨w.heap.size + 1 + 1, 1, none⟩) (by simp; omega) _
      rw [hW7]
      have u0 := R7.cell (k := 0) rfl
      have u1 := R7.cell (k := 1) rfl
      refine bodyPost_ret (v := .tuple #[pv a c, .bool true]) (by simp [results, Tryd.results129, go_sem, u0, u1]) rfl ?_
      exact ⟨rfl, B7⟩
    · have b1 : (o == 16) = false := by simpa using h1
      have b2 : (o == 17) = false := by simpa using h2
      have d1 : (o != 16) = true := by simpa using h1
      have d2 : (o != 17) = true := by simpa using h2
      have e := hide (show wrB o = false by simp [wrB, h1, h2])
      have e2 := hide (show wrI ⟨o, a, b, c, m⟩ = (0, 0) by unfold wrI; rw [show wrB (Ins.op ⟨o, a, b, c, m⟩) = false from e.out]; rfl)
      clear h1 h2
      obtain ⟨W, hW, hbW, hsW, r0, r1, r2⟩ := boxes3 w [.int .i64 P, .int .i64 S, .slice A n cp] [.int .i64 o, .int .i64 a, .int .i64 b, .int .i64 c, .int .u64 m] [.int .i64 0, .int .i64 0] 85 48 143
      have HW := hide hW
      have HB := hide hbW
      have HS := hide hsW
      have R := hide r2
      have x0 := r1.cell (k := 0) rfl
      have x1 := r1.cell (k := 1) rfl
      have x2 := r1.cell (k := 2) rfl
      have x3 := r1.cell (k := 3) rfl
      have y0 := r2.free 0
      have y1 := r2.free 1
      have z0 := r2.cell (k := 0) rfl
      have z1 := r2.cell (k := 1) rfl
      clear hW hbW hsW r0 r1 r2
      go_enter Tryd.func129, Tryd.ntmps129
      go_upto_region 1 with (fail)
      rw [HW.out]
      clear HW
      go_wp2_with fail
      obtain ⟨W7, hW7⟩ : ∃ V, (W.setCell ⟨w.heap.size + 1 + 1, 0, none⟩ (.int .i64 0)).setCell ⟨w.heap.size + 1 + 1, 1, none⟩ (.int .i64 0) = V := ⟨_, rfl⟩
      have R7 : Row W7 (w.heap.size + 1 + 1) 143 [.int .i64 0, .int .i64 0] := by rw [← hW7]; exact (R.out.set_ 0 _).set_ 1 _
      have B7 : Below w.heap.size w W7 := by rw [← hW7]; exact (HB.out.setCell (p := ⟨w.heap.size + 1 + 1, 0, none⟩) (by simp; omega) _).setCell (p := ⟨w.heap.size + 1 + 1, 1, none⟩) (by simp; omega) _
      rw [hW7]
      have u0 := R7.cell (k := 0) rfl
      have u1 := R7.cell (k := 1) rfl
      refine bodyPost_ret (v := .tuple #[pv 0 0, .bool false]) (by simp [results, Tryd.results129, go_sem, u0, u1]) rfl ?_
      exact ⟨by rw [e.out, e2.out], B7⟩
end Go.Proofs.YtafegghdhdgioaaDoor
end
