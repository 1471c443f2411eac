import Derived.Test.YtjgoldlebmfiiaaMMchk
import Derived.Test.YtjgoldlebmfiiaaMMops
import Derived.Test.YtjgoldlebmfiiaaMEro
import Derived.Deep.RegionHeld3
import Derived.Deep.DrawnRows
set_option linter.unusedVariables false
set_option linter.unusedSimpArgs false
section
/-
  The contract of mach's method operandErrors: what is wrong with the operands of an instruction. Condition: the operation is one of the 25.
-/
namespace Go.Proofs.Ytjgoldlebmfiiaa
open Go.RowKit

set_option maxRecDepth 100000 in
set_option maxHeartbeats 2000000 in
theorem operrm_any (P S : Int) (A : Option Addr) (n cp : Nat) (N : Int) (o a b d m : Int) (w : World) (h0 : 0 ≤ o) (h1 : o < 25) :
    Calls Try.prog 60 #[xv P S A n cp N, iv o a b d m] w (ErrsPost (mfound N n ⟨o, a, b, d, m⟩) w) := by
  have HF := hide (show mfound N n ⟨o, a, b, d, m⟩ = foundE (mopE N n (mshpOf o).1 a) (mopE N n (mshpOf o).2.1 b) (mopE N n (mshpOf o).2.2.1 d) (mshpOf o).2.2.2 m from rfl)
  rw [HF.out]
  clear HF
  obtain ⟨W2, hW2, hb2, hs2, r0, r1⟩ := boxes2q w [.int .i64 P, .int .i64 S, .slice A n cp, .int .i64 N] [.int .i64 o, .int .i64 a, .int .i64 b, .int .i64 d, .int .u64 m] 85 27
  have co := opsof_any o W2 h0 h1
  obtain ⟨k, hk⟩ : ∃ k, mshpOf o = k := ⟨_, rfl⟩
  rw [hk] at co ⊢
  obtain ⟨k1, k2, k3, im⟩ := k
  clear hk
  have HW2 := hide hW2
  have HB2 := hide hb2
  have HS2 := hide hs2
  have R0 := hide r0
  have R1 := hide r1
  have z0 := r1.cell (k := 0) rfl
  clear hW2 hb2 hs2 r0 r1
  go_enter Try.func60, Try.ntmps60
  go_upto_region 1 with (fail)
  rw [HW2.out]
  clear HW2
  go_upto_region 2 with (go_at_call 72; refine co.mono ?_; rintro e W3 ⟨rfl, hb3⟩)
  obtain ⟨W, hW⟩ : ∃ V, W3.alloc (.cells #[.int .i64 k1, .int .i64 k2, .int .i64 k3, .bool im] 113) = V := ⟨_, rfl⟩
  have r0 : Row W w.heap.size 85 [.int .i64 P, .int .i64 S, .slice A n cp, .int .i64 N] := by rw [← hW]; exact (R0.out.call hb3).alloc _
  have r1 : Row W (w.heap.size + 1) 27 [.int .i64 o, .int .i64 a, .int .i64 b, .int .i64 d, .int .u64 m] := by rw [← hW]; exact (R1.out.call hb3).alloc _
  have r3 : Row W W3.heap.size 113 [.int .i64 k1, .int .i64 k2, .int .i64 k3, .bool im] := by rw [← hW]; exact Row.new W3 _ _
  have HB := hide (show Below w.heap.size w W by rw [← hW]; have h := below_call HB2.out hb3; exact h.alloc h.size _)
  rw [hW]
  obtain ⟨g, hg⟩ : ∃ g, W3.heap.size = g := ⟨_, rfl⟩
  rw [hg] at r3 ⊢
  have x0 := r0.cell (k := 0) rfl
  have x1 := r0.cell (k := 1) rfl
  have x2 := r0.cell (k := 2) rfl
  have x3 := r0.cell (k := 3) rfl
  have z1 := r1.cell (k := 1) rfl
  have z2 := r1.cell (k := 2) rfl
  have z3 := r1.cell (k := 3) rfl
  have z4 := r1.cell (k := 4) rfl
  have u0 := r3.cell (k := 0) rfl
  have u1 := r3.cell (k := 1) rfl
  have u2 := r3.cell (k := 2) rfl
  have u3 := r3.cell (k := 3) rfl
  have c' := fun k x W => chkopm_any P S A n cp N k x W
  have C := hide c'
  clear c' co z0 hb3 R0 R1 HB2 HS2 hW hg r0 r1 r3
  go_region_held3 (fun w' => w'.cell? ⟨w.heap.size, 0, none⟩ = some (.int .i64 P) ∧ w'.cell? ⟨w.heap.size, 1, none⟩ = some (.int .i64 S) ∧ w'.cell? ⟨w.heap.size, 2, none⟩ = some (.slice A n cp) ∧ w'.cell? ⟨w.heap.size, 3, none⟩ = some (.int .i64 N) ∧
      w'.cell? ⟨w.heap.size + 1, 1, none⟩ = some (.int .i64 a) ∧ w'.cell? ⟨w.heap.size + 1, 2, none⟩ = some (.int .i64 b) ∧ w'.cell? ⟨w.heap.size + 1, 3, none⟩ = some (.int .i64 d) ∧ w'.cell? ⟨w.heap.size + 1, 4, none⟩ = some (.int .u64 m) ∧
      w'.cell? ⟨g, 0, none⟩ = some (.int .i64 k1) ∧ w'.cell? ⟨g, 1, none⟩ = some (.int .i64 k2) ∧ w'.cell? ⟨g, 2, none⟩ = some (.int .i64 k3) ∧ w'.cell? ⟨g, 3, none⟩ = some (.bool im))
    (first | go_keep | (refine ⟨keep_cellB hb1 ?_, keep_cellB hb1 ?_, keep_cellB hb1 ?_, keep_cellB hb1 ?_, keep_cellB hb1 ?_, keep_cellB hb1 ?_, keep_cellB hb1 ?_, keep_cellB hb1 ?_, keep_cellB hb1 ?_, keep_cellB hb1 ?_, keep_cellB hb1 ?_, keep_cellB hb1 ?_⟩ <;> go_keep))
    (first | (go_at_call 73; refine (C.out _ _ _).mono ?_; rintro e w2 ⟨rfl, hb1⟩))
  rename_i a1 a2 a3 a4 hh
  have hB4 : Below W.heap.size W w2 := (Below.refl W.heap.size W).drew.trans (below_call (below_call a2 a4) hb1)
  have hB0 := hide (HB.out.trans (hB4.mono HB.out.size))
  obtain ⟨-, -, -, -, -, -, -, hz4, -, -, -, hu3⟩ := hh
  have ho := three_new w2 (.int .i64 (mopE N n k1 a)) (.int .i64 (mopE N n k2 b)) (.int .i64 (mopE N n k3 d)) 42 w2.heap.size (Nat.le_refl _)
  have HO := hide ho
  clear hB4 a2 a4 hb1 x0 x1 x2 x3 z1 z2 z3 z4 u0 u1 u2 u3 C ho
  cases im with
  | true =>
    go_wp2_with fail
    go_ret
    exact ⟨some ⟨w2.heap.size, 0, none⟩, 3, rfl, Sees.own HO.out, hB0.out.alloc hB0.out.size _⟩
  | false =>
    by_cases hm : m = 0
    · subst hm
      go_wp2_with fail
      go_ret
      exact ⟨some ⟨w2.heap.size, 0, none⟩, 3, rfl, Sees.own HO.out, hB0.out.alloc hB0.out.size _⟩
    · have hne : (m != 0) = true := by simpa using hm
      have HF := hide (show foundE (mopE N n k1 a) (mopE N n k2 b) (mopE N n k3 d) false m = [mopE N n k1 a, mopE N n k2 b, mopE N n k3 d] ++ [2] by unfold foundE; rw [if_pos ⟨rfl, hm⟩])
      clear hm
      go_wp2_with fail
      go_ret
      unfold ErrsPost
      simp only
      rw [HF.out]
      refine ⟨some ⟨w2.heap.size + 1 + 1, 0, none⟩, _, rfl, sees_grown _ [_, _, _, _] _ _ ?_, ?_⟩
      · simp
      exact (((hB0.out.alloc hB0.out.size _).alloc (by have := hB0.out.size; simp; omega) _).alloc (by have := hB0.out.size; simp; omega) _).drew
end Go.Proofs.Ytjgoldlebmfiiaa
end
