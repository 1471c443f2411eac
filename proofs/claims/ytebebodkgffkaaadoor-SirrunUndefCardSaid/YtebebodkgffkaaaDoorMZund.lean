import Derived.Test.YtebebodkgffkaaaDoorMZawk
set_option linter.unusedVariables false
set_option linter.unusedSimpArgs false
section
/-
  The law on values that were not written (chapter 8). Conditions: those of the types; the table of shapes lies as it is laid.
-/
namespace Go.Proofs.YtebebodkgffkaaaDoor
open Go.RowKit

/-- The callee of the law. -/
def udC : Fn := ⟨1, [(8, 8)], [⟨19, 1, 0, 0, 0⟩, ⟨21, 1, 3, 0, 0⟩, ⟨15, 0, 0, 0, 0⟩, ⟨16, 0, 1, 0, 0⟩, ⟨15, 0, 0, 0, 0⟩, ⟨23, 0, 0, 0, 0⟩]⟩
/-- The bare program. -/
def udB : Pg := [⟨0, [], [⟨22, 1, 0, 0, 0⟩, ⟨23, 0, 0, 0, 0⟩]⟩, udC]
/-- The program of one call. -/
def ud1 (v : Int) : Pg := [⟨0, [], [⟨0, 2, 0, 0, v⟩, ⟨18, 0, 2, 0, 0⟩, ⟨22, 1, 0, 0, 0⟩, ⟨23, 0, 0, 0, 0⟩]⟩, udC]
/-- The program of two calls. -/
def ud2 (v : Int) : Pg := [⟨0, [], [⟨0, 2, 0, 0, v⟩, ⟨18, 0, 2, 0, 0⟩, ⟨22, 1, 0, 0, 0⟩, ⟨0, 3, 0, 0, 0⟩, ⟨18, 0, 3, 0, 0⟩, ⟨22, 1, 0, 0, 0⟩, ⟨23, 0, 0, 0, 0⟩]⟩, udC]
theorem udB_pg : pgE udB = 0 := by decide
theorem udB_kind : (runM udB [] 100).kind = 3 := by rfl
theorem udB_steps : (runM udB [] 100).steps = 2 := by rfl
theorem ud1_pg (v : Int) : pgE (ud1 v) = 0 := by
  rfl
theorem ud2_pg (v : Int) : pgE (ud2 v) = 0 := by
  rfl
theorem ud1_zero : (runM (ud1 0) [] 100).kind = 3 := by rfl
theorem ud2_zero : (runM (ud2 0) [] 100).kind = 3 := by rfl
theorem branch_step {F : Pg} {s : Mch} {a b : Int} (hn : s.next F = ⟨21, a, b, 0, 0⟩) (hr : s.fetched.reg a % 18446744073709551616 ≠ 0) : s.stepM F = s.fetched.jump b.toNat := by
  unfold Mch.stepM
  rw [hn]
  show (if s.fetched.reg a % 18446744073709551616 = 0 then s.fetched else s.fetched.jump b.toNat) = _
  rw [if_neg hr]
theorem ud1_at (v : Int) (hv : v.toNat % 18446744073709551616 ≠ 0) : runM (ud1 v) [] 100 = (iterM (ud1 v) 95 ((iterM (ud1 v) 4 (startM [])).fetched.jump 3)).fuelled := by
  have h : iterM (ud1 v) 5 (startM []) = (iterM (ud1 v) 4 (startM [])).fetched.jump 3 := by
    have e : (iterM (ud1 v) 4 (startM [])).ended = false := by kernel_rfl
    have r : (iterM (ud1 v) 4 (startM [])).fetched.reg 1 = v.toNat := by kernel_rfl
    have q : Mch.next (ud1 v) (iterM (ud1 v) 4 (startM [])) = ⟨21, 1, 3, 0, 0⟩ := by kernel_rfl
    rw [iterM_succ (F := ud1 v) 4 (startM []), if_neg (by rw [e]; decide)]
    exact branch_step (a := 1) (b := 3) q (by rw [r]; exact hv)
  unfold runM
  rw [show 100 = 5 + 95 from rfl, iterM_add, h]
theorem ud2_at (v : Int) (hv : v.toNat % 18446744073709551616 ≠ 0) : runM (ud2 v) [] 100 = (iterM (ud2 v) 95 ((iterM (ud2 v) 4 (startM [])).fetched.jump 3)).fuelled := by
  have h : iterM (ud2 v) 5 (startM []) = (iterM (ud2 v) 4 (startM [])).fetched.jump 3 := by
    have e : (iterM (ud2 v) 4 (startM [])).ended = false := by kernel_rfl
    have r : (iterM (ud2 v) 4 (startM [])).fetched.reg 1 = v.toNat := by kernel_rfl
    have q : Mch.next (ud2 v) (iterM (ud2 v) 4 (startM [])) = ⟨21, 1, 3, 0, 0⟩ := by kernel_rfl
    rw [iterM_succ (F := ud2 v) 4 (startM []), if_neg (by rw [e]; decide)]
    exact branch_step (a := 1) (b := 3) q (by rw [r]; exact hv)
  unfold runM
  rw [show 100 = 5 + 95 from rfl, iterM_add, h]
theorem ud1_kind (v : Int) (hv : v.toNat % 18446744073709551616 ≠ 0) : (runM (ud1 v) [] 100).kind = 0 := by
  rw [ud1_at v hv]; kernel_rfl
theorem ud1_res (v : Int) (hv : v.toNat % 18446744073709551616 ≠ 0) : (runM (ud1 v) [] 100).res = truncV v.toNat 8 := by
  rw [ud1_at v hv]; kernel_rfl
theorem ud2_kind (v : Int) (hv : v.toNat % 18446744073709551616 ≠ 0) : (runM (ud2 v) [] 100).kind = 3 := by
  rw [ud2_at v hv]; kernel_rfl
end Go.Proofs.YtebebodkgffkaaaDoor
end
