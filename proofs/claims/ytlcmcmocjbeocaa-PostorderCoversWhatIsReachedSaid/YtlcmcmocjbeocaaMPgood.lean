import Derived.Test.YtlcmcmocjbeocaaMPmem
set_option linter.unusedVariables false
set_option linter.unusedSimpArgs false
section
/-
  The mathematics of drawn instructions: which are right whatever code stands around them. Nothing here names the program.
-/
namespace Go.Proofs.Ytlcmcmocjbeocaa
open Go.RowKit

/-- The error of an instruction speaks of parameters, slots and the number of instructions alone. -/
theorem insE_congr {N : Nat} {f f' : Fn} {x : Ins} (hp : f.params = f'.params) (hs : f.slots = f'.slots) (hl : f.code.length = f'.code.length) : insE N f x = insE N f' x := by
  have h : ∀ k n, opndE N f k n = opndE N f' k n := fun k n => by unfold opndE cntV; rw [hp, hs, hl]
  unfold insE opndsE moveBad
  rw [h, h, h, hs]
theorem ins_ok {N : Nat} {f : Fn} {op a b c m k1 k2 k3 : Int} {im : Bool} (hs : shpOf op = (k1, k2, k3, im)) (ho : 0 ≤ op ∧ op < 25) (ha : withB a (cntV N f k1) = true) (hb : withB b (cntV N f k2) = true) (hc : withB c (cntV N f k3) = true) (hm : im = true ∨ m = 0) (h17 : op ≠ 17 ∨ sizeAt f.slots a = sizeAt f.slots b) : insE N f ⟨op, a, b, c, m⟩ = 0 := by
  rw [insE_zero]
  simp only [hs]
  refine ⟨ho, opndE_zero.2 ha, opndE_zero.2 hb, opndE_zero.2 hc, hm, ?_⟩
  unfold moveBad
  rcases h17 with h | h
  · simp only [decide_eq_false h, Bool.false_and]
  · simp only [h, decide_true, Bool.not_true, Bool.and_false]

/-- An Imm field of 64 bits. -/
def immI (x : Ins) : Prop := 0 ≤ x.imm ∧ x.imm ≤ 18446744073709551615
/-- An instruction of function i that is right whatever code stands around it: no jump, no end; it calls later functions alone. -/
def goodI (N i : Nat) (P : Int) (l : List (Int × Int)) (x : Ins) : Prop := (x.op ≠ 20 ∧ x.op ≠ 21 ∧ x.op ≠ 23 ∧ x.op ≠ 24 ∧ immI x) ∧ (∀ c, insE N ⟨P, l, c⟩ x = 0) ∧ (x.op = 22 → (i : Int) < x.a)
/-- Such a one, or a jump whose target is still to come. -/
def preI (N i : Nat) (P : Int) (l : List (Int × Int)) (x : Ins) : Prop := goodI N i P l x ∨ (∃ a, 0 ≤ a ∧ a < 8 ∧ x = ⟨21, a, -1, 0, 0⟩) ∨ x = ⟨20, -1, 0, 0, 0⟩

section
variable {N i : Nat} {P : Int} {l : List (Int × Int)}
theorem mk_good {op a b c m : Int} (h : op ≠ 20 ∧ op ≠ 21 ∧ op ≠ 23 ∧ op ≠ 24) (hi : ∀ d, insE N ⟨P, l, d⟩ ⟨op, a, b, c, m⟩ = 0) (hc : op = 22 → (i : Int) < a) (hm : 0 ≤ m ∧ m ≤ 18446744073709551615 := by decide) : goodI N i P l ⟨op, a, b, c, m⟩ := ⟨⟨h.1, h.2.1, h.2.2.1, h.2.2.2, hm⟩, hi, hc⟩
theorem w1 : withB 0 1 = true := by decide
theorem good_store {s r : Int} (s0 : 0 ≤ s) (s1 : s < l.length) (r0 : 0 ≤ r) (r1 : r < 8) : goodI N i P l ⟨16, s, r, 0, 0⟩ :=
  mk_good (by decide) (fun c => ins_ok (k1 := 2) (k2 := 1) (k3 := 0) (im := false) rfl ⟨by decide, by decide⟩ (withB_true.2 ⟨s0, s1⟩) (withB_true.2 ⟨r0, r1⟩) w1 (.inr rfl) (.inl (by decide))) (fun h => absurd h (by decide))
theorem good_load {s r : Int} (s0 : 0 ≤ s) (s1 : s < l.length) (r0 : 0 ≤ r) (r1 : r < 8) : goodI N i P l ⟨15, r, s, 0, 0⟩ :=
  mk_good (by decide) (fun c => ins_ok (k1 := 1) (k2 := 2) (k3 := 0) (im := false) rfl ⟨by decide, by decide⟩ (withB_true.2 ⟨r0, r1⟩) (withB_true.2 ⟨s0, s1⟩) w1 (.inr rfl) (.inl (by decide))) (fun h => absurd h (by decide))
theorem good_move {s r : Int} (s0 : 0 ≤ s) (s1 : s < l.length) (r0 : 0 ≤ r) (r1 : r < l.length) (he : sizeAt l r = sizeAt l s) : goodI N i P l ⟨17, r, s, 0, 0⟩ :=
  mk_good (by decide) (fun c => ins_ok (k1 := 2) (k2 := 2) (k3 := 0) (im := false) rfl ⟨by decide, by decide⟩ (withB_true.2 ⟨r0, r1⟩) (withB_true.2 ⟨s0, s1⟩) w1 (.inr rfl) (.inr he)) (fun h => absurd h (by decide))
theorem good_const {r m : Int} (r0 : 0 ≤ r) (r1 : r < 8) (hm : 0 ≤ m ∧ m ≤ 18446744073709551615) : goodI N i P l ⟨0, r, 0, 0, m⟩ :=
  mk_good (by decide) (fun c => ins_ok (k1 := 1) (k2 := 0) (k3 := 0) (im := true) rfl ⟨by decide, by decide⟩ (withB_true.2 ⟨r0, r1⟩) w1 w1 (.inl rfl) (.inl (by decide))) (fun h => absurd h (by decide)) hm
theorem good_three {v r x y : Int} (v0 : 0 ≤ v) (v1 : v < 10) (r0 : 0 ≤ r) (r1 : r < 8) (x0 : 0 ≤ x) (x1 : x < 8) (y0 : 0 ≤ y) (y1 : y < 8) : goodI N i P l ⟨2 + v, r, x, y, 0⟩ := by
  have hs : shpOf (2 + v) = (1, 1, 1, false) := by
    rcases (show v = 0 ∨ v = 1 ∨ v = 2 ∨ v = 3 ∨ v = 4 ∨ v = 5 ∨ v = 6 ∨ v = 7 ∨ v = 8 ∨ v = 9 by omega) with rfl | rfl | rfl | rfl | rfl | rfl | rfl | rfl | rfl | rfl <;> rfl
  exact ⟨⟨by simp only; omega, by simp only; omega, by simp only; omega, by simp only; omega, (show (0 : Int) ≤ 0 ∧ (0 : Int) ≤ 18446744073709551615 by decide)⟩, fun c => ins_ok hs ⟨by omega, by omega⟩ (withB_true.2 ⟨r0, r1⟩) (withB_true.2 ⟨x0, x1⟩) (withB_true.2 ⟨y0, y1⟩) (.inr rfl) (.inl (by omega)), fun h => by simp only at h; omega⟩
theorem good_out {r : Int} (r0 : 0 ≤ r) (r1 : r < 8) : goodI N i P l ⟨14, r, 0, 0, 0⟩ :=
  mk_good (by decide) (fun c => ins_ok (k1 := 1) (k2 := 0) (k3 := 0) (im := false) rfl ⟨by decide, by decide⟩ (withB_true.2 ⟨r0, r1⟩) w1 w1 (.inr rfl) (.inl (by decide))) (fun h => absurd h (by decide))
theorem good_in {r : Int} (r0 : 0 ≤ r) (r1 : r < 8) : goodI N i P l ⟨13, r, 0, 0, 0⟩ :=
  mk_good (by decide) (fun c => ins_ok (k1 := 1) (k2 := 0) (k3 := 0) (im := false) rfl ⟨by decide, by decide⟩ (withB_true.2 ⟨r0, r1⟩) w1 w1 (.inr rfl) (.inl (by decide))) (fun h => absurd h (by decide))
theorem good_high {r : Int} (r0 : 0 ≤ r) (r1 : r < 8) : goodI N i P l ⟨12, r, 0, 0, 0⟩ :=
  mk_good (by decide) (fun c => ins_ok (k1 := 1) (k2 := 1) (k3 := 0) (im := false) rfl ⟨by decide, by decide⟩ (withB_true.2 ⟨r0, r1⟩) (show withB 0 8 = true by decide) w1 (.inr rfl) (.inl (by decide))) (fun h => absurd h (by decide))
theorem good_copy {r : Int} (r0 : 0 ≤ r) (r1 : r < 8) : goodI N i P l ⟨1, r, 0, 0, 0⟩ :=
  mk_good (by decide) (fun c => ins_ok (k1 := 1) (k2 := 1) (k3 := 0) (im := false) rfl ⟨by decide, by decide⟩ (withB_true.2 ⟨r0, r1⟩) (show withB 0 8 = true by decide) w1 (.inr rfl) (.inl (by decide))) (fun h => absurd h (by decide))
theorem good_param {r b : Int} (r0 : 0 ≤ r) (r1 : r < 8) (b0 : 0 ≤ b) (b1 : b < P) : goodI N i P l ⟨19, r, b, 0, 0⟩ :=
  mk_good (by decide) (fun c => ins_ok (k1 := 1) (k2 := 5) (k3 := 0) (im := false) rfl ⟨by decide, by decide⟩ (withB_true.2 ⟨r0, r1⟩) (withB_true.2 ⟨b0, b1⟩) w1 (.inr rfl) (.inl (by decide))) (fun h => absurd h (by decide))
theorem good_arg {a b : Int} (a0 : 0 ≤ a) (a1 : a < 8) (b0 : 0 ≤ b) (b1 : b < 8) : goodI N i P l ⟨18, a, b, 0, 0⟩ :=
  mk_good (by decide) (fun c => ins_ok (k1 := 4) (k2 := 1) (k3 := 0) (im := false) rfl ⟨by decide, by decide⟩ (withB_true.2 ⟨a0, a1⟩) (withB_true.2 ⟨b0, b1⟩) w1 (.inr rfl) (.inl (by decide))) (fun h => absurd h (by decide))
theorem good_call {j : Int} (j0 : (i : Int) < j) (j1 : j < N) : goodI N i P l ⟨22, j, 0, 0, 0⟩ :=
  mk_good (by decide) (fun c => ins_ok (k1 := 3) (k2 := 0) (k3 := 0) (im := false) rfl ⟨by decide, by decide⟩ (withB_true.2 ⟨by omega, j1⟩) w1 w1 (.inr rfl) (.inl (by decide))) (fun _ => j0)
theorem jump_ok {f : Fn} {t : Int} (t0 : 0 ≤ t) (t1 : t < f.code.length) : insE N f ⟨20, t, 0, 0, 0⟩ = 0 :=
  ins_ok (k1 := 6) (k2 := 0) (k3 := 0) (im := false) rfl ⟨by decide, by decide⟩ (withB_true.2 ⟨t0, t1⟩) w1 w1 (.inr rfl) (.inl (by decide))
theorem branch_ok {f : Fn} {a t : Int} (a0 : 0 ≤ a) (a1 : a < 8) (t0 : 0 ≤ t) (t1 : t < f.code.length) : insE N f ⟨21, a, t, 0, 0⟩ = 0 :=
  ins_ok (k1 := 1) (k2 := 6) (k3 := 0) (im := false) rfl ⟨by decide, by decide⟩ (withB_true.2 ⟨a0, a1⟩) (withB_true.2 ⟨t0, t1⟩) w1 (.inr rfl) (.inl (by decide))
theorem ret_ok {f : Fn} : insE N f ⟨23, 0, 0, 0, 0⟩ = 0 := ins_ok (k1 := 0) (k2 := 0) (k3 := 0) (im := false) rfl ⟨by decide, by decide⟩ w1 w1 w1 (.inr rfl) (.inl (by decide))
theorem trap_ok {f : Fn} {m : Int} : insE N f ⟨24, 0, 0, 0, m⟩ = 0 := ins_ok (k1 := 0) (k2 := 0) (k3 := 0) (im := true) rfl ⟨by decide, by decide⟩ w1 w1 w1 (.inl rfl) (.inl (by decide))
end
end Go.Proofs.Ytlcmcmocjbeocaa
end
