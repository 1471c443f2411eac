import Derived.Test.YthaabgiefpfeaaaMLeaf
import Derived.WalkKit
set_option linter.unusedVariables false
set_option linter.unusedSimpArgs false
section
/-
  The mathematics of source programs: instructions, functions, programs as lists; their errors, and when a change is noticed. Nothing here names the program.
-/
namespace Go.Proofs.Ythaabgiefpfeaaa
open Go.RowKit

/-- An instruction. -/
structure Ins where
  op : Int
  a : Int
  b : Int
  c : Int
  imm : Int
/-- A function. -/
structure Fn where
  params : Int
  slots : List (Int × Int)
  code : List Ins
/-- A program. -/
abbrev Pg := List Fn

/-- The first number that is not 0, or 0. -/
def firstE : List Int → Int
  | [] => 0
  | e :: r => if e = 0 then firstE r else e
theorem firstE_zero {l : List Int} : firstE l = 0 ↔ ∀ e ∈ l, e = 0 := by
  induction l with
  | nil => simp [firstE]
  | cons e r ih =>
    by_cases h : e = 0
    · simp [firstE, h, ih]
    · simp [firstE, h]
theorem firstE_hit {l : List Int} {k : Nat} {e : Int} (hk : l[k]? = some e) (he : e ≠ 0) (hb : ∀ j, j < k → l[j]? = some 0) : firstE l = e := by
  induction l generalizing k with
  | nil => simp at hk
  | cons x r ih =>
    cases k with
    | zero => simp at hk; subst hk; simp [firstE, he]
    | succ k =>
      have h0 := hb 0 (by omega)
      simp at h0
      subst h0
      simp only [firstE, if_true]
      exact ih (k := k) (by simpa using hk) fun j hj => by have := hb (j + 1) (by omega); simpa using this

/-- The kinds of the operands A, B, C of an operation: 0 unused, 1 a register, 2 a slot, 3 a function, 4 an argument, 5 a parameter, 6 a target; and whether Imm is used. -/
def shp : List (Int × Int × Int × Bool) :=
  [(1, 0, 0, true), (1, 1, 0, false), (1, 1, 1, false), (1, 1, 1, false), (1, 1, 1, false), (1, 1, 1, false), (1, 1, 1, false), (1, 1, 1, false), (1, 1, 1, false), (1, 1, 1, false), (1, 1, 1, false), (1, 1, 1, false),
   (1, 1, 0, false), (1, 0, 0, false), (1, 0, 0, false), (1, 2, 0, false), (2, 1, 0, false), (2, 2, 0, false), (4, 1, 0, false), (1, 5, 0, false), (6, 0, 0, false), (1, 6, 0, false), (3, 0, 0, false), (0, 0, 0, false), (0, 0, 0, true)]
def shpOf (op : Int) : Int × Int × Int × Bool := shp.getD op.toNat (0, 0, 0, false)

/-- How many numbers an operand of a kind may have. -/
def cntV (N : Nat) (f : Fn) (k : Int) : Int := if k = 1 then 8 else if k = 2 then f.slots.length else if k = 3 then N else if k = 4 then 8 else if k = 5 then f.params else if k = 6 then f.code.length else 1
def withB (n m : Int) : Bool := decide (0 ≤ n) && decide (n < m)
theorem withB_true {n m : Int} : withB n m = true ↔ 0 ≤ n ∧ n < m := by simp [withB]
theorem withB_false {n m : Int} : withB n m = false ↔ ¬(0 ≤ n ∧ n < m) := by rw [← withB_true]; simp
/-- The error of one operand. -/
def opndE (N : Nat) (f : Fn) (k n : Int) : Int := if withB n (cntV N f k) then 0 else if k = 0 then 2 else if k = 6 then 6 else 4
theorem opndE_cases (N : Nat) (f : Fn) (k n : Int) : opndE N f k n = 0 ∨ opndE N f k n = 2 ∨ opndE N f k n = 4 ∨ opndE N f k n = 6 := by unfold opndE; (repeat' split) <;> simp
theorem opndE_zero {N : Nat} {f : Fn} {k n : Int} : opndE N f k n = 0 ↔ withB n (cntV N f k) = true := by
  unfold opndE
  by_cases h : withB n (cntV N f k) = true
  · simp [h]
  · simp only [Bool.not_eq_true] at h
    simp only [h]
    (repeat' split) <;> simp_all
/-- The errors of three operands, in their order; the error of Imm behind them. -/
def foundE (e1 e2 e3 : Int) (m : Bool) (imm : Int) : List Int := [e1, e2, e3] ++ (if m = false ∧ imm ≠ 0 then [2] else [])
def opndsE (N : Nat) (f : Fn) (x : Ins) : List Int := foundE (opndE N f (shpOf x.op).1 x.a) (opndE N f (shpOf x.op).2.1 x.b) (opndE N f (shpOf x.op).2.2.1 x.c) (shpOf x.op).2.2.2 x.imm
/-- The first error in the document's order. -/
def rankE (l : List Int) (size : Bool) : Int := if l.contains 2 then 2 else if l.contains 4 then 4 else if size then 5 else if l.contains 6 then 6 else 0
theorem rankE_zero {e1 e2 e3 imm : Int} {m size : Bool} (c1 : e1 = 0 ∨ e1 = 2 ∨ e1 = 4 ∨ e1 = 6) (c2 : e2 = 0 ∨ e2 = 2 ∨ e2 = 4 ∨ e2 = 6) (c3 : e3 = 0 ∨ e3 = 2 ∨ e3 = 4 ∨ e3 = 6) :
    rankE (foundE e1 e2 e3 m imm) size = 0 ↔ e1 = 0 ∧ e2 = 0 ∧ e3 = 0 ∧ (m = true ∨ imm = 0) ∧ size = false := by
  have hi : (m = true ∨ imm = 0) ↔ ¬(m = false ∧ imm ≠ 0) := by cases m <;> simp
  rw [hi]
  unfold foundE
  by_cases h : m = false ∧ imm ≠ 0
  · rw [if_pos h]
    simp [rankE, h]
  · rw [if_neg h]
    clear hi
    cases size <;> rcases c1 with rfl | rfl | rfl | rfl <;> rcases c2 with rfl | rfl | rfl | rfl <;> rcases c3 with rfl | rfl | rfl | rfl <;> simp [rankE, h]
/-- The size of slot k. -/
def sizeAt (l : List (Int × Int)) (k : Int) : Int := (l.getD k.toNat (0, 0)).1
/-- A Move between slots of two sizes. -/
def moveBad (f : Fn) (x : Ins) : Bool := decide (x.op = 17) && !decide (sizeAt f.slots x.a = sizeAt f.slots x.b)
/-- The error of an instruction. -/
def insE (N : Nat) (f : Fn) (x : Ins) : Int := if withB x.op 25 = false then 4 else rankE (opndsE N f x) (moveBad f x)
def termB (op : Int) : Bool := op == 20 || op == 23 || op == 24
def closedB (l : List Ins) : Bool := match l.getLast? with
  | none => false
  | some x => termB x.op
/-- The error of a function. -/
def fnE (N : Nat) (f : Fn) : Int :=
  if 1024 < f.code.length then 3
  else if slotsE f.slots ≠ 0 then slotsE f.slots
  else if withB f.params 9 = false then 4
  else if firstE (f.code.map (insE N f)) ≠ 0 then firstE (f.code.map (insE N f))
  else if closedB f.code = false then 6 else 0
/-- The error of a program. -/
def pgE (F : Pg) : Int :=
  if 80 < F.length then 3
  else match F with
    | [] => 4
    | f :: _ => if f.params ≠ 0 then 7 else firstE (F.map (fnE F.length))

/-- What an instruction without an error is. -/
theorem insE_zero {N : Nat} {f : Fn} {x : Ins} : insE N f x = 0 ↔ (0 ≤ x.op ∧ x.op < 25) ∧ opndE N f (shpOf x.op).1 x.a = 0 ∧ opndE N f (shpOf x.op).2.1 x.b = 0 ∧ opndE N f (shpOf x.op).2.2.1 x.c = 0 ∧ ((shpOf x.op).2.2.2 = true ∨ x.imm = 0) ∧ moveBad f x = false := by
  unfold insE
  have h := rankE_zero (imm := x.imm) (m := (shpOf x.op).2.2.2) (size := moveBad f x) (opndE_cases N f (shpOf x.op).1 x.a) (opndE_cases N f (shpOf x.op).2.1 x.b) (opndE_cases N f (shpOf x.op).2.2.1 x.c)
  by_cases ho : withB x.op 25 = true
  · rw [if_neg (by simp [ho])]
    exact ⟨fun e => ⟨withB_true.1 ho, h.1 e⟩, fun e => h.2 e.2⟩
  · rw [if_pos (by simpa using ho)]
    exact ⟨(fun e => absurd e (by decide)), fun e => absurd (withB_true.2 e.1) ho⟩
theorem insE_op {N : Nat} {f : Fn} {x : Ins} (h : ¬(0 ≤ x.op ∧ x.op < 25)) : insE N f x = 4 := by
  unfold insE; rw [if_pos (withB_false.2 h)]
theorem cntV_le {N : Nat} {f : Fn} {k : Int} (hN : N ≤ 80) (hs : f.slots.length ≤ 512) (hp : f.params ≤ 8) (hc : f.code.length ≤ 1024) : cntV N f k ≤ 1024 := by
  unfold cntV; (repeat' split) <;> omega
theorem fnE_zero {N : Nat} {f : Fn} : fnE N f = 0 ↔ f.code.length ≤ 1024 ∧ slotsE f.slots = 0 ∧ (0 ≤ f.params ∧ f.params ≤ 8) ∧ (∀ x ∈ f.code, insE N f x = 0) ∧ closedB f.code = true := by
  unfold fnE
  have hf := @firstE_zero (f.code.map (insE N f))
  simp only [List.mem_map, forall_exists_index, and_imp, forall_apply_eq_imp_iff₂] at hf
  by_cases h1 : 1024 < f.code.length
  · rw [if_pos h1]; simp; omega
  · rw [if_neg h1]
    by_cases h2 : slotsE f.slots = 0
    · rw [if_neg (by simpa using h2)]
      by_cases h3 : withB f.params 9 = true
      · have h3' := withB_true.1 h3
        rw [if_neg (by simp [h3])]
        by_cases h4 : firstE (f.code.map (insE N f)) = 0
        · rw [if_neg (by simpa using h4)]
          have h4' := hf.1 h4
          by_cases h5 : closedB f.code = true
          · rw [if_neg (by simp [h5])]
            exact ⟨fun _ => ⟨by omega, h2, by omega, h4', h5⟩, fun _ => rfl⟩
          · rw [if_pos (by simpa using h5)]
            exact ⟨fun h => by simp at h, fun h => absurd h.2.2.2.2 h5⟩
        · rw [if_pos (by simpa using h4)]
          exact ⟨fun h => absurd h h4, fun h => absurd (hf.2 h.2.2.2.1) h4⟩
      · have h3' := withB_false.1 (by simpa using h3)
        rw [if_pos (by simpa using h3)]
        exact ⟨fun h => by simp at h, fun h => absurd ⟨h.2.2.1.1, by omega⟩ h3'⟩
    · rw [if_pos (by simpa using h2)]
      exact ⟨fun h => absurd h h2, fun h => absurd h.2.1 h2⟩
theorem pgE_zero {F : Pg} : pgE F = 0 ↔ F.length ≤ 80 ∧ (∃ f r, F = f :: r ∧ f.params = 0) ∧ ∀ f ∈ F, fnE F.length f = 0 := by
  unfold pgE
  have hf := @firstE_zero (F.map (fnE F.length))
  simp only [List.mem_map, forall_exists_index, and_imp, forall_apply_eq_imp_iff₂] at hf
  by_cases h1 : 80 < F.length
  · rw [if_pos h1]
    exact ⟨fun h => by simp at h, fun h => absurd h.1 (by omega)⟩
  · rw [if_neg h1]
    cases F with
    | nil => simp
    | cons f r =>
      simp only
      by_cases h2 : f.params = 0
      · rw [if_neg (by simpa using h2)]
        exact ⟨fun h => ⟨by omega, ⟨f, r, rfl, h2⟩, hf.1 h⟩, fun h => hf.2 h.2.2⟩
      · rw [if_pos h2]
        refine ⟨fun h => by simp at h, fun h => ?_⟩
        obtain ⟨_, ⟨g, s, he, hg⟩, _⟩ := h
        injection he with e1 e2
        subst e1
        exact absurd hg h2
theorem not_last {l : List Ins} {k : Nat} {x : Ins} (h : closedB l = true) (hx : l[k]? = some x) (ht : termB x.op = false) : k + 1 < l.length := by
  have hk := (List.getElem?_eq_some_iff.1 hx).1
  rcases Nat.lt_or_ge (k + 1) l.length with h1 | h1
  · exact h1
  · exfalso
    unfold closedB at h
    have : l.getLast? = some x := by rw [List.getLast?_eq_getElem?, show l.length - 1 = k by omega]; exact hx
    rw [this] at h
    dsimp only at h
    rw [h] at ht
    cases ht
theorem closed_some {l : List Ins} (h : closedB l = true) : 1 ≤ l.length := by
  cases l with
  | nil => cases h
  | cons a r => simp
end Go.Proofs.Ythaabgiefpfeaaa
end
