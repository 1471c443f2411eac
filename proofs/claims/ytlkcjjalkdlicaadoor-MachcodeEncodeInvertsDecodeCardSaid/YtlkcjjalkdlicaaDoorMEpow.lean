import Derived.Test.YtlkcjjalkdlicaaDoorMScan
import Derived.ProofKit
import Derived.WalkKit
import Derived.Maps.AppendAt
set_option linter.unusedVariables false
set_option linter.unusedSimpArgs false
section
/-
  The contract of extent.Power; what a right slot is. Conditions: those of the types.
-/
namespace Go.Proofs.YtlkcjjalkdlicaaDoor
open Go.RowKit

theorem ret_two {a b c d : Int} (h : a = b) (h' : c = d) : Ending.returned (.tuple #[.int .i64 a, .int .i64 c]) = .returned (.tuple #[.int .i64 b, .int .i64 d]) := by rw [h, h']
/-- An int. -/
def isI (n : Int) : Prop := -9223372036854775808 ≤ n ∧ n ≤ 9223372036854775807

theorem power_any (n : Int) (w : World) : Calls Tryd.prog 58 #[.int .i64 n] w fun e w' => e = .returned (.bool (powB n)) ∧ w = w' := by
  by_cases h0 : 1 ≤ n
  · by_cases h1 : n ≤ 16777216
    · have hb := bits_pow n h0 h1
      generalize powB n = b at hb ⊢
      go_enter Tryd.func58, Tryd.ntmps58
      go_wp2
      go_ret
      exact ⟨rfl, rfl⟩
    · have hp := hide (powB_out (n := n) (by omega))
      go_enter Tryd.func58, Tryd.ntmps58
      go_wp2
      go_ret
      exact ⟨ret_bool hp.out.symm, rfl⟩
  · have hp := hide (powB_out (n := n) (by omega))
    go_enter Tryd.func58, Tryd.ntmps58
    go_wp2
    go_ret
    exact ⟨ret_bool hp.out.symm, rfl⟩

/-- A size of a slot. -/
def szB (n : Int) : Bool := decide (n = 1 ∨ n = 2 ∨ n = 4 ∨ n = 8 ∨ n = 16)
/-- A slot is right. -/
def slotB (s a : Int) : Bool := szB s && powB a

end Go.Proofs.YtlkcjjalkdlicaaDoor
end

section
/-
  What extent.Slots and Align give, as mathematics. No function of the program is named here.
-/
namespace Go.Proofs.YtlkcjjalkdlicaaDoor
open Go.RowKit

/-- The error of a list of slots. -/
def slotsE (l : List (Int × Int)) : Int := if 512 < l.length then 3 else if l.any (fun u => !slotB u.1 u.2) then 5 else 0
theorem slotsE_many {l : List (Int × Int)} (h : 512 < l.length) : slotsE l = 3 := by simp [slotsE, h]
theorem slotsE_few {l : List (Int × Int)} (h : l.length ≤ 512) : slotsE l = if l.any (fun u => !slotB u.1 u.2) then 5 else 0 := by simp only [slotsE]; rw [if_neg (by omega)]
/-- The greatest alignment of the first k slots, at least 16. -/
def alM (l : List (Int × Int)) (k : Nat) : Int := (l.take k).foldl (fun m u => max m u.2) 16
theorem alM_zero (l : List (Int × Int)) : alM l 0 = 16 := rfl
theorem alM_succ (l : List (Int × Int)) (k : Nat) (hk : k < l.length) : alM l (k + 1) = max (alM l k) l[k].2 := by
  unfold alM
  rw [List.take_add_one, List.getElem?_eq_getElem hk, List.foldl_append]
  rfl
/-- What Align gives. -/
def alignV (l : List (Int × Int)) : Int := if slotsE l = 0 then alM l l.length else 16

theorem slotsE_cases (l : List (Int × Int)) : slotsE l = 0 ∨ slotsE l = 3 ∨ slotsE l = 5 := by unfold slotsE; split <;> (try split) <;> simp

theorem any_hit {l : List (Int × Int)} {p : Int × Int → Bool} {k : Nat} (hk : k < l.length) (h : p l[k] = true) : l.any p = true := List.any_eq_true.2 ⟨l[k], List.getElem_mem hk, h⟩
theorem any_miss {l : List (Int × Int)} {p : Int × Int → Bool} (h : ∀ j (hj : j < l.length), p l[j] = false) : l.any p = false := by
  rw [List.any_eq_false]
  intro x hx
  obtain ⟨j, hj, rfl⟩ := List.getElem_of_mem hx
  rw [h j hj]
  simp

end Go.Proofs.YtlkcjjalkdlicaaDoor
end

section
/-
  The mathematics of source programs: instructions, functions, programs as lists; their errors, and when a change is noticed. Nothing here names the program.
-/
namespace Go.Proofs.YtlkcjjalkdlicaaDoor
open Go.RowKit

/-- An instruction. -/
structure Ins where
  op : Int
  a : Int
  b : Int
  c : Int
  imm : Int
/-- A function. -/
structure Fn where
  params : Int
  slots : List (Int × Int)
  code : List Ins
/-- A program. -/
abbrev Pg := List Fn

/-- The first number that is not 0, or 0. -/
def firstE : List Int → Int
  | [] => 0
  | e :: r => if e = 0 then firstE r else e
theorem firstE_zero {l : List Int} : firstE l = 0 ↔ ∀ e ∈ l, e = 0 := by
  induction l with
  | nil => simp [firstE]
  | cons e r ih =>
    by_cases h : e = 0
    · simp [firstE, h, ih]
    · simp [firstE, h]
theorem firstE_hit {l : List Int} {k : Nat} {e : Int} (hk : l[k]? = some e) (he : e ≠ 0) (hb : ∀ j, j < k → l[j]? = some 0) : firstE l = e := by
  induction l generalizing k with
  | nil => simp at hk
  | cons x r ih =>
    cases k with
    | zero => simp at hk; subst hk; simp [firstE, he]
    | succ k =>
      have h0 := hb 0 (by omega)
      simp at h0
      subst h0
      simp only [firstE, if_true]
      exact ih (k := k) (by simpa using hk) fun j hj => by have := hb (j + 1) (by omega); simpa using this

/-- The kinds of the operands A, B, C of an operation: 0 unused, 1 a register, 2 a slot, 3 a function, 4 an argument, 5 a parameter, 6 a target; and whether Imm is used. -/
def shp : List (Int × Int × Int × Bool) :=
  [(1, 0, 0, true), (1, 1, 0, false), (1, 1, 1, false), (1, 1, 1, false), (1, 1, 1, false), (1, 1, 1, false), (1, 1, 1, false), (1, 1, 1, false), (1, 1, 1, false), (1, 1, 1, false), (1, 1, 1, false), (1, 1, 1, false),
   (1, 1, 0, false), (1, 0, 0, false), (1, 0, 0, false), (1, 2, 0, false), (2, 1, 0, false), (2, 2, 0, false), (4, 1, 0, false), (1, 5, 0, false), (6, 0, 0, false), (1, 6, 0, false), (3, 0, 0, false), (0, 0, 0, false), (0, 0, 0, true)]
def shpOf (op : Int) : Int × Int × Int × Bool := shp.getD op.toNat (0, 0, 0, false)

/-- How many numbers an operand of a kind may have. -/
def cntV (N : Nat) (f : Fn) (k : Int) : Int := if k = 1 then 8 else if k = 2 then f.slots.length else if k = 3 then N else if k = 4 then 8 else if k = 5 then f.params else if k = 6 then f.code.length else 1
def withB (n m : Int) : Bool := decide (0 ≤ n) && decide (n < m)
theorem withB_true {n m : Int} : withB n m = true ↔ 0 ≤ n ∧ n < m := by simp [withB]
theorem withB_false {n m : Int} : withB n m = false ↔ ¬(0 ≤ n ∧ n < m) := by rw [← withB_true]; simp
/-- The error of one operand. -/
def opndE (N : Nat) (f : Fn) (k n : Int) : Int := if withB n (cntV N f k) then 0 else if k = 0 then 2 else if k = 6 then 6 else 4
theorem opndE_cases (N : Nat) (f : Fn) (k n : Int) : opndE N f k n = 0 ∨ opndE N f k n = 2 ∨ opndE N f k n = 4 ∨ opndE N f k n = 6 := by unfold opndE; (repeat' split) <;> simp
theorem opndE_zero {N : Nat} {f : Fn} {k n : Int} : opndE N f k n = 0 ↔ withB n (cntV N f k) = true := by
  unfold opndE
  by_cases h : withB n (cntV N f k) = true
  · simp [h]
  · simp only [Bool.not_eq_true] at h
    simp only [h]
    (repeat' split) <;> simp_all
/-- The errors of three operands, in their order; the error of Imm behind them. -/
def foundE (e1 e2 e3 : Int) (m : Bool) (imm : Int) : List Int := [e1, e2, e3] ++ (if m = false ∧ imm ≠ 0 then [2] else [])
def opndsE (N : Nat) (f : Fn) (x : Ins) : List Int := foundE (opndE N f (shpOf x.op).1 x.a) (opndE N f (shpOf x.op).2.1 x.b) (opndE N f (shpOf x.op).2.2.1 x.c) (shpOf x.op).2.2.2 x.imm
/-- The first error in the document's order. -/
def rankE (l : List Int) (size : Bool) : Int := if l.contains 2 then 2 else if l.contains 4 then 4 else if size then 5 else if l.contains 6 then 6 else 0
theorem rankE_zero {e1 e2 e3 imm : Int} {m size : Bool} (c1 : e1 = 0 ∨ e1 = 2 ∨ e1 = 4 ∨ e1 = 6) (c2 : e2 = 0 ∨ e2 = 2 ∨ e2 = 4 ∨ e2 = 6) (c3 : e3 = 0 ∨ e3 = 2 ∨ e3 = 4 ∨ e3 = 6) :
    rankE (foundE e1 e2 e3 m imm) size = 0 ↔ e1 = 0 ∧ e2 = 0 ∧ e3 = 0 ∧ (m = true ∨ imm = 0) ∧ size = false := by
  have hi : (m = true ∨ imm = 0) ↔ ¬(m = false ∧ imm ≠ 0) := by cases m <;> simp
  rw [hi]
  unfold foundE
  by_cases h : m = false ∧ imm ≠ 0
  · rw [if_pos h]
    simp [rankE, h]
  · rw [if_neg h]
    clear hi
    cases size <;> rcases c1 with rfl | rfl | rfl | rfl <;> rcases c2 with rfl | rfl | rfl | rfl <;> rcases c3 with rfl | rfl | rfl | rfl <;> simp [rankE, h]
/-- The size of slot k. -/
def sizeAt (l : List (Int × Int)) (k : Int) : Int := (l.getD k.toNat (0, 0)).1
/-- A Move between slots of two sizes. -/
def moveBad (f : Fn) (x : Ins) : Bool := decide (x.op = 17) && !decide (sizeAt f.slots x.a = sizeAt f.slots x.b)
/-- The error of an instruction. -/
def insE (N : Nat) (f : Fn) (x : Ins) : Int := if withB x.op 25 = false then 4 else rankE (opndsE N f x) (moveBad f x)
def termB (op : Int) : Bool := op == 20 || op == 23 || op == 24
def closedB (l : List Ins) : Bool := match l.getLast? with
  | none => false
  | some x => termB x.op
/-- The error of a function. -/
def fnE (N : Nat) (f : Fn) : Int :=
  if 1024 < f.code.length then 3
  else if slotsE f.slots ≠ 0 then slotsE f.slots
  else if withB f.params 9 = false then 4
  else if firstE (f.code.map (insE N f)) ≠ 0 then firstE (f.code.map (insE N f))
  else if closedB f.code = false then 6 else 0
/-- The error of a program. -/
def pgE (F : Pg) : Int :=
  if 80 < F.length then 3
  else match F with
    | [] => 4
    | f :: _ => if f.params ≠ 0 then 7 else firstE (F.map (fnE F.length))

/-- What an instruction without an error is. -/
theorem insE_zero {N : Nat} {f : Fn} {x : Ins} : insE N f x = 0 ↔ (0 ≤ x.op ∧ x.op < 25) ∧ opndE N f (shpOf x.op).1 x.a = 0 ∧ opndE N f (shpOf x.op).2.1 x.b = 0 ∧ opndE N f (shpOf x.op).2.2.1 x.c = 0 ∧ ((shpOf x.op).2.2.2 = true ∨ x.imm = 0) ∧ moveBad f x = false := by
  unfold insE
  have h := rankE_zero (imm := x.imm) (m := (shpOf x.op).2.2.2) (size := moveBad f x) (opndE_cases N f (shpOf x.op).1 x.a) (opndE_cases N f (shpOf x.op).2.1 x.b) (opndE_cases N f (shpOf x.op).2.2.1 x.c)
  by_cases ho : withB x.op 25 = true
  · rw [if_neg (by simp [ho])]
    exact ⟨fun e => ⟨withB_true.1 ho, h.1 e⟩, fun e => h.2 e.2⟩
  · rw [if_pos (by simpa using ho)]
    exact ⟨(fun e => absurd e (by decide)), fun e => absurd (withB_true.2 e.1) ho⟩
theorem insE_op {N : Nat} {f : Fn} {x : Ins} (h : ¬(0 ≤ x.op ∧ x.op < 25)) : insE N f x = 4 := by
  unfold insE; rw [if_pos (withB_false.2 h)]
theorem cntV_le {N : Nat} {f : Fn} {k : Int} (hN : N ≤ 80) (hs : f.slots.length ≤ 512) (hp : f.params ≤ 8) (hc : f.code.length ≤ 1024) : cntV N f k ≤ 1024 := by
  unfold cntV; (repeat' split) <;> omega
theorem fnE_zero {N : Nat} {f : Fn} : fnE N f = 0 ↔ f.code.length ≤ 1024 ∧ slotsE f.slots = 0 ∧ (0 ≤ f.params ∧ f.params ≤ 8) ∧ (∀ x ∈ f.code, insE N f x = 0) ∧ closedB f.code = true := by
  unfold fnE
  have hf := @firstE_zero (f.code.map (insE N f))
  simp only [List.mem_map, forall_exists_index, and_imp, forall_apply_eq_imp_iff₂] at hf
  by_cases h1 : 1024 < f.code.length
  · rw [if_pos h1]; simp; omega
  · rw [if_neg h1]
    by_cases h2 : slotsE f.slots = 0
    · rw [if_neg (by simpa using h2)]
      by_cases h3 : withB f.params 9 = true
      · have h3' := withB_true.1 h3
        rw [if_neg (by simp [h3])]
        by_cases h4 : firstE (f.code.map (insE N f)) = 0
        · rw [if_neg (by simpa using h4)]
          have h4' := hf.1 h4
          by_cases h5 : closedB f.code = true
          · rw [if_neg (by simp [h5])]
            exact ⟨fun _ => ⟨by omega, h2, by omega, h4', h5⟩, fun _ => rfl⟩
          · rw [if_pos (by simpa using h5)]
            exact ⟨fun h => by simp at h, fun h => absurd h.2.2.2.2 h5⟩
        · rw [if_pos (by simpa using h4)]
          exact ⟨fun h => absurd h h4, fun h => absurd (hf.2 h.2.2.2.1) h4⟩
      · have h3' := withB_false.1 (by simpa using h3)
        rw [if_pos (by simpa using h3)]
        exact ⟨fun h => by simp at h, fun h => absurd ⟨h.2.2.1.1, by omega⟩ h3'⟩
    · rw [if_pos (by simpa using h2)]
      exact ⟨fun h => absurd h h2, fun h => absurd h.2.1 h2⟩
theorem pgE_zero {F : Pg} : pgE F = 0 ↔ F.length ≤ 80 ∧ (∃ f r, F = f :: r ∧ f.params = 0) ∧ ∀ f ∈ F, fnE F.length f = 0 := by
  unfold pgE
  have hf := @firstE_zero (F.map (fnE F.length))
  simp only [List.mem_map, forall_exists_index, and_imp, forall_apply_eq_imp_iff₂] at hf
  by_cases h1 : 80 < F.length
  · rw [if_pos h1]
    exact ⟨fun h => by simp at h, fun h => absurd h.1 (by omega)⟩
  · rw [if_neg h1]
    cases F with
    | nil => simp
    | cons f r =>
      simp only
      by_cases h2 : f.params = 0
      · rw [if_neg (by simpa using h2)]
        exact ⟨fun h => ⟨by omega, ⟨f, r, rfl, h2⟩, hf.1 h⟩, fun h => hf.2 h.2.2⟩
      · rw [if_pos h2]
        refine ⟨fun h => by simp at h, fun h => ?_⟩
        obtain ⟨_, ⟨g, s, he, hg⟩, _⟩ := h
        injection he with e1 e2
        subst e1
        exact absurd hg h2
end Go.Proofs.YtlkcjjalkdlicaaDoor
end

section
/-
  Which operands the operations use, by their shapes. No function of the program is named here.
-/
namespace Go.Proofs.YtlkcjjalkdlicaaDoor
open Go.RowKit

/-- Which operands an operation uses. -/
def useA (op : Int) : Bool := !decide ((shpOf op).1 = 0)
def useB (op : Int) : Bool := !decide ((shpOf op).2.1 = 0)
def useC (op : Int) : Bool := !decide ((shpOf op).2.2.1 = 0)
def useI (op : Int) : Bool := (shpOf op).2.2.2

theorem shapes_of {z : Int} (h0 : 0 ≤ z) (h1 : z < 25) : (useA z = true ∧ useB z = true ∧ useC z = true ∧ useI z = false) ∨ (useA z = true ∧ useB z = true ∧ useC z = false ∧ useI z = false) ∨ (useA z = true ∧ useB z = false ∧ useC z = false ∧ useI z = false) ∨ (useA z = true ∧ useB z = false ∧ useC z = false ∧ useI z = true) ∨ (useA z = false ∧ useB z = false ∧ useC z = false ∧ useI z = true) ∨ (useA z = false ∧ useB z = false ∧ useC z = false ∧ useI z = false) := by
  have e : ∀ k : Fin 25, (useA (k.val : Int) = true ∧ useB (k.val : Int) = true ∧ useC (k.val : Int) = true ∧ useI (k.val : Int) = false) ∨ (useA (k.val : Int) = true ∧ useB (k.val : Int) = true ∧ useC (k.val : Int) = false ∧ useI (k.val : Int) = false) ∨ (useA (k.val : Int) = true ∧ useB (k.val : Int) = false ∧ useC (k.val : Int) = false ∧ useI (k.val : Int) = false) ∨ (useA (k.val : Int) = true ∧ useB (k.val : Int) = false ∧ useC (k.val : Int) = false ∧ useI (k.val : Int) = true) ∨ (useA (k.val : Int) = false ∧ useB (k.val : Int) = false ∧ useC (k.val : Int) = false ∧ useI (k.val : Int) = true) ∨ (useA (k.val : Int) = false ∧ useB (k.val : Int) = false ∧ useC (k.val : Int) = false ∧ useI (k.val : Int) = false) := by decide
  have := e ⟨z.toNat, by omega⟩
  simp only at this
  rwa [Int.toNat_of_nonneg h0] at this
end Go.Proofs.YtlkcjjalkdlicaaDoor
end

section
/-
  The contracts of spillframedraw's New, Left, Next: a list of choices behind a pointer. 'Codes w g': block g is such an object, its list below it. Conditions: those of the types; a choice from 1 to 2^32 values.
-/
namespace Go.Proofs.YtlkcjjalkdlicaaDoor
open Go.RowKit

/-- Block g holds a list of choices and a place in it; the list lies below g. -/
def Codes (w : World) (g : Nat) : Prop :=
  ∃ (A : Option Addr) (n c : Nat) (zs : List Int) (i : Nat), Row w g 85 [.slice A n c, .int .i64 (i : Int)] ∧ Sees w g A (cellsU8 zs) ∧ zs.length = n ∧ n ≤ 9223372036854775807 ∧ (∀ z ∈ zs, 0 ≤ z ∧ z ≤ 255) ∧ i ≤ n
theorem Codes.lt {w : World} {g : Nat} (h : Codes w g) : g < w.heap.size := by
  obtain ⟨A, n, c, zs, i, r, _⟩ := h
  exact r.lt
theorem Codes.below {w w' : World} {g : Nat} (h : Codes w g) (hb : Below w.heap.size w w') : Codes w' g := by
  have hl := h.lt
  obtain ⟨A, n, c, zs, i, r, s, h⟩ := h
  exact ⟨A, n, c, zs, i, r.call hb, s.keep fun p hp => hb.cell (by omega), h⟩
theorem Codes.kept {w w' : World} {g : Nat} {row : Option Nat} (h : Codes w g) (hg : w.grownBy w' row) (hr : ∀ k, row = some k → g < k) : Codes w' g := by
  have hl := h.lt
  obtain ⟨A, n, c, zs, i, r, s, h⟩ := h
  refine ⟨A, n, c, zs, i, r.grown hg (fun e => ?_), s.keep fun p hp => ?_, h⟩
  · have := hr g e.symm
    omega
  · exact World.cell?_of_block (hg.block p.block (by omega) (fun e => by have := hr p.block e.symm; omega))
theorem Codes.drewN {w : World} {g : Nat} (h : Codes w g) (n : Nat) : Codes (w.drewN n) g := by
  obtain ⟨A, n', c, zs, i, r, s, h⟩ := h
  exact ⟨A, n', c, zs, i, r.drewN n, s.draws n, h⟩
theorem Codes.drew {w : World} {g : Nat} (h : Codes w g) : Codes w.drew g := h.drewN 1
theorem Codes.alloc {w : World} {g : Nat} (h : Codes w g) (o : Obj) : Codes (w.alloc o) g := h.below (below1 w o)

theorem grown_draws {w w' : World} {row : Option Nat} (h : w.grownBy w' row) (k : Nat) : w.grownBy (w'.drewN k) row := ⟨h.os, h.tape, h.output, h.size, h.block⟩
theorem grown_set {w w' : World} {g : Nat} (h : w.grownBy w' (some g)) (k : Nat) (u : Value) : w.grownBy (w'.setCell ⟨g, k, none⟩ u) (some g) :=
  ⟨h.os, h.tape, h.output, by simpa [World.setCell] using h.size, fun i hi hne => (Below.heap_setCell w' ⟨g, k, none⟩ u i (by rintro rfl; exact hne rfl)).trans (h.block i hi hne)⟩
theorem grown_below {w w' : World} (h : Below w.heap.size w w') (row : Option Nat) : w.grownBy w' row := ⟨h.os, h.tape, h.output, h.size, fun i hi _ => h.block i hi⟩
/-- What lies below B is as it was, if only block g has turned and B is at most g. -/
theorem below_grown {B g : Nat} {w w' w'' : World} (h : Below B w w') (hg : w'.grownBy w'' (some g)) (hB : B ≤ g) (hs : B ≤ w'.heap.size) : Below B w w'' :=
  h.grown hg hs fun k hk => by injection hk with hk; omega

theorem take_cells (zs : List Int) (k : Nat) : (cellsU8 zs).take k = cellsU8 (zs.take k) := by simp [cellsU8]

set_option maxHeartbeats 400000 in
theorem new_any (A : Option Addr) (n c : Nat) (zs : List Int) (l : Nat) (w : World) (hA : Hid (A = none → c = 0)) (hn : Hid (zs.length = n)) (hnc : n ≤ c) (hm : n ≤ 9223372036854775807) (hl : l ≤ 1000000) (hs : Hid (Sees w w.heap.size A (cellsU8 zs))) (hz : Hid (∀ z ∈ zs, 0 ≤ z ∧ z ≤ 255)) :
    Calls Tryd.prog 14 #[.slice A n c, .int .i64 (l : Int)] w fun e w' => e = .returned (.pointer (some ⟨w.heap.size, 0, none⟩)) ∧ Codes w' w.heap.size ∧ Below w.heap.size w w' := by
  have key : ∀ (m : Nat) (A' : Option Addr) (c' : Nat), m ≤ n → A' = A → Codes (w.alloc (.cells #[.slice A' m c', .int .i64 0] 85)) w.heap.size := by
    rintro m A' c' hmn rfl
    refine ⟨A', m, c', zs.take m, 0, Row.new w _ _, ?_, by have := hn.out; simp; omega, by omega, fun z h => hz.out z (List.mem_of_mem_take h), by omega⟩
    rw [← take_cells]
    exact (hs.out.alloc (Nat.le_refl _) _).take m
  by_cases hlt : n ≤ l
  · go_enter Tryd.func14, Tryd.ntmps14
    go_wp2
    go_ret
    exact ⟨rfl, key _ _ _ (by omega) rfl, below1 _ _⟩
  · go_enter Tryd.func14, Tryd.ntmps14
    go_wp2
    go_ret
    exact ⟨rfl, key _ _ _ (by omega) rfl, below1 _ _⟩

set_option maxHeartbeats 400000 in
theorem left_any (g : Nat) (A : Option Addr) (n c i : Nat) (w : World) (hr : Hid (Row w g 85 [.slice A n c, .int .i64 (i : Int)])) (b : Bool) (hb : Hid (decide ((i : Int) < (n : Int)) = b)) :
    Calls Tryd.prog 47 #[.pointer (some ⟨g, 0, none⟩)] w fun e w' => e = .returned (.bool b) ∧ ∃ k, w' = w.drewN k := by
  have c0 := hr.out.cell (k := 0) rfl
  have c1 := hr.out.cell (k := 1) rfl
  go_enter Tryd.func47, Tryd.ntmps47
  go_wp2
  go_quiet (fail)
  go_wp2
  go_ret
  exact ⟨ret_bool (by rw [← hb.out]; simp), _, rfl⟩

def NextPost (g : Nat) (k : Int) (w : World) (e : Ending) (w' : World) : Prop := ∃ v : Int, e = .returned (.int .i64 v) ∧ 0 ≤ v ∧ v < k ∧ Codes w' g ∧ w.grownBy w' (some g) ∧ w'.heap.size = w.heap.size

set_option maxHeartbeats 800000 in
theorem next_any (g : Nat) (k : Int) (w : World) (h : Hid (Codes w g)) (hk : 1 ≤ k) (hk1 : k ≤ 4294967296) : Calls Tryd.prog 25 #[.pointer (some ⟨g, 0, none⟩), .int .i64 k] w (NextPost g k w) := by
  obtain ⟨A, n, c, zs, i, r, s, hn, hm, hz, hi⟩ := h.out
  have hr := hide r
  by_cases hlt : i < n
  · have cl := left_any g A n c i w hr true (decide_eq_true (by omega))
    obtain ⟨b, off, v, rfl, hbg, hcell, v0, v1, _⟩ := byte_at s (by omega : i < zs.length) hz
    have hs := hide s
    have Hn := hide hn
    have Hz := hide hz
    have x0 : 0 ≤ v * k := Int.mul_nonneg v0 (by omega)
    have x1 : v * k ≤ 255 * k := Int.mul_le_mul_of_nonneg_right v1 (by omega)
    have c0 := r.cell (k := 0) rfl
    have c1 := r.cell (k := 1) rfl
    have z1 := r.free 1
    have hi0 : (0 : Int) ≤ (i : Int) := by omega
    have hi1 : (i : Int) < (n : Int) := by omega
    clear s hz hn r
    go_enter Tryd.func25, Tryd.ntmps25
    go_wp2_with fail
    refine cl.mono ?_
    rintro e w' ⟨rfl, q, rfl⟩
    go_wp2_with fail
    go_quiet (fail)
    go_wp2_with fail
    go_ret
    refine ⟨_, rfl, by omega, by omega, ?_, ?_, by simp [World.setCell]⟩
    · refine ⟨some ⟨b, off, none⟩, n, c, zs, i + 1, ?_, ?_, Hn.out, hm, Hz.out, by omega⟩
      · exact ((hr.out.drewN _).set_ 1 _)
      · exact (hs.out.draws _).keep fun p hp => World.cell?_setCell_other _ _ _ _ (fun e => by subst e; simp at hp)
    · exact grown_set (grown_draws (World.grownBy.refl w _) _) 1 _
  · have cl := left_any g A n c i w hr false (decide_eq_false (by omega))
    clear s hn hz
    go_enter Tryd.func25, Tryd.ntmps25
    go_wp2_with fail
    refine cl.mono ?_
    rintro e w' ⟨rfl, q, rfl⟩
    go_wp2_with fail
    go_ret
    exact ⟨0, rfl, by omega, by omega, h.out.drewN q, grown_draws (World.grownBy.refl w _) q, rfl⟩
end Go.Proofs.YtlkcjjalkdlicaaDoor
end
