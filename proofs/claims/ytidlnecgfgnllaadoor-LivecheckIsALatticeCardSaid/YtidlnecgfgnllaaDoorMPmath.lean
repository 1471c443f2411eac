import Derived.Test.YtidlnecgfgnllaaDoorMFgr
import Derived.Test.YtidlnecgfgnllaaDoorMKit
import Derived.WalkKit
set_option linter.unusedVariables false
set_option linter.unusedSimpArgs false
section
/-
  The mathematics of source programs: instructions, functions, programs as lists; their errors, and when a change is noticed. Nothing here names the program.
-/
namespace Go.Proofs.YtidlnecgfgnllaaDoor
open Go.RowKit

/-- An instruction. -/
structure Ins where
  op : Int
  a : Int
  b : Int
  c : Int
  imm : Int
/-- A function. -/
structure Fn where
  params : Int
  slots : List (Int × Int)
  code : List Ins
/-- A program. -/
abbrev Pg := List Fn

/-- The first number that is not 0, or 0. -/
def firstE : List Int → Int
  | [] => 0
  | e :: r => if e = 0 then firstE r else e
theorem firstE_zero {l : List Int} : firstE l = 0 ↔ ∀ e ∈ l, e = 0 := by
  induction l with
  | nil => simp [firstE]
  | cons e r ih =>
    by_cases h : e = 0
    · simp [firstE, h, ih]
    · simp [firstE, h]
theorem firstE_hit {l : List Int} {k : Nat} {e : Int} (hk : l[k]? = some e) (he : e ≠ 0) (hb : ∀ j, j < k → l[j]? = some 0) : firstE l = e := by
  induction l generalizing k with
  | nil => simp at hk
  | cons x r ih =>
    cases k with
    | zero => simp at hk; subst hk; simp [firstE, he]
    | succ k =>
      have h0 := hb 0 (by omega)
      simp at h0
      subst h0
      simp only [firstE, if_true]
      exact ih (k := k) (by simpa using hk) fun j hj => by have := hb (j + 1) (by omega); simpa using this

/-- The kinds of the operands A, B, C of an operation: 0 unused, 1 a register, 2 a slot, 3 a function, 4 an argument, 5 a parameter, 6 a target; and whether Imm is used. -/
def shp : List (Int × Int × Int × Bool) :=
  [(1, 0, 0, true), (1, 1, 0, false), (1, 1, 1, false), (1, 1, 1, false), (1, 1, 1, false), (1, 1, 1, false), (1, 1, 1, false), (1, 1, 1, false), (1, 1, 1, false), (1, 1, 1, false), (1, 1, 1, false), (1, 1, 1, false),
   (1, 1, 0, false), (1, 0, 0, false), (1, 0, 0, false), (1, 2, 0, false), (2, 1, 0, false), (2, 2, 0, false), (4, 1, 0, false), (1, 5, 0, false), (6, 0, 0, false), (1, 6, 0, false), (3, 0, 0, false), (0, 0, 0, false), (0, 0, 0, true)]
def shpOf (op : Int) : Int × Int × Int × Bool := shp.getD op.toNat (0, 0, 0, false)

/-- How many numbers an operand of a kind may have. -/
def cntV (N : Nat) (f : Fn) (k : Int) : Int := if k = 1 then 8 else if k = 2 then f.slots.length else if k = 3 then N else if k = 4 then 8 else if k = 5 then f.params else if k = 6 then f.code.length else 1
def withB (n m : Int) : Bool := decide (0 ≤ n) && decide (n < m)
theorem withB_true {n m : Int} : withB n m = true ↔ 0 ≤ n ∧ n < m := by simp [withB]
theorem withB_false {n m : Int} : withB n m = false ↔ ¬(0 ≤ n ∧ n < m) := by rw [← withB_true]; simp
/-- The error of one operand. -/
def opndE (N : Nat) (f : Fn) (k n : Int) : Int := if withB n (cntV N f k) then 0 else if k = 0 then 2 else if k = 6 then 6 else 4
theorem opndE_cases (N : Nat) (f : Fn) (k n : Int) : opndE N f k n = 0 ∨ opndE N f k n = 2 ∨ opndE N f k n = 4 ∨ opndE N f k n = 6 := by unfold opndE; (repeat' split) <;> simp
theorem opndE_zero {N : Nat} {f : Fn} {k n : Int} : opndE N f k n = 0 ↔ withB n (cntV N f k) = true := by
  unfold opndE
  by_cases h : withB n (cntV N f k) = true
  · simp [h]
  · simp only [Bool.not_eq_true] at h
    simp only [h]
    (repeat' split) <;> simp_all
/-- The errors of three operands, in their order; the error of Imm behind them. -/
def foundE (e1 e2 e3 : Int) (m : Bool) (imm : Int) : List Int := [e1, e2, e3] ++ (if m = false ∧ imm ≠ 0 then [2] else [])
def opndsE (N : Nat) (f : Fn) (x : Ins) : List Int := foundE (opndE N f (shpOf x.op).1 x.a) (opndE N f (shpOf x.op).2.1 x.b) (opndE N f (shpOf x.op).2.2.1 x.c) (shpOf x.op).2.2.2 x.imm
/-- The first error in the document's order. -/
def rankE (l : List Int) (size : Bool) : Int := if l.contains 2 then 2 else if l.contains 4 then 4 else if size then 5 else if l.contains 6 then 6 else 0
theorem rankE_zero {e1 e2 e3 imm : Int} {m size : Bool} (c1 : e1 = 0 ∨ e1 = 2 ∨ e1 = 4 ∨ e1 = 6) (c2 : e2 = 0 ∨ e2 = 2 ∨ e2 = 4 ∨ e2 = 6) (c3 : e3 = 0 ∨ e3 = 2 ∨ e3 = 4 ∨ e3 = 6) :
    rankE (foundE e1 e2 e3 m imm) size = 0 ↔ e1 = 0 ∧ e2 = 0 ∧ e3 = 0 ∧ (m = true ∨ imm = 0) ∧ size = false := by
  have hi : (m = true ∨ imm = 0) ↔ ¬(m = false ∧ imm ≠ 0) := by cases m <;> simp
  rw [hi]
  unfold foundE
  by_cases h : m = false ∧ imm ≠ 0
  · rw [if_pos h]
    simp [rankE, h]
  · rw [if_neg h]
    clear hi
    cases size <;> rcases c1 with rfl | rfl | rfl | rfl <;> rcases c2 with rfl | rfl | rfl | rfl <;> rcases c3 with rfl | rfl | rfl | rfl <;> simp [rankE, h]
/-- The size of slot k. -/
def sizeAt (l : List (Int × Int)) (k : Int) : Int := (l.getD k.toNat (0, 0)).1
/-- A Move between slots of two sizes. -/
def moveBad (f : Fn) (x : Ins) : Bool := decide (x.op = 17) && !decide (sizeAt f.slots x.a = sizeAt f.slots x.b)
/-- The error of an instruction. -/
def insE (N : Nat) (f : Fn) (x : Ins) : Int := if withB x.op 25 = false then 4 else rankE (opndsE N f x) (moveBad f x)
def termB (op : Int) : Bool := op == 20 || op == 23 || op == 24
def closedB (l : List Ins) : Bool := match l.getLast? with
  | none => false
  | some x => termB x.op
/-- The error of a function. -/
def fnE (N : Nat) (f : Fn) : Int :=
  if 1024 < f.code.length then 3
  else if slotsE f.slots ≠ 0 then slotsE f.slots
  else if withB f.params 9 = false then 4
  else if firstE (f.code.map (insE N f)) ≠ 0 then firstE (f.code.map (insE N f))
  else if closedB f.code = false then 6 else 0
/-- The error of a program. -/
def pgE (F : Pg) : Int :=
  if 80 < F.length then 3
  else match F with
    | [] => 4
    | f :: _ => if f.params ≠ 0 then 7 else firstE (F.map (fnE F.length))

/-- What an instruction without an error is. -/
theorem insE_zero {N : Nat} {f : Fn} {x : Ins} : insE N f x = 0 ↔ (0 ≤ x.op ∧ x.op < 25) ∧ opndE N f (shpOf x.op).1 x.a = 0 ∧ opndE N f (shpOf x.op).2.1 x.b = 0 ∧ opndE N f (shpOf x.op).2.2.1 x.c = 0 ∧ ((shpOf x.op).2.2.2 = true ∨ x.imm = 0) ∧ moveBad f x = false := by
  unfold insE
  have h := rankE_zero (imm := x.imm) (m := (shpOf x.op).2.2.2) (size := moveBad f x) (opndE_cases N f (shpOf x.op).1 x.a) (opndE_cases N f (shpOf x.op).2.1 x.b) (opndE_cases N f (shpOf x.op).2.2.1 x.c)
  by_cases ho : withB x.op 25 = true
  · rw [if_neg (by simp [ho])]
    exact ⟨fun e => ⟨withB_true.1 ho, h.1 e⟩, fun e => h.2 e.2⟩
  · rw [if_pos (by simpa using ho)]
    exact ⟨(fun e => absurd e (by decide)), fun e => absurd (withB_true.2 e.1) ho⟩
theorem insE_op {N : Nat} {f : Fn} {x : Ins} (h : ¬(0 ≤ x.op ∧ x.op < 25)) : insE N f x = 4 := by
  unfold insE; rw [if_pos (withB_false.2 h)]
theorem cntV_le {N : Nat} {f : Fn} {k : Int} (hN : N ≤ 80) (hs : f.slots.length ≤ 512) (hp : f.params ≤ 8) (hc : f.code.length ≤ 1024) : cntV N f k ≤ 1024 := by
  unfold cntV; (repeat' split) <;> omega
theorem fnE_zero {N : Nat} {f : Fn} : fnE N f = 0 ↔ f.code.length ≤ 1024 ∧ slotsE f.slots = 0 ∧ (0 ≤ f.params ∧ f.params ≤ 8) ∧ (∀ x ∈ f.code, insE N f x = 0) ∧ closedB f.code = true := by
  unfold fnE
  have hf := @firstE_zero (f.code.map (insE N f))
  simp only [List.mem_map, forall_exists_index, and_imp, forall_apply_eq_imp_iff₂] at hf
  by_cases h1 : 1024 < f.code.length
  · rw [if_pos h1]; simp; omega
  · rw [if_neg h1]
    by_cases h2 : slotsE f.slots = 0
    · rw [if_neg (by simpa using h2)]
      by_cases h3 : withB f.params 9 = true
      · have h3' := withB_true.1 h3
        rw [if_neg (by simp [h3])]
        by_cases h4 : firstE (f.code.map (insE N f)) = 0
        · rw [if_neg (by simpa using h4)]
          have h4' := hf.1 h4
          by_cases h5 : closedB f.code = true
          · rw [if_neg (by simp [h5])]
            exact ⟨fun _ => ⟨by omega, h2, by omega, h4', h5⟩, fun _ => rfl⟩
          · rw [if_pos (by simpa using h5)]
            exact ⟨fun h => by simp at h, fun h => absurd h.2.2.2.2 h5⟩
        · rw [if_pos (by simpa using h4)]
          exact ⟨fun h => absurd h h4, fun h => absurd (hf.2 h.2.2.2.1) h4⟩
      · have h3' := withB_false.1 (by simpa using h3)
        rw [if_pos (by simpa using h3)]
        exact ⟨fun h => by simp at h, fun h => absurd ⟨h.2.2.1.1, by omega⟩ h3'⟩
    · rw [if_pos (by simpa using h2)]
      exact ⟨fun h => absurd h h2, fun h => absurd h.2.1 h2⟩
theorem pgE_zero {F : Pg} : pgE F = 0 ↔ F.length ≤ 80 ∧ (∃ f r, F = f :: r ∧ f.params = 0) ∧ ∀ f ∈ F, fnE F.length f = 0 := by
  unfold pgE
  have hf := @firstE_zero (F.map (fnE F.length))
  simp only [List.mem_map, forall_exists_index, and_imp, forall_apply_eq_imp_iff₂] at hf
  by_cases h1 : 80 < F.length
  · rw [if_pos h1]
    exact ⟨fun h => by simp at h, fun h => absurd h.1 (by omega)⟩
  · rw [if_neg h1]
    cases F with
    | nil => simp
    | cons f r =>
      simp only
      by_cases h2 : f.params = 0
      · rw [if_neg (by simpa using h2)]
        exact ⟨fun h => ⟨by omega, ⟨f, r, rfl, h2⟩, hf.1 h⟩, fun h => hf.2 h.2.2⟩
      · rw [if_pos h2]
        refine ⟨fun h => by simp at h, fun h => ?_⟩
        obtain ⟨_, ⟨g, s, he, hg⟩, _⟩ := h
        injection he with e1 e2
        subst e1
        exact absurd hg h2
theorem not_last {l : List Ins} {k : Nat} {x : Ins} (h : closedB l = true) (hx : l[k]? = some x) (ht : termB x.op = false) : k + 1 < l.length := by
  have hk := (List.getElem?_eq_some_iff.1 hx).1
  rcases Nat.lt_or_ge (k + 1) l.length with h1 | h1
  · exact h1
  · exfalso
    unfold closedB at h
    have : l.getLast? = some x := by rw [List.getLast?_eq_getElem?, show l.length - 1 = k by omega]; exact hx
    rw [this] at h
    dsimp only at h
    rw [h] at ht
    cases ht
theorem closed_some {l : List Ins} (h : closedB l = true) : 1 ≤ l.length := by
  cases l with
  | nil => cases h
  | cons a r => simp
end Go.Proofs.YtidlnecgfgnllaaDoor
end

section
/-
  The control flow of a function as mathematics: what may follow an instruction and what it may follow, leaders. Nothing here names the program.
-/
namespace Go.Proofs.YtidlnecgfgnllaaDoor
open Go.RowKit

/-- What may follow instruction x at place k, ascending. -/
def sucX (x : Ins) (k : Nat) : List Nat :=
  if x.op = 20 then [x.a.toNat] else if x.op = 23 ∨ x.op = 24 then [] else if x.op = 21 then (if x.b.toNat < k + 1 then [x.b.toNat, k + 1] else if k + 1 < x.b.toNat then [k + 1, x.b.toNat] else [k + 1]) else [k + 1]
/-- What may follow instruction k. -/
def suc (l : List Ins) (k : Nat) : List Nat := match l[k]? with
  | none => []
  | some x => sucX x k
def sucZ (l : List Ins) (k : Int) : List Nat := if 0 ≤ k then suc l k.toNat else []
/-- The code of a function that is right: no jump leaves it, and control does not run over its end. -/
structure FlowOk (l : List Ins) : Prop where
  few : l.length ≤ 1024
  jmp : ∀ (k : Nat) (x : Ins), l[k]? = some x → x.op = 20 → 0 ≤ x.a ∧ x.a < l.length
  brn : ∀ (k : Nat) (x : Ins), l[k]? = some x → x.op = 21 → 0 ≤ x.b ∧ x.b < l.length
  nxt : ∀ (k : Nat) (x : Ins), l[k]? = some x → termB x.op = false → k + 1 < l.length
section
variable {l : List Ins} {k j : Nat} {x : Ins}
theorem suc_some (h : l[k]? = some x) : suc l k = sucX x k := by unfold suc; rw [h]
theorem suc_none (h : ¬ k < l.length) : suc l k = [] := by unfold suc; rw [List.getElem?_eq_none (by omega)]
theorem sucZ_nat (l : List Ins) (k : Nat) : sucZ l k = suc l k := by unfold sucZ; rw [if_pos (by omega)]; simp
theorem sucZ_out {z : Int} (h : z < 0 ∨ (l.length : Int) ≤ z) : sucZ l z = [] := by
  unfold sucZ
  by_cases hz : 0 ≤ z
  · rw [if_pos hz]; exact suc_none (by omega)
  · rw [if_neg hz]
theorem sucX_jump (k : Nat) (h : x.op = 20) : sucX x k = [x.a.toNat] := by unfold sucX; rw [if_pos h]
theorem sucX_end (k : Nat) (h : x.op = 23 ∨ x.op = 24) : sucX x k = [] := by unfold sucX; rw [if_neg (by omega), if_pos h]
theorem sucX_else (k : Nat) (h : termB x.op = false) (h2 : x.op ≠ 21) : sucX x k = [k + 1] := by
  simp [termB] at h
  unfold sucX; rw [if_neg (by simpa using h.1.1), if_neg (by rintro (e | e) <;> simp [e] at h), if_neg h2]
theorem sucX_back (h : x.op = 21) (hb : x.b.toNat < k + 1) : sucX x k = [x.b.toNat, k + 1] := by unfold sucX; rw [if_neg (by omega), if_neg (by omega), if_pos h, if_pos hb]
theorem sucX_fore (h : x.op = 21) (hb : k + 1 < x.b.toNat) : sucX x k = [k + 1, x.b.toNat] := by unfold sucX; rw [if_neg (by omega), if_neg (by omega), if_pos h, if_neg (by omega), if_pos hb]
theorem sucX_next (h : x.op = 21) (hb : x.b.toNat = k + 1) : sucX x k = [k + 1] := by unfold sucX; rw [if_neg (by omega), if_neg (by omega), if_pos h, if_neg (by omega), if_neg (by omega)]
theorem sucX_len (x : Ins) (k : Nat) : (sucX x k).length ≤ 2 := by unfold sucX; (repeat' split) <;> simp
theorem suc_len (l : List Ins) (k : Nat) : (suc l k).length ≤ 2 := by
  unfold suc; split
  · simp
  · exact sucX_len _ _
/-- What may follow is an instruction. -/
theorem suc_lt (h : FlowOk l) (hj : j ∈ suc l k) : j < l.length := by
  rcases Nat.lt_or_ge k l.length with hk | hk
  · have hx := List.getElem?_eq_getElem hk
    rw [suc_some hx] at hj
    by_cases h1 : l[k].op = 20
    · have := h.jmp k _ hx h1
      rw [sucX_jump k h1] at hj; simp at hj; omega
    · by_cases h2 : l[k].op = 23 ∨ l[k].op = 24
      · rw [sucX_end k h2] at hj; simp at hj
      · have ht : termB l[k].op = false := by
          simp [termB, h1]; omega
        have hn := h.nxt k _ hx ht
        by_cases h3 : l[k].op = 21
        · have := h.brn k _ hx h3
          unfold sucX at hj
          rw [if_neg h1, if_neg h2, if_pos h3] at hj
          split at hj
          · simp at hj; omega
          · split at hj <;> simp at hj <;> omega
        · rw [sucX_else k ht h3] at hj; simp at hj; omega
  · rw [suc_none (by omega)] at hj; simp at hj
theorem suc_pw (l : List Ins) (k : Nat) : (suc l k).Pairwise (· < ·) := by
  unfold suc
  split
  · simp
  · unfold sucX; (repeat' split) <;> simp <;> omega
theorem suc_nodup (l : List Ins) (k i j : Nat) (m : Nat) (hi : (suc l k)[i]? = some m) (hj : (suc l k)[j]? = some m) : i = j := by
  have hp := suc_pw l k
  obtain ⟨hi1, hi2⟩ := List.getElem?_eq_some_iff.1 hi
  obtain ⟨hj1, hj2⟩ := List.getElem?_eq_some_iff.1 hj
  rw [List.pairwise_iff_getElem] at hp
  rcases Nat.lt_trichotomy i j with c | c | c
  · have := hp i j hi1 hj1 c; omega
  · exact c
  · have := hp j i hj1 hi1 c; omega

/-- A list of numbers as ints. -/
def toI (l : List Nat) : List Int := l.map fun j : Nat => (j : Int)
theorem toI_len (l : List Nat) : (toI l).length = l.length := by simp [toI]
theorem toI_get (l : List Nat) (k : Nat) : (toI l)[k]? = (l[k]?).map (fun j : Nat => (j : Int)) := by simp [toI]
theorem toI_append (l m : List Nat) : toI (l ++ m) = toI l ++ toI m := by simp [toI]
theorem toI_mem {l : List Nat} : (j : Int) ∈ toI l ↔ j ∈ l := by
  unfold toI
  rw [List.mem_map]
  constructor
  · rintro ⟨a, ha, he⟩
    have : a = j := by omega
    subst this; exact ha
  · exact fun h => ⟨j, h, rfl⟩
theorem toI_inj {l m : List Nat} (h : toI l = toI m) : l = m := by
  refine List.ext_getElem? fun k => ?_
  have := congrArg (fun r => r[k]?) h
  simp only [toI_get] at this
  cases h1 : l[k]? <;> cases h2 : m[k]? <;> rw [h1, h2] at this <;> simp at this
  rw [show _ = _ from Int.ofNat.inj this]

/-- Which of the first m instructions instruction j may follow; of instruction m's own the first i. -/
def befN (l : List Ins) (m j : Nat) : List Nat := (List.range m).filter fun k => decide (j ∈ suc l k)
theorem mem_bef {m : Nat} : k ∈ befN l m j ↔ k < m ∧ j ∈ suc l k := by simp [befN]
/-- The rows of Before, behind m instructions and the first i of what may follow instruction m. -/
def befL (l : List Ins) (n m i : Nat) : List (List Nat) := (List.range n).map fun j => befN l m j ++ (if j ∈ (suc l m).take i then [m] else [])
theorem befL_len (l : List Ins) (n m i : Nat) : (befL l n m i).length = n := by simp [befL]
theorem befL_at {n m i : Nat} (h : j < n) : (befL l n m i)[j]? = some (befN l m j ++ (if j ∈ (suc l m).take i then [m] else [])) := by simp [befL, h]
theorem befL_start (l : List Ins) (n : Nat) : befL l n 0 0 = List.replicate n [] := by
  refine List.ext_getElem? fun k => ?_
  by_cases h : k < n
  · rw [befL_at h, List.getElem?_replicate, if_pos h]; simp [befN]
  · rw [List.getElem?_eq_none (by rw [befL_len]; omega), List.getElem?_eq_none (by simp; omega)]
theorem befL_next (l : List Ins) (n m : Nat) : befL l n m (suc l m).length = befL l n (m + 1) 0 := by
  unfold befL
  refine List.map_congr_left fun j _ => ?_
  rw [List.take_length]
  unfold befN
  rw [List.range_succ, List.filter_append]
  by_cases h : j ∈ suc l m <;> simp [h]
theorem befL_step {n m i : Nat} (hj : (suc l m)[i]? = some j) (hn : j < n) : befL l n m (i + 1) = (befL l n m i).set j (befN l m j ++ [m]) := by
  refine List.ext_getElem? fun k => ?_
  by_cases hk : k < n
  · rw [befL_at hk, List.getElem?_set, befL_at hk]
    by_cases e : j = k
    · subst e
      have ht : j ∈ (suc l m).take (i + 1) := by rw [List.take_add_one, hj]; simp
      have hb : j < (befL l n m i).length := by rw [befL_len]; exact hk
      rw [if_pos ht, if_pos rfl, if_pos hb]
    · rw [if_neg e]
      have : (k ∈ (suc l m).take (i + 1)) = (k ∈ (suc l m).take i) := by
        rw [List.take_add_one, hj, List.mem_append]
        simp; intro h; exact absurd h.symm e
      simp only [this]
  · rw [List.getElem?_eq_none (by rw [befL_len]; omega), List.getElem?_set]
    by_cases e : j = k
    · omega
    · rw [if_neg e, List.getElem?_eq_none (by rw [befL_len]; omega)]
/-- Row j is still without m when what may follow m names it for the first time. -/
theorem befL_fresh {n m i : Nat} (hj : (suc l m)[i]? = some j) (hn : j < n) : (befL l n m i)[j]? = some (befN l m j) := by
  rw [befL_at hn, if_neg, List.append_nil]
  intro h
  obtain ⟨q, hq, he⟩ := List.mem_iff_getElem.1 h
  have hq' : q < i := by simp at hq; omega
  have : (suc l m)[q]? = some j := by rw [← he, List.getElem_take]; exact List.getElem?_eq_getElem _
  have := suc_nodup l m q i j this hj
  omega
theorem befN_len (l : List Ins) (m j : Nat) : (befN l m j).length ≤ m := by
  unfold befN; exact Nat.le_trans (List.length_filter_le _ _) (by simp)

/-- Whether a block ends with an operation. -/
def endB (op : Int) : Bool := op == 21 || termB op
/-- Where an instruction jumps to. -/
def tgtX (x : Ins) : Int := if x.op = 20 then x.a else if x.op = 21 then x.b else -1
/-- Whether instruction k is a leader by what stands before it. -/
def ldrA (l : List Ins) (k : Nat) : Bool := k == 0 || (match l[k - 1]? with | none => false | some x => endB x.op)
/-- Whether one of the first m instructions jumps to k. -/
def ldrT (l : List Ins) (m k : Nat) : Bool := (l.take m).any fun x => tgtX x == (k : Int)
/-- Whether instruction k is a leader. -/
def ldr (l : List Ins) (k : Nat) : Bool := ldrA l k || ldrT l l.length k
theorem ldr_zero (l : List Ins) : ldr l 0 = true := by simp [ldr, ldrA]
theorem ldrT_zero (l : List Ins) (k : Nat) : ldrT l 0 k = false := by simp [ldrT]
theorem ldrT_step {m : Nat} (h : l[m]? = some x) (k : Nat) : ldrT l (m + 1) k = (ldrT l m k || tgtX x == (k : Int)) := by
  unfold ldrT; rw [List.take_add_one, h, List.any_append]; simp
theorem ldrT_true {m k : Nat} : ldrT l m k = true ↔ ∃ i x, i < m ∧ l[i]? = some x ∧ tgtX x = (k : Int) := by
  unfold ldrT
  rw [List.any_eq_true]
  constructor
  · rintro ⟨x, hx, he⟩
    obtain ⟨i, hi, e⟩ := List.mem_iff_getElem.1 hx
    have h1 : i < m := by simp at hi; omega
    have h2 : i < l.length := by simp at hi; omega
    exact ⟨i, x, h1, by rw [← e, List.getElem_take]; exact List.getElem?_eq_getElem h2, by simpa using he⟩
  · rintro ⟨i, x, h1, h2, h3⟩
    refine ⟨x, ?_, by simpa using h3⟩
    have h4 := (List.getElem?_eq_some_iff.1 h2).1
    exact List.mem_iff_getElem.2 ⟨i, by simp; omega, by rw [List.getElem_take]; exact (List.getElem?_eq_some_iff.1 h2).2⟩
/-- The marks of leaders, behind the first m instructions. -/
def ldrL (l : List Ins) (m : Nat) : List Bool := (List.range l.length).map fun k => (decide (k < m) && ldrA l k) || ldrT l m k
theorem ldrL_len (l : List Ins) (m : Nat) : (ldrL l m).length = l.length := by simp [ldrL]
theorem ldrL_at {m : Nat} (h : k < l.length) : (ldrL l m)[k]? = some ((decide (k < m) && ldrA l k) || ldrT l m k) := by simp [ldrL, h]
theorem ldrL_start (l : List Ins) : ldrL l 0 = List.replicate l.length false := by
  refine List.ext_getElem? fun k => ?_
  by_cases h : k < l.length
  · rw [ldrL_at h, List.getElem?_replicate, if_pos h]; simp [ldrT]
  · rw [List.getElem?_eq_none (by rw [ldrL_len]; omega), List.getElem?_eq_none (by simp; omega)]
theorem ldrL_end (h : k < l.length) : (ldrL l l.length)[k]? = some (ldr l k) := by
  rw [ldrL_at h, decide_eq_true h, Bool.true_and]; rfl
/-- One instruction more: its own mark, then the mark of its target. -/
def mark (R : List Bool) (z : Int) : List Bool := if 0 ≤ z ∧ z < R.length then R.set z.toNat true else R
theorem mark_len (R : List Bool) (z : Int) : (mark R z).length = R.length := by unfold mark; split <;> simp
theorem ldrL_step {m : Nat} (h : l[m]? = some x) : ldrL l (m + 1) = mark (if ldrA l m = true then (ldrL l m).set m true else ldrL l m) (tgtX x) := by
  have hm := (List.getElem?_eq_some_iff.1 h).1
  have hl : (if ldrA l m = true then (ldrL l m).set m true else ldrL l m).length = l.length := by split <;> simp [ldrL_len]
  refine List.ext_getElem? fun k => ?_
  by_cases hk : k < l.length
  · rw [ldrL_at hk, ldrT_step h]
    have e0 : (if ldrA l m = true then (ldrL l m).set m true else ldrL l m)[k]? = some ((decide (k < m + 1) && ldrA l k) || ldrT l m k) := by
      by_cases ha : ldrA l m = true
      · rw [if_pos ha, List.getElem?_set]
        by_cases e : m = k
        · subst e; simp [ldrL_len, hm, ha]
        · rw [if_neg e, ldrL_at hk, show decide (k < m + 1) = decide (k < m) from decide_eq_decide.2 (by omega)]
      · rw [if_neg ha, ldrL_at hk]
        by_cases e : m = k
        · subst e
          simp only [Bool.not_eq_true] at ha
          simp [ha]
        · rw [show decide (k < m + 1) = decide (k < m) from decide_eq_decide.2 (by omega)]
    unfold mark
    rw [hl]
    by_cases hz : 0 ≤ tgtX x ∧ tgtX x < l.length
    · rw [if_pos hz, List.getElem?_set]
      by_cases e : (tgtX x).toNat = k
      · have : tgtX x = (k : Int) := by omega
        rw [if_pos e, if_pos (by rw [hl]; omega), this]; simp
      · have : (tgtX x == (k : Int)) = false := by simp; omega
        rw [if_neg e, e0, this, Bool.or_false]
    · have : (tgtX x == (k : Int)) = false := by simp; omega
      rw [if_neg hz, e0, this, Bool.or_false]
  · rw [List.getElem?_eq_none (by rw [ldrL_len]; omega), List.getElem?_eq_none (by rw [mark_len, hl]; omega)]
/-- Inside of a block control goes on to the next instruction alone. -/
theorem suc_in (h : ldr l (k + 1) = false) (hx : l[k]? = some x) : suc l k = [k + 1] := by
  rw [suc_some hx]
  unfold ldr at h
  rw [Bool.or_eq_false_iff] at h
  have h1 := h.1
  simp [ldrA, hx, endB] at h1
  exact sucX_else k h1.2 (by simpa using h1.1)
end
end Go.Proofs.YtidlnecgfgnllaaDoor
end

section
/-
  Liveness as mathematics: the equations of an annotation, repeated from empty sets; what may be read along a way; the least solution. No function of the program is named here.
-/
namespace Go.Proofs.YtidlnecgfgnllaaDoor
open Go.RowKit

/-- The operands of the code are slots, of which there are M. -/
structure LvOk (l : List Ins) (M : Nat) : Prop where
  flow : FlowOk l
  use : ∀ (k : Nat) (x : Ins), l[k]? = some x → useB x.op = true → 0 ≤ x.b ∧ x.b < M
  dfn : ∀ (k : Nat) (x : Ins), l[k]? = some x → defB x.op = true → 0 ≤ x.a ∧ x.a < M
  few : M ≤ 512
/-- The sets of an annotation: one for each instruction, of slots. -/
structure LvIn (n M : Nat) (L : List (List Int)) : Prop where
  len : L.length = n
  asc : ∀ k : Nat, Asc (L.getD k [])
  lt : ∀ (k : Nat) (z : Int), z ∈ L.getD k [] → z < M
def inX (x : Ins) (zs : List Int) : List Int := inL x.op x.a x.b zs
def inK (l : List Ins) (L : List (List Int)) (j : Nat) : List Int := match l[j]? with
  | none => []
  | some x => inX x (L.getD j [])
def uniL (l : List Ins) (L : List (List Int)) (js : List Nat) : List Int := js.foldl (fun r j => unionL r (inK l L j)) []
def stepL (l : List Ins) (L : List (List Int)) : List (List Int) := (List.range l.length).map fun k => uniL l L (suc l k)
def insL (l : List Ins) (L : List (List Int)) : List (List Int) := (List.range l.length).map fun k => inK l L k
/-- Slot s may be read behind instruction k, before it is written. -/
inductive Lv (l : List Ins) : Nat → Int → Prop where
  | use {k j : Nat} {x : Ins} {s : Int} : j ∈ suc l k → l[j]? = some x → s ∈ usL x.op x.b → Lv l k s
  | on {k j : Nat} {x : Ins} {s : Int} : j ∈ suc l k → l[j]? = some x → ¬ (defB x.op = true ∧ s = x.a) → Lv l j s → Lv l k s
def itL (l : List Ins) : Nat → List (List Int)
  | 0 => List.replicate l.length []
  | t + 1 => stepL l (itL l t)
def SubL (L L' : List (List Int)) : Prop := ∀ (k : Nat) (z : Int), z ∈ L.getD k [] → z ∈ L'.getD k []
def solL (l : List Ins) (M : Nat) : List (List Int) := itL l (l.length * M)
section
variable {l : List Ins} {M k j : Nat} {z : Int} {L L' : List (List Int)} {x : Ins}
theorem LvOk.usAsc (h : LvOk l M) (hx : l[k]? = some x) : Asc (usL x.op x.b) := by
  unfold usL
  split
  · rename_i hu
    have h1 := h.use k x hx hu
    have h2 := h.few
    exact asc_one h1.1 (by omega)
  · exact Asc.nil
theorem mem_inX {o a b : Int} {zs : List Int} (h : Asc (usL o b)) : z ∈ inL o a b zs ↔ (z ∈ zs ∧ ¬ (defB o = true ∧ z = a)) ∨ z ∈ usL o b := by
  unfold inL
  rw [mem_union h, mem_outL]
theorem inK_some (hx : l[j]? = some x) (L : List (List Int)) : inK l L j = inX x (L.getD j []) := by unfold inK; rw [hx]
theorem mem_inK (h : LvOk l M) (hx : l[j]? = some x) : z ∈ inK l L j ↔ (z ∈ L.getD j [] ∧ ¬ (defB x.op = true ∧ z = x.a)) ∨ z ∈ usL x.op x.b := by
  rw [inK_some hx]
  exact mem_inX (h.usAsc hx)
theorem inX_asc (x : Ins) {zs : List Int} (h : Asc zs) : Asc (inX x zs) := inL_asc _ _ _ h
theorem inK_asc (hL : ∀ k : Nat, Asc (L.getD k [])) (j : Nat) : Asc (inK l L j) := by
  unfold inK
  split
  · exact Asc.nil
  · exact inX_asc _ (hL j)
theorem uniL_next (l : List Ins) (L : List (List Int)) (js : List Nat) (j : Nat) : uniL l L (js ++ [j]) = unionL (uniL l L js) (inK l L j) := by simp [uniL]
theorem uniL_nil (l : List Ins) (L : List (List Int)) : uniL l L [] = [] := rfl
theorem foldl_asc (js : List Nat) : ∀ r : List Int, Asc r → Asc (js.foldl (fun r j => unionL r (inK l L j)) r) := by
  induction js with
  | nil => exact fun r h => h
  | cons a t ih => exact fun r h => ih _ (unionL_asc h)
theorem uniL_asc (l : List Ins) (L : List (List Int)) (js : List Nat) : Asc (uniL l L js) := foldl_asc js [] Asc.nil
theorem mem_uniL (hL : ∀ k : Nat, Asc (L.getD k [])) (js : List Nat) : z ∈ uniL l L js ↔ ∃ j ∈ js, z ∈ inK l L j := by
  have H : ∀ (js : List Nat) (r : List Int), z ∈ js.foldl (fun r j => unionL r (inK l L j)) r ↔ z ∈ r ∨ ∃ j ∈ js, z ∈ inK l L j := by
    intro js
    induction js with
    | nil => intro r; simp
    | cons a t ih =>
      intro r
      rw [List.foldl_cons, ih, mem_union (inK_asc hL a), or_assoc]
      simp
  unfold uniL
  rw [H]
  simp
theorem stepL_len (l : List Ins) (L : List (List Int)) : (stepL l L).length = l.length := by simp [stepL]
theorem stepL_at (l : List Ins) (L : List (List Int)) (h : k < l.length) : (stepL l L)[k]? = some (uniL l L (suc l k)) := by simp [stepL, h]
theorem stepL_get (l : List Ins) (L : List (List Int)) (k : Nat) : (stepL l L).getD k [] = uniL l L (suc l k) := by
  by_cases h : k < l.length
  · rw [List.getD_eq_getElem?_getD, stepL_at l L h]; rfl
  · rw [List.getD_eq_getElem?_getD, List.getElem?_eq_none (by rw [stepL_len]; omega), suc_none h]; rfl
theorem insL_len (l : List Ins) (L : List (List Int)) : (insL l L).length = l.length := by simp [insL]
theorem insL_at (l : List Ins) (L : List (List Int)) (h : k < l.length) : (insL l L)[k]? = some (inK l L k) := by simp [insL, h]
theorem usL_mem (h : LvOk l M) (hx : l[j]? = some x) (hz : z ∈ usL x.op x.b) : 0 ≤ z ∧ z < M := by
  unfold usL at hz
  split at hz
  · rename_i hu
    simp at hz
    subst hz
    exact h.use j x hx hu
  · cases hz
theorem inK_lt (h : LvOk l M) (hL : LvIn l.length M L) (hz : z ∈ inK l L j) : z < M := by
  cases hx : l[j]? with
  | none => unfold inK at hz; rw [hx] at hz; cases hz
  | some x =>
    rw [mem_inK h hx] at hz
    rcases hz with hz | hz
    · exact hL.lt j z hz.1
    · exact (usL_mem h hx hz).2
theorem LvIn.step (h : LvOk l M) (hL : LvIn l.length M L) : LvIn l.length M (stepL l L) := by
  refine ⟨stepL_len l L, fun k => by rw [stepL_get]; exact uniL_asc _ _ _, fun k z hz => ?_⟩
  rw [stepL_get, mem_uniL hL.asc] at hz
  obtain ⟨j, -, hz⟩ := hz
  exact inK_lt h hL hz
theorem getD_rep (n k : Nat) : (List.replicate n ([] : List Int)).getD k [] = [] := by
  rw [List.getD_eq_getElem?_getD, List.getElem?_replicate]
  split <;> rfl
theorem LvIn.empty (n M : Nat) : LvIn n M (List.replicate n []) := ⟨by simp, fun k => by rw [getD_rep]; exact Asc.nil, fun k z hz => by rw [getD_rep] at hz; cases hz⟩
theorem itL_in (h : LvOk l M) : ∀ t : Nat, LvIn l.length M (itL l t)
  | 0 => LvIn.empty _ _
  | t + 1 => (itL_in h t).step h
theorem inK_mono (h : LvOk l M) (hs : SubL L L') (hz : z ∈ inK l L j) : z ∈ inK l L' j := by
  cases hx : l[j]? with
  | none => unfold inK at hz; rw [hx] at hz; cases hz
  | some x =>
    rw [mem_inK h hx] at hz ⊢
    rcases hz with hz | hz
    · exact .inl ⟨hs j z hz.1, hz.2⟩
    · exact .inr hz
theorem step_mono (h : LvOk l M) (hL : ∀ k : Nat, Asc (L.getD k [])) (hL' : ∀ k : Nat, Asc (L'.getD k [])) (hs : SubL L L') : SubL (stepL l L) (stepL l L') := by
  intro k z hz
  rw [stepL_get, mem_uniL hL] at hz
  rw [stepL_get, mem_uniL hL']
  obtain ⟨j, hj, hz⟩ := hz
  exact ⟨j, hj, inK_mono h hs hz⟩
theorem it_mono (h : LvOk l M) : ∀ t : Nat, SubL (itL l t) (itL l (t + 1))
  | 0 => fun k z hz => by rw [show itL l 0 = List.replicate l.length [] from rfl, getD_rep] at hz; cases hz
  | t + 1 => step_mono h (itL_in h t).asc (itL_in h (t + 1)).asc (it_mono h t)
theorem it_sound (h : LvOk l M) : ∀ (t k : Nat) (z : Int), z ∈ (itL l t).getD k [] → Lv l k z
  | 0, k, z, hz => by rw [show itL l 0 = List.replicate l.length [] from rfl, getD_rep] at hz; cases hz
  | t + 1, k, z, hz => by
    rw [show itL l (t + 1) = stepL l (itL l t) from rfl, stepL_get, mem_uniL (itL_in h t).asc] at hz
    obtain ⟨j, hj, hz⟩ := hz
    cases hx : l[j]? with
    | none => unfold inK at hz; rw [hx] at hz; cases hz
    | some x =>
      rw [mem_inK h hx] at hz
      rcases hz with hz | hz
      · exact .on hj hx hz.2 (it_sound h t j z hz.1)
      · exact .use hj hx hz
/-- An annotation that has all that the equations ask for has all that may be read. -/
theorem pre_all (h : LvOk l M) (hL : ∀ k : Nat, Asc (L.getD k [])) (hs : SubL (stepL l L) L) (hv : Lv l k z) : z ∈ L.getD k [] := by
  induction hv with
  | use hj hx hu =>
    refine hs _ _ ?_
    rw [stepL_get, mem_uniL hL]
    exact ⟨_, hj, (mem_inK h hx).2 (.inr hu)⟩
  | on hj hx hn _ ih =>
    refine hs _ _ ?_
    rw [stepL_get, mem_uniL hL]
    exact ⟨_, hj, (mem_inK h hx).2 (.inl ⟨ih, hn⟩)⟩
def szL (L : List (List Int)) : Nat := (L.map List.length).sum
theorem sub_nd : ∀ {b a : List Int}, a.Nodup → (∀ z ∈ a, z ∈ b) → a.length ≤ b.length
  | [], a, _, hs => by
    cases a with
    | nil => exact Nat.le_refl _
    | cons x t => have := hs x (by simp); cases this
  | y :: b, a, hn, hs => by
    by_cases hy : y ∈ a
    · have h1 := sub_nd (b := b) (a := a.erase y) (hn.erase y) (fun z hz => by
        rw [hn.mem_erase_iff] at hz
        rcases List.mem_cons.1 (hs z hz.2) with h | h
        · exact (hz.1 h).elim
        · exact h)
      rw [List.length_erase_of_mem hy] at h1
      rw [List.length_cons]
      omega
    · have h1 := sub_nd (b := b) (a := a) hn (fun z hz => by
        rcases List.mem_cons.1 (hs z hz) with h | h
        · subst h; exact (hy hz).elim
        · exact h)
      rw [List.length_cons]
      omega
theorem asc_nd {a : List Int} (ha : Asc a) : a.Nodup := ha.1.imp fun h => by omega
theorem sub_len {a b : List Int} (ha : Asc a) (hs : ∀ z ∈ a, z ∈ b) : a.length ≤ b.length := sub_nd (asc_nd ha) hs
theorem sub_eq {a b : List Int} (ha : Asc a) (hb : Asc b) (hs : ∀ z ∈ a, z ∈ b) (he : a.length = b.length) : a = b :=
  ha.ext hb fun z _ _ => ⟨hs z, fun hz => by
    refine Classical.byContradiction fun hn => ?_
    have h1 := sub_nd (b := b.erase z) (asc_nd ha) (fun y hy => (List.mem_erase_of_ne (fun e => hn (by rw [← e]; exact hy))).2 (hs y hy))
    rw [List.length_erase_of_mem hz] at h1
    have h2 := List.length_pos_of_mem hz
    omega⟩
theorem subs_sz : ∀ {L L' : List (List Int)}, L.length = L'.length → (∀ k : Nat, Asc (L.getD k [])) → (∀ k : Nat, Asc (L'.getD k [])) → SubL L L' → szL L ≤ szL L' ∧ (szL L = szL L' → L = L')
  | [], [], _, _, _, _ => ⟨Nat.le_refl _, fun _ => rfl⟩
  | [], _ :: _, h, _, _, _ => by simp at h
  | _ :: _, [], h, _, _, _ => by simp at h
  | a :: t, b :: u, h, hL, hL', hs => by
    have h0 : ∀ z ∈ a, z ∈ b := fun z hz => hs 0 z hz
    have ih := subs_sz (L := t) (L' := u) (by simpa using h) (fun k => hL (k + 1)) (fun k => hL' (k + 1)) (fun k z hz => hs (k + 1) z hz)
    have h1 := sub_len (hL 0) h0
    simp only [List.getD_cons_zero] at h1
    have e1 : szL (a :: t) = a.length + szL t := by simp [szL]
    have e2 : szL (b :: u) = b.length + szL u := by simp [szL]
    refine ⟨by omega, fun he => ?_⟩
    have e3 : a = b := sub_eq (hL 0) (hL' 0) h0 (by omega)
    rw [ih.2 (by omega), e3]
theorem asc_le {a : List Int} (ha : Asc a) (hM : ∀ z ∈ a, z < (M : Int)) : a.length ≤ M := by
  have h1 : ∀ z ∈ a, z ∈ (List.range M).map (fun i : Nat => (i : Int)) := fun z hz => by
    have h2 := (ha.2 z hz).1
    have h3 := hM z hz
    exact List.mem_map.2 ⟨z.toNat, List.mem_range.2 (by omega), by omega⟩
  have h4 := sub_len ha h1
  simpa using h4
theorem sz_le : ∀ {L : List (List Int)}, (∀ k : Nat, Asc (L.getD k [])) → (∀ (k : Nat) (z : Int), z ∈ L.getD k [] → z < (M : Int)) → szL L ≤ L.length * M
  | [], _, _ => by simp [szL]
  | a :: t, h1, h2 => by
    have ih := sz_le (L := t) (fun k => h1 (k + 1)) (fun k z hz => h2 (k + 1) z hz)
    have h3 := asc_le (h1 0) (h2 0)
    have e1 : szL (a :: t) = a.length + szL t := by simp [szL]
    simp only [List.getD_cons_zero] at h3
    rw [e1, List.length_cons, Nat.add_mul]
    omega
theorem it_grow (h : LvOk l M) (t : Nat) (hne : stepL l (itL l t) ≠ itL l t) : szL (itL l t) < szL (itL l (t + 1)) := by
  have h1 := subs_sz (by rw [(itL_in h t).len, (itL_in h (t + 1)).len]) (itL_in h t).asc (itL_in h (t + 1)).asc (it_mono h t)
  rcases Nat.lt_or_ge (szL (itL l t)) (szL (itL l (t + 1))) with h2 | h2
  · exact h2
  · exact (hne (h1.2 (by omega)).symm).elim
theorem it_bound (h : LvOk l M) (t : Nat) : szL (itL l t) ≤ l.length * M := by
  have := sz_le (itL_in h t).asc (itL_in h t).lt
  rwa [(itL_in h t).len] at this
/-- Where a repetition changes nothing, none behind it does. -/
theorem it_stay {t : Nat} (he : stepL l (itL l t) = itL l t) : ∀ d : Nat, itL l (t + d) = itL l t
  | 0 => rfl
  | d + 1 => by
    show stepL l (itL l (t + d)) = itL l t
    rw [it_stay he d, he]
theorem it_ends (h : LvOk l M) : ∀ t : Nat, t ≤ szL (itL l t) ∨ stepL l (itL l t) = itL l t
  | 0 => .inl (Nat.zero_le _)
  | t + 1 => by
    by_cases he : stepL l (itL l t) = itL l t
    · refine .inr ?_
      rw [show itL l (t + 1) = itL l t from he]
      exact he
    · have h1 := it_grow h t he
      rcases it_ends h t with h2 | h2
      · exact .inl (by omega)
      · exact (he h2).elim
theorem sol_fix (h : LvOk l M) : stepL l (solL l M) = solL l M := by
  by_cases he : stepL l (itL l (l.length * M)) = itL l (l.length * M)
  · exact he
  · have h1 := it_grow h _ he
    have h2 := it_bound h (l.length * M + 1)
    rcases it_ends h (l.length * M) with h3 | h3
    · omega
    · exact h3
theorem sol_late (h : LvOk l M) {t : Nat} (ht : l.length * M ≤ t) : itL l t = solL l M := by
  obtain ⟨d, rfl⟩ := Nat.le.dest ht
  exact it_stay (sol_fix h) d
theorem sol_in (h : LvOk l M) : LvIn l.length M (solL l M) := itL_in h _
theorem mem_sol (h : LvOk l M) : z ∈ (solL l M).getD k [] ↔ Lv l k z :=
  ⟨it_sound h _ k z, pre_all h (sol_in h).asc (by rw [sol_fix h]; exact fun _ _ hz => hz)⟩
/-- The first repetition that changes nothing is the least solution. -/
theorem sol_first (h : LvOk l M) {t : Nat} (he : stepL l (itL l t) = itL l t) : itL l t = solL l M := by
  by_cases ht : t ≤ l.length * M
  · obtain ⟨d, hd⟩ := Nat.le.dest ht
    unfold solL
    rw [← hd]
    exact (it_stay he d).symm
  · exact sol_late h (by omega)
theorem list_ext {L L' : List (List Int)} (hl : L.length = L'.length) (h : ∀ k : Nat, k < L.length → L.getD k [] = L'.getD k []) : L = L' := by
  refine List.ext_getElem hl fun k h1 h2 => ?_
  have := h k h1
  rwa [List.getD_eq_getElem?_getD, List.getD_eq_getElem?_getD, List.getElem?_eq_getElem h1, List.getElem?_eq_getElem h2] at this
/-- What has just what may be read is the least solution. -/
theorem sol_one (h : LvOk l M) (hL : LvIn l.length M L) (hm : ∀ (k : Nat) (z : Int), k < l.length → (z ∈ L.getD k [] ↔ Lv l k z)) : L = solL l M := by
  refine list_ext (by rw [hL.len, (sol_in h).len]) fun k hk => ?_
  exact (hL.asc k).ext ((sol_in h).asc k) fun z _ _ => by rw [hm k z (by rw [hL.len] at hk; exact hk), mem_sol h]
end
end Go.Proofs.YtidlnecgfgnllaaDoor
end

section
/-
  Which annotations are accepted, as mathematics: what is missing, the first place where something is, how much could be left out. No function of the program is named here.
-/
namespace Go.Proofs.YtidlnecgfgnllaaDoor
open Go.RowKit

/-- A set of slots. -/
def okS (M : Nat) (s : List Int) : Bool := ascB s && decide (∀ z ∈ s, z < (M : Int))
/-- An annotation belongs to a function. -/
def belB (n M : Nat) (L : List (List Int)) : Bool := decide (L.length = n) && decide (∀ k : Nat, k < n → okS M (L.getD k []) = true)
section
variable {l : List Ins} {M n k j i m : Nat} {z s t : Int} {L L' : List (List Int)} {x : Ins}
theorem okS_iff {a : List Int} : okS M a = true ↔ Asc a ∧ ∀ z ∈ a, z < (M : Int) := by
  unfold okS
  rw [Bool.and_eq_true, ascB_iff, decide_eq_true_iff]
theorem belB_iff : belB n M L = true ↔ LvIn n M L := by
  unfold belB
  rw [Bool.and_eq_true, decide_eq_true_iff, decide_eq_true_iff]
  constructor
  · rintro ⟨h1, h2⟩
    have out : ∀ k : Nat, ¬ k < n → L.getD k [] = [] := fun k hk => by rw [List.getD_eq_getElem?_getD, List.getElem?_eq_none (by omega)]; rfl
    refine ⟨h1, fun k => ?_, fun k z hz => ?_⟩
    · by_cases hk : k < n
      · exact (okS_iff.1 (h2 k hk)).1
      · rw [out k hk]; exact Asc.nil
    · by_cases hk : k < n
      · exact (okS_iff.1 (h2 k hk)).2 z hz
      · rw [out k hk] at hz; cases hz
  · intro h
    exact ⟨h.len, fun k _ => okS_iff.2 ⟨h.asc k, h.lt k⟩⟩
theorem belB_len (h : L.length ≠ n) : belB n M L = false := by simp [belB, h]
theorem belB_not (hk : k < n) (h : okS M (L.getD k []) = false) : belB n M L = false := by
  unfold belB
  rw [Bool.and_eq_false_iff]
  refine .inr (decide_eq_false fun hh => ?_)
  rw [hh k hk] at h
  cases h
theorem belB_all (hl : L.length = n) (h : ∀ k : Nat, k < n → okS M (L.getD k []) = true) : belB n M L = true := by
  unfold belB
  rw [Bool.and_eq_true]
  exact ⟨decide_eq_true hl, decide_eq_true h⟩
/-- The last of an ascending list is the greatest. -/
theorem okS_last {a : List Int} (ha : ascB a = true) {q : Nat} {v : Int} (hq : a.length = q + 1) (hv : a[q]? = some v) : okS M a = decide (v < (M : Int)) := by
  have hA := ascB_iff.1 ha
  unfold okS
  rw [ha, Bool.true_and]
  obtain ⟨h1, h2⟩ := List.getElem?_eq_some_iff.1 hv
  by_cases hM : v < (M : Int)
  · rw [decide_eq_true hM]
    refine decide_eq_true fun z hz => ?_
    obtain ⟨i, hi, rfl⟩ := List.mem_iff_getElem.1 hz
    rcases Nat.lt_or_ge i q with h | h
    · have := (List.pairwise_iff_getElem.1 hA.1) i q hi h1 h
      omega
    · have : i = q := by omega
      subst this
      omega
  · rw [decide_eq_false hM]
    refine decide_eq_false fun hh => hM (hh v ?_)
    rw [← h2]
    exact List.getElem_mem h1
theorem okS_nil : okS M [] = true := okS_iff.2 ⟨Asc.nil, fun z hz => by cases hz⟩
theorem okS_bad {a : List Int} (h : ascB a = false) : okS M a = false := by simp [okS, h]
theorem LvIn.mono {M' : Nat} (h : LvIn n M L) (hm : M ≤ M') : LvIn n M' L := ⟨h.len, h.asc, fun k z hz => by have := h.lt k z hz; omega⟩

/-- Slot z is missing in the set of k. -/
def Ms (l : List Ins) (L : List (List Int)) (k : Nat) (z : Int) : Prop := z ∈ uniL l L (suc l k) ∧ z ∉ L.getD k []
/-- What is missing for the followers js. -/
def msL (l : List Ins) (L : List (List Int)) (k : Nat) (js : List Nat) : List Int := js.foldl (fun r j => unionL r (minusL (inK l L j) (L.getD k []))) []
theorem msL_nil (l : List Ins) (L : List (List Int)) (k : Nat) : msL l L k [] = [] := rfl
theorem msL_next (l : List Ins) (L : List (List Int)) (k : Nat) (js : List Nat) (j : Nat) : msL l L k (js ++ [j]) = unionL (msL l L k js) (minusL (inK l L j) (L.getD k [])) := by simp [msL]
theorem msL_take {xs : List Nat} (hj : xs[i]? = some j) : msL l L k (xs.take (i + 1)) = unionL (msL l L k (xs.take i)) (minusL (inK l L j) (L.getD k [])) := by
  obtain ⟨h1, h2⟩ := List.getElem?_eq_some_iff.1 hj
  rw [List.take_succ_eq_append_getElem h1, h2, msL_next]
theorem minusL_asc {a : List Int} (h : Asc a) (b : List Int) : Asc (minusL a b) := filter_asc _ h
theorem msL_asc (l : List Ins) (L : List (List Int)) (k : Nat) (js : List Nat) : Asc (msL l L k js) := by
  have H : ∀ (js : List Nat) (r : List Int), Asc r → Asc (js.foldl (fun r j => unionL r (minusL (inK l L j) (L.getD k []))) r) := by
    intro js
    induction js with
    | nil => exact fun r h => h
    | cons a t ih => exact fun r h => ih _ (unionL_asc h)
  exact H js [] Asc.nil
theorem mem_msL (hL : ∀ k : Nat, Asc (L.getD k [])) (js : List Nat) : z ∈ msL l L k js ↔ (∃ j ∈ js, z ∈ inK l L j) ∧ z ∉ L.getD k [] := by
  have H : ∀ (js : List Nat) (r : List Int), z ∈ js.foldl (fun r j => unionL r (minusL (inK l L j) (L.getD k []))) r ↔ z ∈ r ∨ (∃ j ∈ js, z ∈ inK l L j) ∧ z ∉ L.getD k [] := by
    intro js
    induction js with
    | nil => intro r; simp
    | cons a t ih =>
      intro r
      rw [List.foldl_cons, ih, mem_union (minusL_asc (inK_asc hL a) _), or_assoc, mem_minus]
      simp only [List.mem_cons, exists_eq_or_imp]
      refine or_congr Iff.rfl ?_
      constructor
      · rintro (h | h)
        · exact ⟨.inl h.1, h.2⟩
        · exact ⟨.inr h.1, h.2⟩
      · rintro ⟨h | h, h2⟩
        · exact .inl ⟨h, h2⟩
        · exact .inr ⟨h, h2⟩
  unfold msL
  rw [H]
  simp
theorem mem_ms (hL : ∀ k : Nat, Asc (L.getD k [])) : z ∈ msL l L k (suc l k) ↔ Ms l L k z := by
  rw [mem_msL hL, Ms, mem_uniL hL]

/-- The first place where something is missing. -/
def Fst (l : List Ins) (L : List (List Int)) (k : Nat) (s : Int) (b : Bool) : Prop :=
  (b = false ∧ k = 0 ∧ s = 0 ∧ ∀ m z, m < l.length → ¬ Ms l L m z) ∨ (b = true ∧ k < l.length ∧ Ms l L k s ∧ (∀ z, Ms l L k z → s ≤ z) ∧ ∀ m z, m < k → ¬ Ms l L m z)
theorem Fst.unique {b b' : Bool} (h : Fst l L k s b) (h' : Fst l L m t b') : k = m ∧ s = t ∧ b = b' := by
  rcases h with ⟨rfl, rfl, rfl, h⟩ | ⟨rfl, h1, h2, h3, h4⟩
  · rcases h' with ⟨rfl, rfl, rfl, -⟩ | ⟨rfl, g1, g2, -, -⟩
    · exact ⟨rfl, rfl, rfl⟩
    · exact (h m t g1 g2).elim
  · rcases h' with ⟨rfl, rfl, rfl, g⟩ | ⟨rfl, g1, g2, g3, g4⟩
    · exact (g k s h1 h2).elim
    · have e : k = m := by
        rcases Nat.lt_trichotomy k m with e | e | e
        · exact (g4 k s e h2).elim
        · exact e
        · exact (h4 m t e g2).elim
      subst e
      have := h3 t g2
      have := g3 s h2
      exact ⟨rfl, by omega, rfl⟩
def fstV (l : List Ins) (L : List (List Int)) : Nat × Int × Bool := match (List.range l.length).find? (fun k => decide (msL l L k (suc l k) ≠ [])) with
  | none => (0, 0, false)
  | some k => (k, (msL l L k (suc l k)).headD 0, true)
theorem asc_head {r : List Int} (h : Asc (s :: r)) (hz : z ∈ s :: r) : s ≤ z := by
  rcases List.mem_cons.1 hz with e | e
  · omega
  · have := (List.pairwise_cons.1 h.1).1 z e
    omega
theorem find_first {p : Nat → Bool} : ∀ {n k : Nat}, (List.range n).find? p = some k → k < n ∧ p k = true ∧ ∀ m, m < k → p m = false
  | n, k, h => by
    rw [List.find?_eq_some_iff_append] at h
    obtain ⟨hp, u, v, he, hn⟩ := h
    have hk : k ∈ List.range n := by rw [he]; simp
    rw [List.mem_range] at hk
    refine ⟨hk, hp, fun m hm => ?_⟩
    have hl : u.length = k := by
      have h1 : (List.range n)[u.length]? = some k := by rw [he]; simp
      rw [List.getElem?_range (by
        have : (List.range n).length = (u ++ k :: v).length := by rw [he]
        simp at this; omega)] at h1
      injection h1
    have h2 : m ∈ u := by
      have h3 : (List.range n)[m]? = some m := List.getElem?_range (by omega)
      rw [he, List.getElem?_append_left (by omega)] at h3
      exact List.mem_of_getElem? h3
    have := hn m h2
    simpa using this
theorem fstV_is (hL : ∀ k : Nat, Asc (L.getD k [])) : Fst l L (fstV l L).1 (fstV l L).2.1 (fstV l L).2.2 := by
  unfold fstV
  cases h : (List.range l.length).find? (fun k => decide (msL l L k (suc l k) ≠ [])) with
  | none =>
    refine .inl ⟨rfl, rfl, rfl, fun m z hm hz => ?_⟩
    have := List.find?_eq_none.1 h m (List.mem_range.2 hm)
    simp only [decide_eq_true_eq, Decidable.not_not, ne_eq] at this
    have h2 := (mem_ms hL).2 hz
    rw [this] at h2
    cases h2
  | some k =>
    obtain ⟨h1, h2, h3⟩ := find_first h
    have hA := msL_asc l L k (suc l k)
    cases hm : msL l L k (suc l k) with
    | nil => rw [hm] at h2; simp at h2
    | cons s r =>
      rw [hm] at hA
      show Fst l L k ((msL l L k (suc l k)).headD 0) true
      rw [hm]
      show Fst l L k s true
      refine .inr ⟨rfl, h1, (mem_ms hL).1 (by rw [hm]; simp), fun z hz => ?_, fun m z hmk hz => ?_⟩
      · have := (mem_ms hL).2 hz
        rw [hm] at this
        exact asc_head hA this
      · have := h3 m hmk
        simp only [decide_eq_false_iff_not, ne_eq, Decidable.not_not] at this
        have h4 := (mem_ms hL).2 hz
        rw [this] at h4
        cases h4
theorem Fst.val {b : Bool} (hL : ∀ k : Nat, Asc (L.getD k [])) (h : Fst l L k s b) : fstV l L = (k, s, b) := by
  obtain ⟨h1, h2, h3⟩ := (fstV_is (l := l) hL).unique h
  exact Prod.ext h1 (Prod.ext h2 h3)
/-- All that is asked for is there. -/
theorem fst_none (hL : ∀ k : Nat, Asc (L.getD k [])) : (fstV l L).2.2 = false ↔ SubL (stepL l L) L := by
  have h := fstV_is (l := l) hL
  constructor
  · intro hb k z hz
    rcases h with ⟨-, -, -, h⟩ | ⟨h, -⟩
    · refine Classical.byContradiction fun hn => ?_
      rw [stepL_get] at hz
      refine h k z ?_ ⟨hz, hn⟩
      rcases Nat.lt_or_ge k l.length with hk | hk
      · exact hk
      · rw [suc_none (by omega)] at hz
        cases hz
    · rw [hb] at h; cases h
  · intro hs
    rcases h with ⟨h, -⟩ | ⟨-, -, h, -⟩
    · exact h
    · exact (h.2 (hs _ _ (by rw [stepL_get]; exact h.1))).elim
/-- The whole answer of First, and whether Check accepts. -/
def frV (l : List Ins) (M : Nat) (L : List (List Int)) : Nat × Int × Bool := if belB l.length M L then fstV l L else (0, 0, false)
def okL (l : List Ins) (M : Nat) (L : List (List Int)) : Bool := belB l.length M L && !(fstV l L).2.2
theorem okL_iff : okL l M L = true ↔ LvIn l.length M L ∧ SubL (stepL l L) L := by
  unfold okL
  rw [Bool.and_eq_true, belB_iff]
  constructor
  · rintro ⟨h1, h2⟩
    exact ⟨h1, (fst_none h1.asc).1 (by simpa using h2)⟩
  · rintro ⟨h1, h2⟩
    exact ⟨h1, by rw [(fst_none h1.asc).2 h2]; rfl⟩
theorem fstV_lt : (fstV l L).1 ≤ l.length := by
  unfold fstV
  cases h : (List.range l.length).find? (fun k => decide (msL l L k (suc l k) ≠ [])) with
  | none => exact Nat.zero_le _
  | some k => exact Nat.le_of_lt (find_first h).1
end
end Go.Proofs.YtidlnecgfgnllaaDoor
end

section
/-
  How the first place where something is missing is found, follower by follower, as mathematics. No function of the program is named here.
-/
namespace Go.Proofs.YtidlnecgfgnllaaDoor
open Go.RowKit

/-- What is known behind the first i followers of k. -/
def FSt (l : List Ins) (L : List (List Int)) (k i kI : Nat) (s : Int) (b : Bool) : Prop :=
  (b = false ∧ kI = 0 ∧ s = 0 ∧ (∀ m z, m < k → ¬ Ms l L m z) ∧ msL l L k ((suc l k).take i) = []) ∨
  (b = true ∧ kI = k ∧ (∀ m z, m < k → ¬ Ms l L m z) ∧ s ∈ msL l L k ((suc l k).take i) ∧ ∀ z ∈ msL l L k ((suc l k).take i), s ≤ z) ∨
  (b = true ∧ kI < k ∧ Fst l L kI s true)
section
variable {l : List Ins} {L : List (List Int)} {k i j kI n M : Nat} {s t z : Int} {b : Bool} {r : List Int}
theorem FSt.start (l : List Ins) (L : List (List Int)) : FSt l L 0 0 0 0 false := .inl ⟨rfl, rfl, rfl, fun m z h => by omega, rfl⟩
theorem FSt.stop (h : FSt l L k i kI s b) (hk : kI < k) (hb : b = true) : Fst l L kI s b := by
  rcases h with ⟨h1, -⟩ | ⟨-, h1, -⟩ | ⟨rfl, -, h⟩
  · rw [hb] at h1; cases h1
  · omega
  · exact h
theorem FSt.le (h : FSt l L k i kI s b) : kI ≤ k := by
  rcases h with ⟨-, h1, -⟩ | ⟨-, h1, -⟩ | ⟨-, h1, -⟩ <;> omega
theorem FSt.skip (h : FSt l L k i kI s b) (hne : b = true → kI = k) (hj : (suc l k)[i]? = some j) (hm : minusL (inK l L j) (L.getD k []) = []) : FSt l L k (i + 1) kI s b := by
  have e : msL l L k ((suc l k).take (i + 1)) = msL l L k ((suc l k).take i) := by rw [msL_take hj, hm]; rfl
  rcases h with h | h | ⟨h1, h2, -⟩
  · exact .inl (by rw [e]; exact h)
  · exact .inr (.inl (by rw [e]; exact h))
  · have := hne h1; omega
theorem mem_take (hL : ∀ k : Nat, Asc (L.getD k [])) (hj : (suc l k)[i]? = some j) : z ∈ msL l L k ((suc l k).take (i + 1)) ↔ z ∈ msL l L k ((suc l k).take i) ∨ z ∈ minusL (inK l L j) (L.getD k []) := by
  rw [msL_take hj, mem_union (minusL_asc (inK_asc hL j) _)]
/-- A slot is found, or a smaller one. -/
theorem FSt.found (hL : ∀ k : Nat, Asc (L.getD k [])) (h : FSt l L k i kI s b) (hne : b = true → kI = k) (hj : (suc l k)[i]? = some j) (hm : minusL (inK l L j) (L.getD k []) = t :: r) (hlt : b = true → t < s) : FSt l L k (i + 1) k t true := by
  have hA := minusL_asc (inK_asc (l := l) hL j) (L.getD k [])
  rw [hm] at hA
  have hv : ∀ m z, m < k → ¬ Ms l L m z := by
    rcases h with ⟨-, -, -, h, -⟩ | ⟨-, -, h, -⟩ | ⟨h1, h2, -⟩
    · exact h
    · exact h
    · have := hne h1; omega
  refine .inr (.inl ⟨rfl, rfl, hv, ?_, fun z hz => ?_⟩)
  · rw [mem_take hL hj, hm]; exact .inr (by simp)
  · rw [mem_take hL hj, hm] at hz
    rcases hz with hz | hz
    · rcases h with ⟨-, -, -, -, h⟩ | ⟨h1, -, -, -, h⟩ | ⟨h1, h2, -⟩
      · rw [h] at hz; cases hz
      · have := h z hz
        have := hlt h1
        omega
      · have := hne h1; omega
    · exact asc_head hA hz
/-- What is found already is at most it. -/
theorem FSt.kept (hL : ∀ k : Nat, Asc (L.getD k [])) (h : FSt l L k i kI s true) (hne : kI = k) (hj : (suc l k)[i]? = some j) (hm : minusL (inK l L j) (L.getD k []) = t :: r) (hge : s ≤ t) : FSt l L k (i + 1) kI s true := by
  have hA := minusL_asc (inK_asc (l := l) hL j) (L.getD k [])
  rw [hm] at hA
  rcases h with ⟨h1, -⟩ | ⟨-, h1, h2, h3, h4⟩ | ⟨-, h1, -⟩
  · cases h1
  · refine .inr (.inl ⟨rfl, h1, h2, (mem_take hL hj).2 (.inl h3), fun z hz => ?_⟩)
    rw [mem_take hL hj, hm] at hz
    rcases hz with hz | hz
    · exact h4 z hz
    · have := asc_head hA hz; omega
  · omega
theorem FSt.next (hL : ∀ k : Nat, Asc (L.getD k [])) (hk : k < l.length) (h : FSt l L k (suc l k).length kI s b) : FSt l L (k + 1) 0 kI s b := by
  unfold FSt at h
  rw [List.take_length] at h
  rcases h with ⟨h1, h2, h3, h4, h5⟩ | ⟨h1, h2, h3, h4, h5⟩ | ⟨h1, h2, h3⟩
  · refine .inl ⟨h1, h2, h3, fun m z hm hz => ?_, rfl⟩
    by_cases e : m = k
    · subst e
      have := (mem_ms hL).2 hz
      rw [h5] at this
      cases this
    · exact h4 m z (by omega) hz
  · subst h2
    exact .inr (.inr ⟨h1, by omega, .inr ⟨rfl, hk, (mem_ms hL).1 h4, fun z hz => h5 z ((mem_ms hL).2 hz), h3⟩⟩)
  · exact .inr (.inr ⟨h1, by omega, h3⟩)
theorem FSt.fin (h : FSt l L l.length 0 kI s b) : Fst l L kI s b := by
  rcases h with ⟨h1, h2, h3, h4, -⟩ | ⟨-, -, -, h, -⟩ | ⟨h1, -, h3⟩
  · exact .inl ⟨h1, h2, h3, h4⟩
  · rw [List.take_zero, msL_nil] at h
    cases h
  · rw [h1]; exact h3
end
end Go.Proofs.YtidlnecgfgnllaaDoor
end
