import Derived.Test.YtjbgepjdohfhkaaMLeaf
import Derived.Test.YtjbgepjdohfhkaaMFgr
import Derived.WalkKit
set_option linter.unusedVariables false
set_option linter.unusedSimpArgs false
section
/-
  The mathematics of source programs: instructions, functions, programs as lists; their errors, and when a change is noticed. Nothing here names the program.
-/
namespace Go.Proofs.Ytjbgepjdohfhkaa
open Go.RowKit

/-- An instruction. -/
structure Ins where
  op : Int
  a : Int
  b : Int
  c : Int
  imm : Int
/-- A function. -/
structure Fn where
  params : Int
  slots : List (Int × Int)
  code : List Ins
/-- A program. -/
abbrev Pg := List Fn

/-- The first number that is not 0, or 0. -/
def firstE : List Int → Int
  | [] => 0
  | e :: r => if e = 0 then firstE r else e
theorem firstE_zero {l : List Int} : firstE l = 0 ↔ ∀ e ∈ l, e = 0 := by
  induction l with
  | nil => simp [firstE]
  | cons e r ih =>
    by_cases h : e = 0
    · simp [firstE, h, ih]
    · simp [firstE, h]
theorem firstE_hit {l : List Int} {k : Nat} {e : Int} (hk : l[k]? = some e) (he : e ≠ 0) (hb : ∀ j, j < k → l[j]? = some 0) : firstE l = e := by
  induction l generalizing k with
  | nil => simp at hk
  | cons x r ih =>
    cases k with
    | zero => simp at hk; subst hk; simp [firstE, he]
    | succ k =>
      have h0 := hb 0 (by omega)
      simp at h0
      subst h0
      simp only [firstE, if_true]
      exact ih (k := k) (by simpa using hk) fun j hj => by have := hb (j + 1) (by omega); simpa using this

/-- The kinds of the operands A, B, C of an operation: 0 unused, 1 a register, 2 a slot, 3 a function, 4 an argument, 5 a parameter, 6 a target; and whether Imm is used. -/
def shp : List (Int × Int × Int × Bool) :=
  [(1, 0, 0, true), (1, 1, 0, false), (1, 1, 1, false), (1, 1, 1, false), (1, 1, 1, false), (1, 1, 1, false), (1, 1, 1, false), (1, 1, 1, false), (1, 1, 1, false), (1, 1, 1, false), (1, 1, 1, false), (1, 1, 1, false),
   (1, 1, 0, false), (1, 0, 0, false), (1, 0, 0, false), (1, 2, 0, false), (2, 1, 0, false), (2, 2, 0, false), (4, 1, 0, false), (1, 5, 0, false), (6, 0, 0, false), (1, 6, 0, false), (3, 0, 0, false), (0, 0, 0, false), (0, 0, 0, true)]
def shpOf (op : Int) : Int × Int × Int × Bool := shp.getD op.toNat (0, 0, 0, false)

/-- How many numbers an operand of a kind may have. -/
def cntV (N : Nat) (f : Fn) (k : Int) : Int := if k = 1 then 8 else if k = 2 then f.slots.length else if k = 3 then N else if k = 4 then 8 else if k = 5 then f.params else if k = 6 then f.code.length else 1
def withB (n m : Int) : Bool := decide (0 ≤ n) && decide (n < m)
theorem withB_true {n m : Int} : withB n m = true ↔ 0 ≤ n ∧ n < m := by simp [withB]
theorem withB_false {n m : Int} : withB n m = false ↔ ¬(0 ≤ n ∧ n < m) := by rw [← withB_true]; simp
/-- The error of one operand. -/
def opndE (N : Nat) (f : Fn) (k n : Int) : Int := if withB n (cntV N f k) then 0 else if k = 0 then 2 else if k = 6 then 6 else 4
theorem opndE_cases (N : Nat) (f : Fn) (k n : Int) : opndE N f k n = 0 ∨ opndE N f k n = 2 ∨ opndE N f k n = 4 ∨ opndE N f k n = 6 := by unfold opndE; (repeat' split) <;> simp
theorem opndE_zero {N : Nat} {f : Fn} {k n : Int} : opndE N f k n = 0 ↔ withB n (cntV N f k) = true := by
  unfold opndE
  by_cases h : withB n (cntV N f k) = true
  · simp [h]
  · simp only [Bool.not_eq_true] at h
    simp only [h]
    (repeat' split) <;> simp_all
/-- The errors of three operands, in their order; the error of Imm behind them. -/
def foundE (e1 e2 e3 : Int) (m : Bool) (imm : Int) : List Int := [e1, e2, e3] ++ (if m = false ∧ imm ≠ 0 then [2] else [])
def opndsE (N : Nat) (f : Fn) (x : Ins) : List Int := foundE (opndE N f (shpOf x.op).1 x.a) (opndE N f (shpOf x.op).2.1 x.b) (opndE N f (shpOf x.op).2.2.1 x.c) (shpOf x.op).2.2.2 x.imm
/-- The first error in the document's order. -/
def rankE (l : List Int) (size : Bool) : Int := if l.contains 2 then 2 else if l.contains 4 then 4 else if size then 5 else if l.contains 6 then 6 else 0
theorem rankE_zero {e1 e2 e3 imm : Int} {m size : Bool} (c1 : e1 = 0 ∨ e1 = 2 ∨ e1 = 4 ∨ e1 = 6) (c2 : e2 = 0 ∨ e2 = 2 ∨ e2 = 4 ∨ e2 = 6) (c3 : e3 = 0 ∨ e3 = 2 ∨ e3 = 4 ∨ e3 = 6) :
    rankE (foundE e1 e2 e3 m imm) size = 0 ↔ e1 = 0 ∧ e2 = 0 ∧ e3 = 0 ∧ (m = true ∨ imm = 0) ∧ size = false := by
  have hi : (m = true ∨ imm = 0) ↔ ¬(m = false ∧ imm ≠ 0) := by cases m <;> simp
  rw [hi]
  unfold foundE
  by_cases h : m = false ∧ imm ≠ 0
  · rw [if_pos h]
    simp [rankE, h]
  · rw [if_neg h]
    clear hi
    cases size <;> rcases c1 with rfl | rfl | rfl | rfl <;> rcases c2 with rfl | rfl | rfl | rfl <;> rcases c3 with rfl | rfl | rfl | rfl <;> simp [rankE, h]
/-- The size of slot k. -/
def sizeAt (l : List (Int × Int)) (k : Int) : Int := (l.getD k.toNat (0, 0)).1
/-- A Move between slots of two sizes. -/
def moveBad (f : Fn) (x : Ins) : Bool := decide (x.op = 17) && !decide (sizeAt f.slots x.a = sizeAt f.slots x.b)
/-- The error of an instruction. -/
def insE (N : Nat) (f : Fn) (x : Ins) : Int := if withB x.op 25 = false then 4 else rankE (opndsE N f x) (moveBad f x)
def termB (op : Int) : Bool := op == 20 || op == 23 || op == 24
def closedB (l : List Ins) : Bool := match l.getLast? with
  | none => false
  | some x => termB x.op
/-- The error of a function. -/
def fnE (N : Nat) (f : Fn) : Int :=
  if 1024 < f.code.length then 3
  else if slotsE f.slots ≠ 0 then slotsE f.slots
  else if withB f.params 9 = false then 4
  else if firstE (f.code.map (insE N f)) ≠ 0 then firstE (f.code.map (insE N f))
  else if closedB f.code = false then 6 else 0
/-- The error of a program. -/
def pgE (F : Pg) : Int :=
  if 80 < F.length then 3
  else match F with
    | [] => 4
    | f :: _ => if f.params ≠ 0 then 7 else firstE (F.map (fnE F.length))

/-- What an instruction without an error is. -/
theorem insE_zero {N : Nat} {f : Fn} {x : Ins} : insE N f x = 0 ↔ (0 ≤ x.op ∧ x.op < 25) ∧ opndE N f (shpOf x.op).1 x.a = 0 ∧ opndE N f (shpOf x.op).2.1 x.b = 0 ∧ opndE N f (shpOf x.op).2.2.1 x.c = 0 ∧ ((shpOf x.op).2.2.2 = true ∨ x.imm = 0) ∧ moveBad f x = false := by
  unfold insE
  have h := rankE_zero (imm := x.imm) (m := (shpOf x.op).2.2.2) (size := moveBad f x) (opndE_cases N f (shpOf x.op).1 x.a) (opndE_cases N f (shpOf x.op).2.1 x.b) (opndE_cases N f (shpOf x.op).2.2.1 x.c)
  by_cases ho : withB x.op 25 = true
  · rw [if_neg (by simp [ho])]
    exact ⟨fun e => ⟨withB_true.1 ho, h.1 e⟩, fun e => h.2 e.2⟩
  · rw [if_pos (by simpa using ho)]
    exact ⟨(fun e => absurd e (by decide)), fun e => absurd (withB_true.2 e.1) ho⟩
theorem insE_op {N : Nat} {f : Fn} {x : Ins} (h : ¬(0 ≤ x.op ∧ x.op < 25)) : insE N f x = 4 := by
  unfold insE; rw [if_pos (withB_false.2 h)]
theorem cntV_le {N : Nat} {f : Fn} {k : Int} (hN : N ≤ 80) (hs : f.slots.length ≤ 512) (hp : f.params ≤ 8) (hc : f.code.length ≤ 1024) : cntV N f k ≤ 1024 := by
  unfold cntV; (repeat' split) <;> omega
theorem fnE_zero {N : Nat} {f : Fn} : fnE N f = 0 ↔ f.code.length ≤ 1024 ∧ slotsE f.slots = 0 ∧ (0 ≤ f.params ∧ f.params ≤ 8) ∧ (∀ x ∈ f.code, insE N f x = 0) ∧ closedB f.code = true := by
  unfold fnE
  have hf := @firstE_zero (f.code.map (insE N f))
  simp only [List.mem_map, forall_exists_index, and_imp, forall_apply_eq_imp_iff₂] at hf
  by_cases h1 : 1024 < f.code.length
  · rw [if_pos h1]; simp; omega
  · rw [if_neg h1]
    by_cases h2 : slotsE f.slots = 0
    · rw [if_neg (by simpa using h2)]
      by_cases h3 : withB f.params 9 = true
      · have h3' := withB_true.1 h3
        rw [if_neg (by simp [h3])]
        by_cases h4 : firstE (f.code.map (insE N f)) = 0
        · rw [if_neg (by simpa using h4)]
          have h4' := hf.1 h4
          by_cases h5 : closedB f.code = true
          · rw [if_neg (by simp [h5])]
            exact ⟨fun _ => ⟨by omega, h2, by omega, h4', h5⟩, fun _ => rfl⟩
          · rw [if_pos (by simpa using h5)]
            exact ⟨fun h => by simp at h, fun h => absurd h.2.2.2.2 h5⟩
        · rw [if_pos (by simpa using h4)]
          exact ⟨fun h => absurd h h4, fun h => absurd (hf.2 h.2.2.2.1) h4⟩
      · have h3' := withB_false.1 (by simpa using h3)
        rw [if_pos (by simpa using h3)]
        exact ⟨fun h => by simp at h, fun h => absurd ⟨h.2.2.1.1, by omega⟩ h3'⟩
    · rw [if_pos (by simpa using h2)]
      exact ⟨fun h => absurd h h2, fun h => absurd h.2.1 h2⟩
theorem pgE_zero {F : Pg} : pgE F = 0 ↔ F.length ≤ 80 ∧ (∃ f r, F = f :: r ∧ f.params = 0) ∧ ∀ f ∈ F, fnE F.length f = 0 := by
  unfold pgE
  have hf := @firstE_zero (F.map (fnE F.length))
  simp only [List.mem_map, forall_exists_index, and_imp, forall_apply_eq_imp_iff₂] at hf
  by_cases h1 : 80 < F.length
  · rw [if_pos h1]
    exact ⟨fun h => by simp at h, fun h => absurd h.1 (by omega)⟩
  · rw [if_neg h1]
    cases F with
    | nil => simp
    | cons f r =>
      simp only
      by_cases h2 : f.params = 0
      · rw [if_neg (by simpa using h2)]
        exact ⟨fun h => ⟨by omega, ⟨f, r, rfl, h2⟩, hf.1 h⟩, fun h => hf.2 h.2.2⟩
      · rw [if_pos h2]
        refine ⟨fun h => by simp at h, fun h => ?_⟩
        obtain ⟨_, ⟨g, s, he, hg⟩, _⟩ := h
        injection he with e1 e2
        subst e1
        exact absurd hg h2
theorem not_last {l : List Ins} {k : Nat} {x : Ins} (h : closedB l = true) (hx : l[k]? = some x) (ht : termB x.op = false) : k + 1 < l.length := by
  have hk := (List.getElem?_eq_some_iff.1 hx).1
  rcases Nat.lt_or_ge (k + 1) l.length with h1 | h1
  · exact h1
  · exfalso
    unfold closedB at h
    have : l.getLast? = some x := by rw [List.getLast?_eq_getElem?, show l.length - 1 = k by omega]; exact hx
    rw [this] at h
    dsimp only at h
    rw [h] at ht
    cases ht
theorem closed_some {l : List Ins} (h : closedB l = true) : 1 ≤ l.length := by
  cases l with
  | nil => cases h
  | cons a r => simp
end Go.Proofs.Ytjbgepjdohfhkaa
end

section
/-
  The control flow of a function as mathematics: what may follow an instruction and what it may follow, leaders. Nothing here names the program.
-/
namespace Go.Proofs.Ytjbgepjdohfhkaa
open Go.RowKit

/-- What may follow instruction x at place k, ascending. -/
def sucX (x : Ins) (k : Nat) : List Nat :=
  if x.op = 20 then [x.a.toNat] else if x.op = 23 ∨ x.op = 24 then [] else if x.op = 21 then (if x.b.toNat < k + 1 then [x.b.toNat, k + 1] else if k + 1 < x.b.toNat then [k + 1, x.b.toNat] else [k + 1]) else [k + 1]
/-- What may follow instruction k. -/
def suc (l : List Ins) (k : Nat) : List Nat := match l[k]? with
  | none => []
  | some x => sucX x k
def sucZ (l : List Ins) (k : Int) : List Nat := if 0 ≤ k then suc l k.toNat else []
/-- The code of a function that is right: no jump leaves it, and control does not run over its end. -/
structure FlowOk (l : List Ins) : Prop where
  few : l.length ≤ 1024
  jmp : ∀ (k : Nat) (x : Ins), l[k]? = some x → x.op = 20 → 0 ≤ x.a ∧ x.a < l.length
  brn : ∀ (k : Nat) (x : Ins), l[k]? = some x → x.op = 21 → 0 ≤ x.b ∧ x.b < l.length
  nxt : ∀ (k : Nat) (x : Ins), l[k]? = some x → termB x.op = false → k + 1 < l.length
section
variable {l : List Ins} {k j : Nat} {x : Ins}
theorem suc_some (h : l[k]? = some x) : suc l k = sucX x k := by unfold suc; rw [h]
theorem suc_none (h : ¬ k < l.length) : suc l k = [] := by unfold suc; rw [List.getElem?_eq_none (by omega)]
theorem sucZ_nat (l : List Ins) (k : Nat) : sucZ l k = suc l k := by unfold sucZ; rw [if_pos (by omega)]; simp
theorem sucZ_out {z : Int} (h : z < 0 ∨ (l.length : Int) ≤ z) : sucZ l z = [] := by
  unfold sucZ
  by_cases hz : 0 ≤ z
  · rw [if_pos hz]; exact suc_none (by omega)
  · rw [if_neg hz]
theorem sucX_jump (k : Nat) (h : x.op = 20) : sucX x k = [x.a.toNat] := by unfold sucX; rw [if_pos h]
theorem sucX_end (k : Nat) (h : x.op = 23 ∨ x.op = 24) : sucX x k = [] := by unfold sucX; rw [if_neg (by omega), if_pos h]
theorem sucX_else (k : Nat) (h : termB x.op = false) (h2 : x.op ≠ 21) : sucX x k = [k + 1] := by
  simp [termB] at h
  unfold sucX; rw [if_neg (by simpa using h.1.1), if_neg (by rintro (e | e) <;> simp [e] at h), if_neg h2]
theorem sucX_back (h : x.op = 21) (hb : x.b.toNat < k + 1) : sucX x k = [x.b.toNat, k + 1] := by unfold sucX; rw [if_neg (by omega), if_neg (by omega), if_pos h, if_pos hb]
theorem sucX_fore (h : x.op = 21) (hb : k + 1 < x.b.toNat) : sucX x k = [k + 1, x.b.toNat] := by unfold sucX; rw [if_neg (by omega), if_neg (by omega), if_pos h, if_neg (by omega), if_pos hb]
theorem sucX_next (h : x.op = 21) (hb : x.b.toNat = k + 1) : sucX x k = [k + 1] := by unfold sucX; rw [if_neg (by omega), if_neg (by omega), if_pos h, if_neg (by omega), if_neg (by omega)]
theorem sucX_len (x : Ins) (k : Nat) : (sucX x k).length ≤ 2 := by unfold sucX; (repeat' split) <;> simp
theorem suc_len (l : List Ins) (k : Nat) : (suc l k).length ≤ 2 := by
  unfold suc; split
  · simp
  · exact sucX_len _ _
/-- What may follow is an instruction. -/
theorem suc_lt (h : FlowOk l) (hj : j ∈ suc l k) : j < l.length := by
  rcases Nat.lt_or_ge k l.length with hk | hk
  · have hx := List.getElem?_eq_getElem hk
    rw [suc_some hx] at hj
    by_cases h1 : l[k].op = 20
    · have := h.jmp k _ hx h1
      rw [sucX_jump k h1] at hj; simp at hj; omega
    · by_cases h2 : l[k].op = 23 ∨ l[k].op = 24
      · rw [sucX_end k h2] at hj; simp at hj
      · have ht : termB l[k].op = false := by
          simp [termB, h1]; omega
        have hn := h.nxt k _ hx ht
        by_cases h3 : l[k].op = 21
        · have := h.brn k _ hx h3
          unfold sucX at hj
          rw [if_neg h1, if_neg h2, if_pos h3] at hj
          split at hj
          · simp at hj; omega
          · split at hj <;> simp at hj <;> omega
        · rw [sucX_else k ht h3] at hj; simp at hj; omega
  · rw [suc_none (by omega)] at hj; simp at hj
theorem suc_pw (l : List Ins) (k : Nat) : (suc l k).Pairwise (· < ·) := by
  unfold suc
  split
  · simp
  · unfold sucX; (repeat' split) <;> simp <;> omega
theorem suc_nodup (l : List Ins) (k i j : Nat) (m : Nat) (hi : (suc l k)[i]? = some m) (hj : (suc l k)[j]? = some m) : i = j := by
  have hp := suc_pw l k
  obtain ⟨hi1, hi2⟩ := List.getElem?_eq_some_iff.1 hi
  obtain ⟨hj1, hj2⟩ := List.getElem?_eq_some_iff.1 hj
  rw [List.pairwise_iff_getElem] at hp
  rcases Nat.lt_trichotomy i j with c | c | c
  · have := hp i j hi1 hj1 c; omega
  · exact c
  · have := hp j i hj1 hi1 c; omega

/-- A list of numbers as ints. -/
def toI (l : List Nat) : List Int := l.map fun j : Nat => (j : Int)
theorem toI_len (l : List Nat) : (toI l).length = l.length := by simp [toI]
theorem toI_get (l : List Nat) (k : Nat) : (toI l)[k]? = (l[k]?).map (fun j : Nat => (j : Int)) := by simp [toI]
theorem toI_append (l m : List Nat) : toI (l ++ m) = toI l ++ toI m := by simp [toI]
theorem toI_mem {l : List Nat} : (j : Int) ∈ toI l ↔ j ∈ l := by
  unfold toI
  rw [List.mem_map]
  constructor
  · rintro ⟨a, ha, he⟩
    have : a = j := by omega
    subst this; exact ha
  · exact fun h => ⟨j, h, rfl⟩
theorem toI_inj {l m : List Nat} (h : toI l = toI m) : l = m := by
  refine List.ext_getElem? fun k => ?_
  have := congrArg (fun r => r[k]?) h
  simp only [toI_get] at this
  cases h1 : l[k]? <;> cases h2 : m[k]? <;> rw [h1, h2] at this <;> simp at this
  rw [show _ = _ from Int.ofNat.inj this]

/-- Which of the first m instructions instruction j may follow; of instruction m's own the first i. -/
def befN (l : List Ins) (m j : Nat) : List Nat := (List.range m).filter fun k => decide (j ∈ suc l k)
theorem mem_bef {m : Nat} : k ∈ befN l m j ↔ k < m ∧ j ∈ suc l k := by simp [befN]
/-- The rows of Before, behind m instructions and the first i of what may follow instruction m. -/
def befL (l : List Ins) (n m i : Nat) : List (List Nat) := (List.range n).map fun j => befN l m j ++ (if j ∈ (suc l m).take i then [m] else [])
theorem befL_len (l : List Ins) (n m i : Nat) : (befL l n m i).length = n := by simp [befL]
theorem befL_at {n m i : Nat} (h : j < n) : (befL l n m i)[j]? = some (befN l m j ++ (if j ∈ (suc l m).take i then [m] else [])) := by simp [befL, h]
theorem befL_start (l : List Ins) (n : Nat) : befL l n 0 0 = List.replicate n [] := by
  refine List.ext_getElem? fun k => ?_
  by_cases h : k < n
  · rw [befL_at h, List.getElem?_replicate, if_pos h]; simp [befN]
  · rw [List.getElem?_eq_none (by rw [befL_len]; omega), List.getElem?_eq_none (by simp; omega)]
theorem befL_next (l : List Ins) (n m : Nat) : befL l n m (suc l m).length = befL l n (m + 1) 0 := by
  unfold befL
  refine List.map_congr_left fun j _ => ?_
  rw [List.take_length]
  unfold befN
  rw [List.range_succ, List.filter_append]
  by_cases h : j ∈ suc l m <;> simp [h]
theorem befL_step {n m i : Nat} (hj : (suc l m)[i]? = some j) (hn : j < n) : befL l n m (i + 1) = (befL l n m i).set j (befN l m j ++ [m]) := by
  refine List.ext_getElem? fun k => ?_
  by_cases hk : k < n
  · rw [befL_at hk, List.getElem?_set, befL_at hk]
    by_cases e : j = k
    · subst e
      have ht : j ∈ (suc l m).take (i + 1) := by rw [List.take_add_one, hj]; simp
      have hb : j < (befL l n m i).length := by rw [befL_len]; exact hk
      rw [if_pos ht, if_pos rfl, if_pos hb]
    · rw [if_neg e]
      have : (k ∈ (suc l m).take (i + 1)) = (k ∈ (suc l m).take i) := by
        rw [List.take_add_one, hj, List.mem_append]
        simp; intro h; exact absurd h.symm e
      simp only [this]
  · rw [List.getElem?_eq_none (by rw [befL_len]; omega), List.getElem?_set]
    by_cases e : j = k
    · omega
    · rw [if_neg e, List.getElem?_eq_none (by rw [befL_len]; omega)]
/-- Row j is still without m when what may follow m names it for the first time. -/
theorem befL_fresh {n m i : Nat} (hj : (suc l m)[i]? = some j) (hn : j < n) : (befL l n m i)[j]? = some (befN l m j) := by
  rw [befL_at hn, if_neg, List.append_nil]
  intro h
  obtain ⟨q, hq, he⟩ := List.mem_iff_getElem.1 h
  have hq' : q < i := by simp at hq; omega
  have : (suc l m)[q]? = some j := by rw [← he, List.getElem_take]; exact List.getElem?_eq_getElem _
  have := suc_nodup l m q i j this hj
  omega
theorem befN_len (l : List Ins) (m j : Nat) : (befN l m j).length ≤ m := by
  unfold befN; exact Nat.le_trans (List.length_filter_le _ _) (by simp)

/-- Whether a block ends with an operation. -/
def endB (op : Int) : Bool := op == 21 || termB op
/-- Where an instruction jumps to. -/
def tgtX (x : Ins) : Int := if x.op = 20 then x.a else if x.op = 21 then x.b else -1
/-- Whether instruction k is a leader by what stands before it. -/
def ldrA (l : List Ins) (k : Nat) : Bool := k == 0 || (match l[k - 1]? with | none => false | some x => endB x.op)
/-- Whether one of the first m instructions jumps to k. -/
def ldrT (l : List Ins) (m k : Nat) : Bool := (l.take m).any fun x => tgtX x == (k : Int)
/-- Whether instruction k is a leader. -/
def ldr (l : List Ins) (k : Nat) : Bool := ldrA l k || ldrT l l.length k
theorem ldr_zero (l : List Ins) : ldr l 0 = true := by simp [ldr, ldrA]
theorem ldrT_zero (l : List Ins) (k : Nat) : ldrT l 0 k = false := by simp [ldrT]
theorem ldrT_step {m : Nat} (h : l[m]? = some x) (k : Nat) : ldrT l (m + 1) k = (ldrT l m k || tgtX x == (k : Int)) := by
  unfold ldrT; rw [List.take_add_one, h, List.any_append]; simp
theorem ldrT_true {m k : Nat} : ldrT l m k = true ↔ ∃ i x, i < m ∧ l[i]? = some x ∧ tgtX x = (k : Int) := by
  unfold ldrT
  rw [List.any_eq_true]
  constructor
  · rintro ⟨x, hx, he⟩
    obtain ⟨i, hi, e⟩ := List.mem_iff_getElem.1 hx
    have h1 : i < m := by simp at hi; omega
    have h2 : i < l.length := by simp at hi; omega
    exact ⟨i, x, h1, by rw [← e, List.getElem_take]; exact List.getElem?_eq_getElem h2, by simpa using he⟩
  · rintro ⟨i, x, h1, h2, h3⟩
    refine ⟨x, ?_, by simpa using h3⟩
    have h4 := (List.getElem?_eq_some_iff.1 h2).1
    exact List.mem_iff_getElem.2 ⟨i, by simp; omega, by rw [List.getElem_take]; exact (List.getElem?_eq_some_iff.1 h2).2⟩
/-- The marks of leaders, behind the first m instructions. -/
def ldrL (l : List Ins) (m : Nat) : List Bool := (List.range l.length).map fun k => (decide (k < m) && ldrA l k) || ldrT l m k
theorem ldrL_len (l : List Ins) (m : Nat) : (ldrL l m).length = l.length := by simp [ldrL]
theorem ldrL_at {m : Nat} (h : k < l.length) : (ldrL l m)[k]? = some ((decide (k < m) && ldrA l k) || ldrT l m k) := by simp [ldrL, h]
theorem ldrL_start (l : List Ins) : ldrL l 0 = List.replicate l.length false := by
  refine List.ext_getElem? fun k => ?_
  by_cases h : k < l.length
  · rw [ldrL_at h, List.getElem?_replicate, if_pos h]; simp [ldrT]
  · rw [List.getElem?_eq_none (by rw [ldrL_len]; omega), List.getElem?_eq_none (by simp; omega)]
theorem ldrL_end (h : k < l.length) : (ldrL l l.length)[k]? = some (ldr l k) := by
  rw [ldrL_at h, decide_eq_true h, Bool.true_and]; rfl
/-- One instruction more: its own mark, then the mark of its target. -/
def mark (R : List Bool) (z : Int) : List Bool := if 0 ≤ z ∧ z < R.length then R.set z.toNat true else R
theorem mark_len (R : List Bool) (z : Int) : (mark R z).length = R.length := by unfold mark; split <;> simp
theorem ldrL_step {m : Nat} (h : l[m]? = some x) : ldrL l (m + 1) = mark (if ldrA l m = true then (ldrL l m).set m true else ldrL l m) (tgtX x) := by
  have hm := (List.getElem?_eq_some_iff.1 h).1
  have hl : (if ldrA l m = true then (ldrL l m).set m true else ldrL l m).length = l.length := by split <;> simp [ldrL_len]
  refine List.ext_getElem? fun k => ?_
  by_cases hk : k < l.length
  · rw [ldrL_at hk, ldrT_step h]
    have e0 : (if ldrA l m = true then (ldrL l m).set m true else ldrL l m)[k]? = some ((decide (k < m + 1) && ldrA l k) || ldrT l m k) := by
      by_cases ha : ldrA l m = true
      · rw [if_pos ha, List.getElem?_set]
        by_cases e : m = k
        · subst e; simp [ldrL_len, hm, ha]
        · rw [if_neg e, ldrL_at hk, show decide (k < m + 1) = decide (k < m) from decide_eq_decide.2 (by omega)]
      · rw [if_neg ha, ldrL_at hk]
        by_cases e : m = k
        · subst e
          simp only [Bool.not_eq_true] at ha
          simp [ha]
        · rw [show decide (k < m + 1) = decide (k < m) from decide_eq_decide.2 (by omega)]
    unfold mark
    rw [hl]
    by_cases hz : 0 ≤ tgtX x ∧ tgtX x < l.length
    · rw [if_pos hz, List.getElem?_set]
      by_cases e : (tgtX x).toNat = k
      · have : tgtX x = (k : Int) := by omega
        rw [if_pos e, if_pos (by rw [hl]; omega), this]; simp
      · have : (tgtX x == (k : Int)) = false := by simp; omega
        rw [if_neg e, e0, this, Bool.or_false]
    · have : (tgtX x == (k : Int)) = false := by simp; omega
      rw [if_neg hz, e0, this, Bool.or_false]
  · rw [List.getElem?_eq_none (by rw [ldrL_len]; omega), List.getElem?_eq_none (by rw [mark_len, hl]; omega)]
/-- Inside of a block control goes on to the next instruction alone. -/
theorem suc_in (h : ldr l (k + 1) = false) (hx : l[k]? = some x) : suc l k = [k + 1] := by
  rw [suc_some hx]
  unfold ldr at h
  rw [Bool.or_eq_false_iff] at h
  have h1 := h.1
  simp [ldrA, hx, endB] at h1
  exact sucX_else k h1.2 (by simpa using h1.1)
end
end Go.Proofs.Ytjbgepjdohfhkaa
end
