/-
  The mathematics of targets: frames, targets as lists; the errors of an instruction, of a frame, of a target. Nothing here names the program.
-/
import Derived.Test.YtjgoldlebmfiiaaPeqm
namespace Go.Proofs.Ytjgoldlebmfiiaa
open Go.RowKit

/-- A frame. -/
structure Fm where
  params : Int
  size : Int
  code : List Ins
/-- A target's frames. -/
abbrev Tg := List Fm
theorem fm_eq {x y : Fm} : x = y ↔ x.params = y.params ∧ x.size = y.size ∧ x.code = y.code := by
  constructor
  · rintro rfl; exact ⟨rfl, rfl, rfl⟩
  · intro h
    obtain ⟨_, _, _⟩ := x
    obtain ⟨_, _, _⟩ := y
    obtain ⟨h1, h2, h3⟩ := h
    simp only at h1 h2 h3
    subst h1 h2 h3
    rfl
instance : DecidableEq Fm := fun x y =>
  if h : x.params = y.params ∧ x.size = y.size ∧ x.code = y.code then isTrue (fm_eq.2 h) else isFalse fun e => h (fm_eq.1 e)

/-- The kinds of the operands A, B, C: 0 unused, 1 a register, 2 an offset, 3 a size, 4 a function, 5 a target; and whether Imm is used. -/
def mshp : List (Int × Int × Int × Bool) :=
  [(1, 0, 0, true), (1, 1, 0, false), (1, 1, 1, false), (1, 1, 1, false), (1, 1, 1, false), (1, 1, 1, false), (1, 1, 1, false), (1, 1, 1, false), (1, 1, 1, false), (1, 1, 1, false), (1, 1, 1, false), (1, 1, 1, false),
   (1, 1, 0, false), (1, 0, 0, false), (1, 0, 0, false), (1, 2, 3, false), (2, 1, 3, false), (2, 2, 3, false), (0, 0, 0, false), (0, 0, 0, false), (5, 0, 0, false), (1, 5, 0, false), (4, 0, 0, false), (0, 0, 0, false), (0, 0, 0, true)]
def mshpOf (op : Int) : Int × Int × Int × Bool := mshp.getD op.toNat (0, 0, 0, false)
/-- The error of one operand: N frames, C instructions. -/
def mopE (N C k n : Int) : Int :=
  if k = 0 then (if n = 0 then 0 else 2) else if k = 1 then (if withB n 8 then 0 else 4) else if k = 4 then (if withB n N then 0 else 4) else if k = 3 then (if szB n then 0 else 5) else if k = 5 then (if withB n C then 0 else 6) else 0
/-- The operation exists in the target. -/
def exB (op : Int) : Bool := withB op 25 && (!decide (op = 18) && !decide (op = 19))
/-- An instruction reads, or writes, memory. -/
def rdB (op : Int) : Bool := decide (op = 15) || decide (op = 17)
def wrB (op : Int) : Bool := decide (op = 16) || decide (op = 17)
/-- The interval that it reads, or writes. -/
def rdI (x : Ins) : Int × Int := if rdB x.op then (x.b, x.c) else (0, 0)
def wrI (x : Ins) : Int × Int := if wrB x.op then (x.a, x.c) else (0, 0)
/-- It reads and writes where it may. -/
def covB (P S : Int) (x : Ins) : Bool := insB (rdI x).1 (rdI x).2 (S + 16 * P) && insB (wrI x).1 (wrI x).2 S
/-- The first error in the document's order. -/
def mrank (l : List Int) (cov : Bool) : Int := if l.contains 2 then 2 else if l.contains 4 then 4 else if l.contains 5 then 5 else if cov = false then 4 else if l.contains 6 then 6 else 0
def mfound (N C : Int) (x : Ins) : List Int := foundE (mopE N C (mshpOf x.op).1 x.a) (mopE N C (mshpOf x.op).2.1 x.b) (mopE N C (mshpOf x.op).2.2.1 x.c) (mshpOf x.op).2.2.2 x.imm
/-- The error of an instruction of a frame of a right shape. -/
def minsE (N : Nat) (f : Fm) (x : Ins) : Int := if exB x.op = false then 4 else mrank (mfound N f.code.length x) (covB f.params f.size x)
/-- The shape of a frame is right. -/
def shB (Al : Int) (f : Fm) : Bool := powB Al && (withB f.params 9 && (withB f.size 2147483520 && decide (f.size % Al = 0)))
/-- The error of a frame. -/
def fmE (Al : Int) (N : Nat) (f : Fm) : Int :=
  if shB Al f = false then 4
  else if 1024 < f.code.length then 3
  else if firstE (f.code.map (minsE N f)) ≠ 0 then firstE (f.code.map (minsE N f))
  else if closedB f.code = false then 6 else 0
/-- A frame has room for the parameters of what it calls. -/
def callB (F : Tg) (f : Fm) (x : Ins) : Bool := !(decide (x.op = 22) && decide (f.size < 16 * ((F[x.a.toNat]?).map Fm.params).getD 0))
def roomB (F : Tg) (f : Fm) : Bool := f.code.all (callB F f)
/-- The error of a target. -/
def tgE (Al : Int) (F : Tg) : Int :=
  if 80 < F.length then 3
  else match F with
    | [] => 4
    | f :: _ => if powB Al = false ∨ Al < 16 then 5 else if f.params ≠ 0 then 7 else if firstE (F.map (fmE Al F.length)) ≠ 0 then firstE (F.map (fmE Al F.length)) else if F.all (roomB F) then 0 else 7
end Go.Proofs.Ytjgoldlebmfiiaa
