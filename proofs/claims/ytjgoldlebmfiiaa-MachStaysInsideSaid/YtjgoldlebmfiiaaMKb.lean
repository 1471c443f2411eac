import Derived.Test.YtjgoldlebmfiiaaMKa
import Derived.WalkKit
import Derived.Laws.StructEq
set_option linter.unusedVariables false
set_option linter.unusedSimpArgs false
section
/-
  The mathematics of source programs: instructions, functions, programs as lists; their errors, and when a change is noticed. Nothing here names the program.
-/
namespace Go.Proofs.Ytjgoldlebmfiiaa
open Go.RowKit

/-- An instruction. -/
structure Ins where
  op : Int
  a : Int
  b : Int
  c : Int
  imm : Int
/-- A function. -/
structure Fn where
  params : Int
  slots : List (Int × Int)
  code : List Ins
/-- A program. -/
abbrev Pg := List Fn

/-- The first number that is not 0, or 0. -/
def firstE : List Int → Int
  | [] => 0
  | e :: r => if e = 0 then firstE r else e
theorem firstE_zero {l : List Int} : firstE l = 0 ↔ ∀ e ∈ l, e = 0 := by
  induction l with
  | nil => simp [firstE]
  | cons e r ih =>
    by_cases h : e = 0
    · simp [firstE, h, ih]
    · simp [firstE, h]
theorem firstE_hit {l : List Int} {k : Nat} {e : Int} (hk : l[k]? = some e) (he : e ≠ 0) (hb : ∀ j, j < k → l[j]? = some 0) : firstE l = e := by
  induction l generalizing k with
  | nil => simp at hk
  | cons x r ih =>
    cases k with
    | zero => simp at hk; subst hk; simp [firstE, he]
    | succ k =>
      have h0 := hb 0 (by omega)
      simp at h0
      subst h0
      simp only [firstE, if_true]
      exact ih (k := k) (by simpa using hk) fun j hj => by have := hb (j + 1) (by omega); simpa using this

/-- The kinds of the operands A, B, C of an operation: 0 unused, 1 a register, 2 a slot, 3 a function, 4 an argument, 5 a parameter, 6 a target; and whether Imm is used. -/
def shp : List (Int × Int × Int × Bool) :=
  [(1, 0, 0, true), (1, 1, 0, false), (1, 1, 1, false), (1, 1, 1, false), (1, 1, 1, false), (1, 1, 1, false), (1, 1, 1, false), (1, 1, 1, false), (1, 1, 1, false), (1, 1, 1, false), (1, 1, 1, false), (1, 1, 1, false),
   (1, 1, 0, false), (1, 0, 0, false), (1, 0, 0, false), (1, 2, 0, false), (2, 1, 0, false), (2, 2, 0, false), (4, 1, 0, false), (1, 5, 0, false), (6, 0, 0, false), (1, 6, 0, false), (3, 0, 0, false), (0, 0, 0, false), (0, 0, 0, true)]
def shpOf (op : Int) : Int × Int × Int × Bool := shp.getD op.toNat (0, 0, 0, false)

/-- How many numbers an operand of a kind may have. -/
def cntV (N : Nat) (f : Fn) (k : Int) : Int := if k = 1 then 8 else if k = 2 then f.slots.length else if k = 3 then N else if k = 4 then 8 else if k = 5 then f.params else if k = 6 then f.code.length else 1
def withB (n m : Int) : Bool := decide (0 ≤ n) && decide (n < m)
theorem withB_true {n m : Int} : withB n m = true ↔ 0 ≤ n ∧ n < m := by simp [withB]
theorem withB_false {n m : Int} : withB n m = false ↔ ¬(0 ≤ n ∧ n < m) := by rw [← withB_true]; simp
/-- The error of one operand. -/
def opndE (N : Nat) (f : Fn) (k n : Int) : Int := if withB n (cntV N f k) then 0 else if k = 0 then 2 else if k = 6 then 6 else 4
theorem opndE_cases (N : Nat) (f : Fn) (k n : Int) : opndE N f k n = 0 ∨ opndE N f k n = 2 ∨ opndE N f k n = 4 ∨ opndE N f k n = 6 := by unfold opndE; (repeat' split) <;> simp
theorem opndE_zero {N : Nat} {f : Fn} {k n : Int} : opndE N f k n = 0 ↔ withB n (cntV N f k) = true := by
  unfold opndE
  by_cases h : withB n (cntV N f k) = true
  · simp [h]
  · simp only [Bool.not_eq_true] at h
    simp only [h]
    (repeat' split) <;> simp_all
/-- The errors of three operands, in their order; the error of Imm behind them. -/
def foundE (e1 e2 e3 : Int) (m : Bool) (imm : Int) : List Int := [e1, e2, e3] ++ (if m = false ∧ imm ≠ 0 then [2] else [])
def opndsE (N : Nat) (f : Fn) (x : Ins) : List Int := foundE (opndE N f (shpOf x.op).1 x.a) (opndE N f (shpOf x.op).2.1 x.b) (opndE N f (shpOf x.op).2.2.1 x.c) (shpOf x.op).2.2.2 x.imm
/-- The first error in the document's order. -/
def rankE (l : List Int) (size : Bool) : Int := if l.contains 2 then 2 else if l.contains 4 then 4 else if size then 5 else if l.contains 6 then 6 else 0
theorem rankE_zero {e1 e2 e3 imm : Int} {m size : Bool} (c1 : e1 = 0 ∨ e1 = 2 ∨ e1 = 4 ∨ e1 = 6) (c2 : e2 = 0 ∨ e2 = 2 ∨ e2 = 4 ∨ e2 = 6) (c3 : e3 = 0 ∨ e3 = 2 ∨ e3 = 4 ∨ e3 = 6) :
    rankE (foundE e1 e2 e3 m imm) size = 0 ↔ e1 = 0 ∧ e2 = 0 ∧ e3 = 0 ∧ (m = true ∨ imm = 0) ∧ size = false := by
  have hi : (m = true ∨ imm = 0) ↔ ¬(m = false ∧ imm ≠ 0) := by cases m <;> simp
  rw [hi]
  unfold foundE
  by_cases h : m = false ∧ imm ≠ 0
  · rw [if_pos h]
    simp [rankE, h]
  · rw [if_neg h]
    clear hi
    cases size <;> rcases c1 with rfl | rfl | rfl | rfl <;> rcases c2 with rfl | rfl | rfl | rfl <;> rcases c3 with rfl | rfl | rfl | rfl <;> simp [rankE, h]
/-- The size of slot k. -/
def sizeAt (l : List (Int × Int)) (k : Int) : Int := (l.getD k.toNat (0, 0)).1
/-- A Move between slots of two sizes. -/
def moveBad (f : Fn) (x : Ins) : Bool := decide (x.op = 17) && !decide (sizeAt f.slots x.a = sizeAt f.slots x.b)
/-- The error of an instruction. -/
def insE (N : Nat) (f : Fn) (x : Ins) : Int := if withB x.op 25 = false then 4 else rankE (opndsE N f x) (moveBad f x)
def termB (op : Int) : Bool := op == 20 || op == 23 || op == 24
def closedB (l : List Ins) : Bool := match l.getLast? with
  | none => false
  | some x => termB x.op
/-- The error of a function. -/
def fnE (N : Nat) (f : Fn) : Int :=
  if 1024 < f.code.length then 3
  else if slotsE f.slots ≠ 0 then slotsE f.slots
  else if withB f.params 9 = false then 4
  else if firstE (f.code.map (insE N f)) ≠ 0 then firstE (f.code.map (insE N f))
  else if closedB f.code = false then 6 else 0
/-- The error of a program. -/
def pgE (F : Pg) : Int :=
  if 80 < F.length then 3
  else match F with
    | [] => 4
    | f :: _ => if f.params ≠ 0 then 7 else firstE (F.map (fnE F.length))

/-- What an instruction without an error is. -/
theorem insE_zero {N : Nat} {f : Fn} {x : Ins} : insE N f x = 0 ↔ (0 ≤ x.op ∧ x.op < 25) ∧ opndE N f (shpOf x.op).1 x.a = 0 ∧ opndE N f (shpOf x.op).2.1 x.b = 0 ∧ opndE N f (shpOf x.op).2.2.1 x.c = 0 ∧ ((shpOf x.op).2.2.2 = true ∨ x.imm = 0) ∧ moveBad f x = false := by
  unfold insE
  have h := rankE_zero (imm := x.imm) (m := (shpOf x.op).2.2.2) (size := moveBad f x) (opndE_cases N f (shpOf x.op).1 x.a) (opndE_cases N f (shpOf x.op).2.1 x.b) (opndE_cases N f (shpOf x.op).2.2.1 x.c)
  by_cases ho : withB x.op 25 = true
  · rw [if_neg (by simp [ho])]
    exact ⟨fun e => ⟨withB_true.1 ho, h.1 e⟩, fun e => h.2 e.2⟩
  · rw [if_pos (by simpa using ho)]
    exact ⟨(fun e => absurd e (by decide)), fun e => absurd (withB_true.2 e.1) ho⟩
theorem insE_op {N : Nat} {f : Fn} {x : Ins} (h : ¬(0 ≤ x.op ∧ x.op < 25)) : insE N f x = 4 := by
  unfold insE; rw [if_pos (withB_false.2 h)]
theorem cntV_le {N : Nat} {f : Fn} {k : Int} (hN : N ≤ 80) (hs : f.slots.length ≤ 512) (hp : f.params ≤ 8) (hc : f.code.length ≤ 1024) : cntV N f k ≤ 1024 := by
  unfold cntV; (repeat' split) <;> omega
theorem fnE_zero {N : Nat} {f : Fn} : fnE N f = 0 ↔ f.code.length ≤ 1024 ∧ slotsE f.slots = 0 ∧ (0 ≤ f.params ∧ f.params ≤ 8) ∧ (∀ x ∈ f.code, insE N f x = 0) ∧ closedB f.code = true := by
  unfold fnE
  have hf := @firstE_zero (f.code.map (insE N f))
  simp only [List.mem_map, forall_exists_index, and_imp, forall_apply_eq_imp_iff₂] at hf
  by_cases h1 : 1024 < f.code.length
  · rw [if_pos h1]; simp; omega
  · rw [if_neg h1]
    by_cases h2 : slotsE f.slots = 0
    · rw [if_neg (by simpa using h2)]
      by_cases h3 : withB f.params 9 = true
      · have h3' := withB_true.1 h3
        rw [if_neg (by simp [h3])]
        by_cases h4 : firstE (f.code.map (insE N f)) = 0
        · rw [if_neg (by simpa using h4)]
          have h4' := hf.1 h4
          by_cases h5 : closedB f.code = true
          · rw [if_neg (by simp [h5])]
            exact ⟨fun _ => ⟨by omega, h2, by omega, h4', h5⟩, fun _ => rfl⟩
          · rw [if_pos (by simpa using h5)]
            exact ⟨fun h => by simp at h, fun h => absurd h.2.2.2.2 h5⟩
        · rw [if_pos (by simpa using h4)]
          exact ⟨fun h => absurd h h4, fun h => absurd (hf.2 h.2.2.2.1) h4⟩
      · have h3' := withB_false.1 (by simpa using h3)
        rw [if_pos (by simpa using h3)]
        exact ⟨fun h => by simp at h, fun h => absurd ⟨h.2.2.1.1, by omega⟩ h3'⟩
    · rw [if_pos (by simpa using h2)]
      exact ⟨fun h => absurd h h2, fun h => absurd h.2.1 h2⟩
theorem pgE_zero {F : Pg} : pgE F = 0 ↔ F.length ≤ 80 ∧ (∃ f r, F = f :: r ∧ f.params = 0) ∧ ∀ f ∈ F, fnE F.length f = 0 := by
  unfold pgE
  have hf := @firstE_zero (F.map (fnE F.length))
  simp only [List.mem_map, forall_exists_index, and_imp, forall_apply_eq_imp_iff₂] at hf
  by_cases h1 : 80 < F.length
  · rw [if_pos h1]
    exact ⟨fun h => by simp at h, fun h => absurd h.1 (by omega)⟩
  · rw [if_neg h1]
    cases F with
    | nil => simp
    | cons f r =>
      simp only
      by_cases h2 : f.params = 0
      · rw [if_neg (by simpa using h2)]
        exact ⟨fun h => ⟨by omega, ⟨f, r, rfl, h2⟩, hf.1 h⟩, fun h => hf.2 h.2.2⟩
      · rw [if_pos h2]
        refine ⟨fun h => by simp at h, fun h => ?_⟩
        obtain ⟨_, ⟨g, s, he, hg⟩, _⟩ := h
        injection he with e1 e2
        subst e1
        exact absurd hg h2
end Go.Proofs.Ytjgoldlebmfiiaa
end

section
/-
  Programs in memory: rows of instructions, rows of functions, what lies behind them; kept over what a call leaves. No function of the program is named here.
-/
namespace Go.Proofs.Ytjgoldlebmfiiaa
open Go.RowKit

section
variable {α : Type} {f : α → List Value} {m : Nat}
theorem flat_len (hm : ∀ a, (f a).length = m) (l : List α) : (l.flatMap f).length = l.length * m := by
  induction l with
  | nil => simp
  | cons b r ih => simp only [List.flatMap_cons, List.length_append, List.length_cons, ih, hm b]; rw [Nat.add_mul]; omega
theorem flat_at (hm : ∀ a, (f a).length = m) (l : List α) (k : Nat) (a : α) (h : l[k]? = some a) (j : Nat) (hj : j < m) : (l.flatMap f)[k * m + j]? = (f a)[j]? := by
  induction l generalizing k with
  | nil => simp at h
  | cons b r ih =>
    rw [List.flatMap_cons]
    cases k with
    | zero =>
      simp at h; subst h
      rw [Nat.zero_mul, Nat.zero_add, List.getElem?_append_left (by rw [hm]; exact hj)]
    | succ k =>
      rw [List.getElem?_append_right (by rw [hm, Nat.add_mul]; omega), hm b, show (k + 1) * m + j - m = k * m + j by rw [Nat.add_mul]; omega]
      exact ih k (by simpa using h)
theorem flat_set (hm : ∀ a, (f a).length = m) (l : List α) (k : Nat) (a b : α) (h : l[k]? = some a) (j : Nat) (hj : j < m) (v : Value) (hb : f b = (f a).set j v) : (l.flatMap f).set (k * m + j) v = (l.set k b).flatMap f := by
  induction l generalizing k with
  | nil => simp at h
  | cons c r ih =>
    rw [List.flatMap_cons]
    cases k with
    | zero =>
      simp at h; subst h
      rw [Nat.zero_mul, Nat.zero_add, List.set_append_left _ _ (by rw [hm]; exact hj), List.set_cons_zero, List.flatMap_cons, hb]
    | succ k =>
      rw [List.set_append_right _ _ (by rw [hm, Nat.add_mul]; omega), hm c, show (k + 1) * m + j - m = k * m + j by rw [Nat.add_mul]; omega, List.set_cons_succ, List.flatMap_cons, ih k (by simpa using h)]
end

/-- An instruction, a function, a program by value. -/
abbrev iv (o a b c m : Int) : Value := .agg #[.int .i64 o, .int .i64 a, .int .i64 b, .int .i64 c, .int .u64 m]
abbrev fv (P : Int) (A1 : Option Addr) (n1 c1 : Nat) (A2 : Option Addr) (n2 c2 : Nat) : Value := .agg #[.int .i64 P, .slice A1 n1 c1, .slice A2 n2 c2]
abbrev gv (A : Option Addr) (n c : Nat) : Value := .agg #[.slice A n c]
/-- The cells of a list of instructions. -/
def icell (x : Ins) : List Value := [.int .i64 x.op, .int .i64 x.a, .int .i64 x.b, .int .i64 x.c, .int .u64 x.imm]
def icells (l : List Ins) : List Value := l.flatMap icell
theorem icell_len (x : Ins) : (icell x).length = 5 := rfl
theorem icells_length (l : List Ins) : (icells l).length = l.length * 5 := flat_len icell_len l
theorem icells_append (l m : List Ins) : icells (l ++ m) = icells l ++ icells m := by simp [icells]
theorem icells_one (x : Ins) : icells [x] = [.int .i64 x.op, .int .i64 x.a, .int .i64 x.b, .int .i64 x.c, .int .u64 x.imm] := rfl
theorem icells_oneCell (l : List Ins) : ∀ v ∈ icells l, v.oneCell' = true := by
  intro v hv
  simp only [icells, List.mem_flatMap] at hv
  obtain ⟨x, _, hv⟩ := hv
  simp [icell] at hv
  rcases hv with rfl | rfl | rfl | rfl | rfl <;> rfl
/-- A function's head: its parameters and its two slices. -/
structure Hd where
  p : Int
  a1 : Option Addr
  n1 : Nat
  c1 : Nat
  a2 : Option Addr
  n2 : Nat
  c2 : Nat
def hcell (h : Hd) : List Value := [.int .i64 h.p, .slice h.a1 h.n1 h.c1, .slice h.a2 h.n2 h.c2]
def hcells (l : List Hd) : List Value := l.flatMap hcell
theorem hcell_len (h : Hd) : (hcell h).length = 3 := rfl
theorem hcells_length (l : List Hd) : (hcells l).length = l.length * 3 := flat_len hcell_len l
theorem hcells_append (l m : List Hd) : hcells (l ++ m) = hcells l ++ hcells m := by simp [hcells]
theorem hcells_oneCell (l : List Hd) : ∀ v ∈ hcells l, v.oneCell' = true := by
  intro v hv
  simp only [hcells, List.mem_flatMap] at hv
  obtain ⟨x, _, hv⟩ := hv
  simp [hcell] at hv
  rcases hv with rfl | rfl | rfl <;> rfl

/-- An address is nil or lies from block lo on. -/
def Far (lo : Nat) (A : Option Addr) : Prop := ∀ a, A = some a → lo ≤ a.block
theorem Far.zero (A : Option Addr) : Far 0 A := fun _ _ => Nat.zero_le _
theorem Far.more {lo lo' : Nat} {A : Option Addr} (h : Far lo A) (hl : lo' ≤ lo) : Far lo' A := fun a e => Nat.le_trans hl (h a e)
theorem Far.none (lo : Nat) : Far lo none := fun _ e => by cases e
/-- What is seen, where all from lo on to B has been kept. -/
theorem Sees.keepF {w w' : World} {lo B : Nat} {A : Option Addr} {xs : List Value} (h : Sees w B A xs) (hf : Far lo A) (hk : ∀ p : Addr, lo ≤ p.block → p.block < B → w'.cell? p = w.cell? p) : Sees w' B A xs := fun k u hu => by
  obtain ⟨b, off, e, hb, hc⟩ := h k u hu
  have hl : lo ≤ b := hf _ e
  exact ⟨b, off, e, hb, (hk ⟨b, off + k, .none⟩ hl hb).trans hc⟩

/-- A slice's own bounds. -/
def Cap (A : Option Addr) (n c : Nat) : Prop := (A = none → c = 0) ∧ n ≤ c ∧ n ≤ 8796093022208
/-- The head h is function f: its slices lie from block lo on, below B. -/
structure HdAt (w : World) (lo B : Nat) (h : Hd) (f : Fn) : Prop where
  p : h.p = f.params
  l1 : f.slots.length = h.n1
  l2 : f.code.length = h.n2
  k1 : Cap h.a1 h.n1 h.c1
  k2 : Cap h.a2 h.n2 h.c2
  f1 : Far lo h.a1
  f2 : Far lo h.a2
  s1 : Sees w B h.a1 (pcells f.slots)
  s2 : Sees w B h.a2 (icells f.code)
/-- The heads hs are the program F. -/
structure Hds (w : World) (lo B : Nat) (hs : List Hd) (F : Pg) : Prop where
  len : hs.length = F.length
  at_ : ∀ (k : Nat) (h : Hd) (f : Fn), hs[k]? = some h → F[k]? = some f → HdAt w lo B h f
/-- At the slice A, n, c stands the program F. -/
structure PgAt (w : World) (lo B : Nat) (A : Option Addr) (n c : Nat) (hs : List Hd) (F : Pg) : Prop where
  len : F.length = n
  cap : Cap A n c
  far : Far lo A
  see : Sees w B A (hcells hs)
  hd : Hds w lo B hs F

section
variable {w w' : World} {lo lo' B B' : Nat} {h : Hd} {f : Fn} {hs : List Hd} {F : Pg} {A : Option Addr} {n c : Nat}
theorem HdAt.keep (H : HdAt w lo B h f) (hk : ∀ p : Addr, lo ≤ p.block → p.block < B → w'.cell? p = w.cell? p) : HdAt w' lo B h f := ⟨H.p, H.l1, H.l2, H.k1, H.k2, H.f1, H.f2, H.s1.keepF H.f1 hk, H.s2.keepF H.f2 hk⟩
theorem HdAt.more (H : HdAt w lo B h f) (hB : B ≤ B') (hl : lo' ≤ lo) : HdAt w lo' B' h f := ⟨H.p, H.l1, H.l2, H.k1, H.k2, H.f1.more hl, H.f2.more hl, H.s1.more hB, H.s2.more hB⟩
theorem Hds.keep (H : Hds w lo B hs F) (hk : ∀ p : Addr, lo ≤ p.block → p.block < B → w'.cell? p = w.cell? p) : Hds w' lo B hs F := ⟨H.len, fun k h f e1 e2 => (H.at_ k h f e1 e2).keep hk⟩
theorem Hds.more (H : Hds w lo B hs F) (hB : B ≤ B') (hl : lo' ≤ lo) : Hds w lo' B' hs F := ⟨H.len, fun k h f e1 e2 => (H.at_ k h f e1 e2).more hB hl⟩
theorem PgAt.keep (H : PgAt w lo B A n c hs F) (hk : ∀ p : Addr, lo ≤ p.block → p.block < B → w'.cell? p = w.cell? p) : PgAt w' lo B A n c hs F := ⟨H.len, H.cap, H.far, H.see.keepF H.far hk, H.hd.keep hk⟩
theorem PgAt.more (H : PgAt w lo B A n c hs F) (hB : B ≤ B') (hl : lo' ≤ lo) : PgAt w lo' B' A n c hs F := ⟨H.len, H.cap, H.far.more hl, H.see.more hB, H.hd.more hB hl⟩
theorem PgAt.below (H : PgAt w lo B A n c hs F) (hb : Below B w w') : PgAt w' lo B A n c hs F := H.keep fun _ _ hp => hb.cell hp
theorem PgAt.call (H : PgAt w lo w.heap.size A n c hs F) (hb : Below w.heap.size w w') : PgAt w' lo w'.heap.size A n c hs F := (H.below hb).more hb.size (Nat.le_refl _)
theorem PgAt.drewN (H : PgAt w lo B A n c hs F) (k : Nat) : PgAt (w.drewN k) lo B A n c hs F := H.keep fun _ _ _ => rfl
theorem PgAt.alloc (H : PgAt w lo w.heap.size A n c hs F) (o : Obj) : PgAt (w.alloc o) lo (w.alloc o).heap.size A n c hs F := H.call (below1 w o)
theorem PgAt.grown {g : Nat} (H : PgAt w lo B A n c hs F) (hg : w.grownBy w' (some g)) (hlo : g < lo) (hB : B ≤ w.heap.size) : PgAt w' lo B A n c hs F :=
  H.keep fun p h1 h2 => World.cell?_of_block (hg.block p.block (by omega) (fun e => by injection e with e; omega))
theorem HdAt.below (H : HdAt w lo B h f) (hb : Below B w w') : HdAt w' lo B h f := H.keep fun _ _ hp => hb.cell hp
theorem HdAt.grown {g : Nat} (H : HdAt w lo B h f) (hg : w.grownBy w' (some g)) (hlo : g < lo) (hB : B ≤ w.heap.size) : HdAt w' lo B h f :=
  H.keep fun p h1 h2 => World.cell?_of_block (hg.block p.block (by omega) (fun e => by injection e with e; omega))

/-- The instruction at place k, and where it stands. -/
theorem ins_at {l : List Ins} {k : Nat} (h : Sees w B A (icells l)) (hk : k < l.length) :
    ∃ b off, A = some ⟨b, off, none⟩ ∧ b < B ∧ w.cell? ⟨b, off + k * 5, none⟩ = some (.int .i64 l[k].op) ∧ w.cell? ⟨b, off + k * 5 + 1, none⟩ = some (.int .i64 l[k].a) ∧ w.cell? ⟨b, off + k * 5 + 2, none⟩ = some (.int .i64 l[k].b) ∧
      w.cell? ⟨b, off + k * 5 + 3, none⟩ = some (.int .i64 l[k].c) ∧ w.cell? ⟨b, off + k * 5 + 4, none⟩ = some (.int .u64 l[k].imm) := by
  have hx := List.getElem?_eq_getElem hk
  have g := fun j hj => flat_at icell_len l k _ hx j hj
  obtain ⟨b, off, e, hb, h0⟩ := h _ _ (g 0 (by omega))
  obtain ⟨b1, o1, e1, _, h1⟩ := h _ _ (g 1 (by omega))
  obtain ⟨b2, o2, e2, _, h2⟩ := h _ _ (g 2 (by omega))
  obtain ⟨b3, o3, e3, _, h3⟩ := h _ _ (g 3 (by omega))
  obtain ⟨b4, o4, e4, _, h4⟩ := h _ _ (g 4 (by omega))
  subst e
  injection e1 with e1; injection e1 with x1 y1; subst x1 y1
  injection e2 with e2; injection e2 with x2 y2; subst x2 y2
  injection e3 with e3; injection e3 with x3 y3; subst x3 y3
  injection e4 with e4; injection e4 with x4 y4; subst x4 y4
  exact ⟨b, off, rfl, hb, h0, h1, h2, h3, h4⟩
/-- The head at place k, and where it stands. -/
theorem hd_at {l : List Hd} {k : Nat} (h : Sees w B A (hcells l)) (hk : k < l.length) :
    ∃ b off, A = some ⟨b, off, none⟩ ∧ b < B ∧ w.cell? ⟨b, off + k * 3, none⟩ = some (.int .i64 l[k].p) ∧ w.cell? ⟨b, off + k * 3 + 1, none⟩ = some (.slice l[k].a1 l[k].n1 l[k].c1) ∧ w.cell? ⟨b, off + k * 3 + 2, none⟩ = some (.slice l[k].a2 l[k].n2 l[k].c2) := by
  have hx := List.getElem?_eq_getElem hk
  have g := fun j hj => flat_at hcell_len l k _ hx j hj
  obtain ⟨b, off, e, hb, h0⟩ := h _ _ (g 0 (by omega))
  obtain ⟨b1, o1, e1, _, h1⟩ := h _ _ (g 1 (by omega))
  obtain ⟨b2, o2, e2, _, h2⟩ := h _ _ (g 2 (by omega))
  subst e
  injection e1 with e1; injection e1 with x1 y1; subst x1 y1
  injection e2 with e2; injection e2 with x2 y2; subst x2 y2
  exact ⟨b, off, rfl, hb, h0, h1, h2⟩
/-- Function k of a program: where its head stands, and that it is it. -/
theorem fn_at {k : Nat} (H : PgAt w lo B A n c hs F) (hk : k < n) :
    ∃ (b off : Nat) (P : Int) (A1 : Option Addr) (n1 c1 : Nat) (A2 : Option Addr) (n2 c2 : Nat) (f : Fn), A = some ⟨b, off, none⟩ ∧ b < B ∧ F[k]? = some f ∧ hs[k]? = some ⟨P, A1, n1, c1, A2, n2, c2⟩ ∧ HdAt w lo B ⟨P, A1, n1, c1, A2, n2, c2⟩ f ∧
      w.cell? ⟨b, off + k * 3, none⟩ = some (.int .i64 P) ∧ w.cell? ⟨b, off + k * 3 + 1, none⟩ = some (.slice A1 n1 c1) ∧ w.cell? ⟨b, off + k * 3 + 2, none⟩ = some (.slice A2 n2 c2) := by
  have h1 : k < F.length := by rw [H.len]; exact hk
  have h2 : k < hs.length := by rw [H.hd.len]; exact h1
  obtain ⟨b, off, e, hb, c0, c1, c2⟩ := hd_at H.see h2
  exact ⟨b, off, _, _, _, _, _, _, _, F[k], e, hb, List.getElem?_eq_getElem h1, List.getElem?_eq_getElem h2, H.hd.at_ k _ _ (List.getElem?_eq_getElem h2) (List.getElem?_eq_getElem h1), c0, c1, c2⟩
end
theorem cap_le {A : Option Addr} {n c : Nat} (h : Cap A n c) : n ≤ 4611686018427387904 := by have := h.2.1; have := h.2.2; omega
theorem drewN_below {B : Nat} {a w : World} (h : Below B a w) (k : Nat) : Below B a (w.drewN k) := below_draws h k
/-- A truth value; what was in memory is as it was. -/
def BoolBelow (b : Bool) (w : World) (e : Ending) (w' : World) : Prop := e = .returned (.bool b) ∧ Below w.heap.size w w'
theorem heap_at (w : World) (o : Obj) {k : Nat} (h : k = w.heap.size) : (w.alloc o).heap[k]? = some o := by subst h; exact heap_alloc_new w o
end Go.Proofs.Ytjgoldlebmfiiaa
end

section
/-
  When two instructions, slots, functions are equal; '==' at slots and at instructions. No function of the program is named here.
-/
namespace Go.Proofs.Ytjgoldlebmfiiaa
open Go.RowKit

instance : DecidableEq Ins := fun x y =>
  if h : x.op = y.op ∧ x.a = y.a ∧ x.b = y.b ∧ x.c = y.c ∧ x.imm = y.imm then isTrue (by
    obtain ⟨_, _, _, _, _⟩ := x
    obtain ⟨_, _, _, _, _⟩ := y
    obtain ⟨h1, h2, h3, h4, h5⟩ := h
    simp only at h1 h2 h3 h4 h5
    subst h1 h2 h3 h4 h5
    rfl)
  else isFalse fun e => h (by subst e; exact ⟨rfl, rfl, rfl, rfl, rfl⟩)
instance : DecidableEq Fn := fun x y =>
  if h : x.params = y.params ∧ x.slots = y.slots ∧ x.code = y.code then isTrue (by
    obtain ⟨_, _, _⟩ := x
    obtain ⟨_, _, _⟩ := y
    obtain ⟨h1, h2, h3⟩ := h
    simp only at h1 h2 h3
    subst h1 h2 h3
    rfl)
  else isFalse fun e => h (by subst e; exact ⟨rfl, rfl, rfl⟩)
theorem ins_eq {x y : Ins} : x = y ↔ x.op = y.op ∧ x.a = y.a ∧ x.b = y.b ∧ x.c = y.c ∧ x.imm = y.imm := by
  constructor
  · rintro rfl; exact ⟨rfl, rfl, rfl, rfl, rfl⟩
  · intro h
    obtain ⟨_, _, _, _, _⟩ := x
    obtain ⟨_, _, _, _, _⟩ := y
    obtain ⟨h1, h2, h3, h4, h5⟩ := h
    simp only at h1 h2 h3 h4 h5
    subst h1 h2 h3 h4 h5
    rfl

theorem snoc_take {α : Type} {l : List α} {k : Nat} (h : k < l.length) : l.take (k + 1) = l.take k ++ [l[k]] := by
  rw [List.take_add_one, List.getElem?_eq_getElem h]; rfl
theorem ne_take {α : Type} {l m : List α} {k : Nat} (h1 : k < l.length) (h2 : k < m.length) (hne : l[k] ≠ m[k]) : l ≠ m := by
  rintro rfl; exact hne rfl

/-- Whether two lists are equal, the world but for draws as it was. -/
def BoolDrew (b : Bool) (w : World) (e : Ending) (w' : World) : Prop := e = .returned (.bool b) ∧ ∃ k, w' = w.drewN k

theorem slot_fields : Try.prog.underlying 95 = some (.struct (Try.prog.fieldsOf 95)) := by kernel_rfl
theorem slot_held : Try.prog.stoodInHeld 95 = false := by kernel_rfl
theorem equalIn_slot (a b c d : Int) (w : World) : (Op.equalIn 10000 95 (pv a b) (pv c d)).run Try.prog w = .ok (decide (a = c) && decide (b = d)) w := by
  rw [show (10000 : Nat) = 9999 + 1 from rfl, run_equalIn_agg w 9999 95 _ _ slot_fields slot_held]
  have u := Try.underlying3
  have a' := Try.isAgg3
  have z := Try.sizeOf3
  simp only [Program.fieldsOf, Try.underlying95]
  go_simp
  by_cases h1 : a = c <;> by_cases h2 : b = d <;> simp [h1, h2]
theorem run_ne_slot (a b c d : Int) (w : World) : (binOp .neq 95 (pv a b) (pv c d)).run Try.prog w = .ok (.bool (!(decide (a = c) && decide (b = d)))) w := by
  rw [run_neq_struct, equalIn_slot, Result.andThen_ok]
theorem instr_fields : Try.prog.underlying 27 = some (.struct (Try.prog.fieldsOf 27)) := by kernel_rfl
theorem instr_held : Try.prog.stoodInHeld 27 = false := by kernel_rfl
theorem equalIn_instr (o a b c m o' a' b' c' m' : Int) (w : World) : (Op.equalIn 10000 27 (iv o a b c m) (iv o' a' b' c' m')).run Try.prog w = .ok (decide (o = o') && (decide (a = a') && (decide (b = b') && (decide (c = c') && decide (m = m'))))) w := by
  rw [show (10000 : Nat) = 9999 + 1 from rfl, run_equalIn_agg w 9999 27 _ _ instr_fields instr_held]
  have u := Try.underlying3
  have ag := Try.isAgg3
  have z := Try.sizeOf3
  have u' := Try.underlying25
  have ag' := Try.isAgg25
  have z' := Try.sizeOf25
  simp only [Program.fieldsOf, Try.underlying27]
  go_simp
  by_cases h1 : o = o' <;> by_cases h2 : a = a' <;> by_cases h3 : b = b' <;> by_cases h4 : c = c' <;> by_cases h5 : m = m' <;> simp [h1, h2, h3, h4, h5]
theorem run_ne_instr (o a b c m o' a' b' c' m' : Int) (w : World) : (binOp .neq 27 (iv o a b c m) (iv o' a' b' c' m')).run Try.prog w = .ok (.bool (!(decide (o = o') && (decide (a = a') && (decide (b = b') && (decide (c = c') && decide (m = m'))))))) w := by
  rw [run_neq_struct, equalIn_instr, Result.andThen_ok]

theorem fn_eq {x y : Fn} : x = y ↔ x.params = y.params ∧ x.slots = y.slots ∧ x.code = y.code := by
  constructor
  · rintro rfl; exact ⟨rfl, rfl, rfl⟩
  · intro h
    obtain ⟨_, _, _⟩ := x
    obtain ⟨_, _, _⟩ := y
    obtain ⟨h1, h2, h3⟩ := h
    simp only at h1 h2 h3
    subst h1 h2 h3
    rfl
end Go.Proofs.Ytjgoldlebmfiiaa
end

section
/-
  The mathematics of targets: frames, targets as lists; the errors of an instruction, of a frame, of a target. Nothing here names the program.
-/
namespace Go.Proofs.Ytjgoldlebmfiiaa
open Go.RowKit

/-- A frame. -/
structure Fm where
  params : Int
  size : Int
  code : List Ins
/-- A target's frames. -/
abbrev Tg := List Fm
theorem fm_eq {x y : Fm} : x = y ↔ x.params = y.params ∧ x.size = y.size ∧ x.code = y.code := by
  constructor
  · rintro rfl; exact ⟨rfl, rfl, rfl⟩
  · intro h
    obtain ⟨_, _, _⟩ := x
    obtain ⟨_, _, _⟩ := y
    obtain ⟨h1, h2, h3⟩ := h
    simp only at h1 h2 h3
    subst h1 h2 h3
    rfl
instance : DecidableEq Fm := fun x y =>
  if h : x.params = y.params ∧ x.size = y.size ∧ x.code = y.code then isTrue (fm_eq.2 h) else isFalse fun e => h (fm_eq.1 e)

/-- The kinds of the operands A, B, C: 0 unused, 1 a register, 2 an offset, 3 a size, 4 a function, 5 a target; and whether Imm is used. -/
def mshp : List (Int × Int × Int × Bool) :=
  [(1, 0, 0, true), (1, 1, 0, false), (1, 1, 1, false), (1, 1, 1, false), (1, 1, 1, false), (1, 1, 1, false), (1, 1, 1, false), (1, 1, 1, false), (1, 1, 1, false), (1, 1, 1, false), (1, 1, 1, false), (1, 1, 1, false),
   (1, 1, 0, false), (1, 0, 0, false), (1, 0, 0, false), (1, 2, 3, false), (2, 1, 3, false), (2, 2, 3, false), (0, 0, 0, false), (0, 0, 0, false), (5, 0, 0, false), (1, 5, 0, false), (4, 0, 0, false), (0, 0, 0, false), (0, 0, 0, true)]
def mshpOf (op : Int) : Int × Int × Int × Bool := mshp.getD op.toNat (0, 0, 0, false)
/-- The error of one operand: N frames, C instructions. -/
def mopE (N C k n : Int) : Int :=
  if k = 0 then (if n = 0 then 0 else 2) else if k = 1 then (if withB n 8 then 0 else 4) else if k = 4 then (if withB n N then 0 else 4) else if k = 3 then (if szB n then 0 else 5) else if k = 5 then (if withB n C then 0 else 6) else 0
/-- The operation exists in the target. -/
def exB (op : Int) : Bool := withB op 25 && (!decide (op = 18) && !decide (op = 19))
/-- An instruction reads, or writes, memory. -/
def rdB (op : Int) : Bool := decide (op = 15) || decide (op = 17)
def wrB (op : Int) : Bool := decide (op = 16) || decide (op = 17)
/-- The interval that it reads, or writes. -/
def rdI (x : Ins) : Int × Int := if rdB x.op then (x.b, x.c) else (0, 0)
def wrI (x : Ins) : Int × Int := if wrB x.op then (x.a, x.c) else (0, 0)
/-- It reads and writes where it may. -/
def covB (P S : Int) (x : Ins) : Bool := insB (rdI x).1 (rdI x).2 (S + 16 * P) && insB (wrI x).1 (wrI x).2 S
/-- The first error in the document's order. -/
def mrank (l : List Int) (cov : Bool) : Int := if l.contains 2 then 2 else if l.contains 4 then 4 else if l.contains 5 then 5 else if cov = false then 4 else if l.contains 6 then 6 else 0
def mfound (N C : Int) (x : Ins) : List Int := foundE (mopE N C (mshpOf x.op).1 x.a) (mopE N C (mshpOf x.op).2.1 x.b) (mopE N C (mshpOf x.op).2.2.1 x.c) (mshpOf x.op).2.2.2 x.imm
/-- The error of an instruction of a frame of a right shape. -/
def minsE (N : Nat) (f : Fm) (x : Ins) : Int := if exB x.op = false then 4 else mrank (mfound N f.code.length x) (covB f.params f.size x)
/-- The shape of a frame is right. -/
def shB (Al : Int) (f : Fm) : Bool := powB Al && (withB f.params 9 && (withB f.size 2147483520 && decide (f.size % Al = 0)))
/-- The error of a frame. -/
def fmE (Al : Int) (N : Nat) (f : Fm) : Int :=
  if shB Al f = false then 4
  else if 1024 < f.code.length then 3
  else if firstE (f.code.map (minsE N f)) ≠ 0 then firstE (f.code.map (minsE N f))
  else if closedB f.code = false then 6 else 0
/-- A frame has room for the parameters of what it calls. -/
def callB (F : Tg) (f : Fm) (x : Ins) : Bool := !(decide (x.op = 22) && decide (f.size < 16 * ((F[x.a.toNat]?).map Fm.params).getD 0))
def roomB (F : Tg) (f : Fm) : Bool := f.code.all (callB F f)
/-- The error of a target. -/
def tgE (Al : Int) (F : Tg) : Int :=
  if 80 < F.length then 3
  else match F with
    | [] => 4
    | f :: _ => if powB Al = false ∨ Al < 16 then 5 else if f.params ≠ 0 then 7 else if firstE (F.map (fmE Al F.length)) ≠ 0 then firstE (F.map (fmE Al F.length)) else if F.all (roomB F) then 0 else 7
end Go.Proofs.Ytjgoldlebmfiiaa
end

section
/-
  Targets in memory: rows of frames, what lies behind them; kept over what a call leaves. No function of the program is named here.
-/
namespace Go.Proofs.Ytjgoldlebmfiiaa
open Go.RowKit

/-- A frame, a target by value. -/
abbrev mv (P S : Int) (A : Option Addr) (n c : Nat) : Value := .agg #[.int .i64 P, .int .i64 S, .slice A n c]
abbrev tv (Al : Int) (A : Option Addr) (n c : Nat) : Value := .agg #[.int .i64 Al, .slice A n c]
/-- A frame's head. -/
structure Fd where
  p : Int
  s : Int
  a : Option Addr
  n : Nat
  c : Nat
def fdcell (h : Fd) : List Value := [.int .i64 h.p, .int .i64 h.s, .slice h.a h.n h.c]
def fdcells (l : List Fd) : List Value := l.flatMap fdcell
theorem fdcell_len (h : Fd) : (fdcell h).length = 3 := rfl
theorem fdcells_length (l : List Fd) : (fdcells l).length = l.length * 3 := flat_len fdcell_len l
theorem fdcells_append (l m : List Fd) : fdcells (l ++ m) = fdcells l ++ fdcells m := by simp [fdcells]
theorem fdcells_oneCell (l : List Fd) : ∀ v ∈ fdcells l, v.oneCell' = true := by
  intro v hv
  simp only [fdcells, List.mem_flatMap] at hv
  obtain ⟨x, _, hv⟩ := hv
  simp [fdcell] at hv
  rcases hv with rfl | rfl | rfl <;> rfl
/-- The head h is frame f: its code lies from block lo on, below B. -/
structure FdAt (w : World) (lo B : Nat) (h : Fd) (f : Fm) : Prop where
  p : h.p = f.params
  s : h.s = f.size
  l : f.code.length = h.n
  k : Cap h.a h.n h.c
  fr : Far lo h.a
  c : Sees w B h.a (icells f.code)
structure Fds (w : World) (lo B : Nat) (hs : List Fd) (F : Tg) : Prop where
  len : hs.length = F.length
  at_ : ∀ (k : Nat) (h : Fd) (f : Fm), hs[k]? = some h → F[k]? = some f → FdAt w lo B h f
/-- At the slice A, n, c stand the frames F. -/
structure TgAt (w : World) (lo B : Nat) (A : Option Addr) (n c : Nat) (hs : List Fd) (F : Tg) : Prop where
  len : F.length = n
  cap : Cap A n c
  far : Far lo A
  see : Sees w B A (fdcells hs)
  hd : Fds w lo B hs F

section
variable {w w' : World} {lo lo' B B' : Nat} {h : Fd} {f : Fm} {hs : List Fd} {F : Tg} {A : Option Addr} {n c : Nat}
theorem FdAt.keep (H : FdAt w lo B h f) (hk : ∀ p : Addr, lo ≤ p.block → p.block < B → w'.cell? p = w.cell? p) : FdAt w' lo B h f := ⟨H.p, H.s, H.l, H.k, H.fr, H.c.keepF H.fr hk⟩
theorem FdAt.more (H : FdAt w lo B h f) (hB : B ≤ B') (hl : lo' ≤ lo) : FdAt w lo' B' h f := ⟨H.p, H.s, H.l, H.k, H.fr.more hl, H.c.more hB⟩
theorem Fds.keep (H : Fds w lo B hs F) (hk : ∀ p : Addr, lo ≤ p.block → p.block < B → w'.cell? p = w.cell? p) : Fds w' lo B hs F := ⟨H.len, fun k h f e1 e2 => (H.at_ k h f e1 e2).keep hk⟩
theorem Fds.more (H : Fds w lo B hs F) (hB : B ≤ B') (hl : lo' ≤ lo) : Fds w lo' B' hs F := ⟨H.len, fun k h f e1 e2 => (H.at_ k h f e1 e2).more hB hl⟩
theorem TgAt.keep (H : TgAt w lo B A n c hs F) (hk : ∀ p : Addr, lo ≤ p.block → p.block < B → w'.cell? p = w.cell? p) : TgAt w' lo B A n c hs F := ⟨H.len, H.cap, H.far, H.see.keepF H.far hk, H.hd.keep hk⟩
theorem TgAt.more (H : TgAt w lo B A n c hs F) (hB : B ≤ B') (hl : lo' ≤ lo) : TgAt w lo' B' A n c hs F := ⟨H.len, H.cap, H.far.more hl, H.see.more hB, H.hd.more hB hl⟩
theorem TgAt.below (H : TgAt w lo B A n c hs F) (hb : Below B w w') : TgAt w' lo B A n c hs F := H.keep fun _ _ hp => hb.cell hp
theorem TgAt.call (H : TgAt w lo w.heap.size A n c hs F) (hb : Below w.heap.size w w') : TgAt w' lo w'.heap.size A n c hs F := (H.below hb).more hb.size (Nat.le_refl _)
theorem TgAt.drewN (H : TgAt w lo B A n c hs F) (k : Nat) : TgAt (w.drewN k) lo B A n c hs F := H.keep fun _ _ _ => rfl
theorem TgAt.alloc (H : TgAt w lo w.heap.size A n c hs F) (o : Obj) : TgAt (w.alloc o) lo (w.alloc o).heap.size A n c hs F := H.call (below1 w o)
theorem TgAt.grown {g : Nat} (H : TgAt w lo B A n c hs F) (hg : w.grownBy w' (some g)) (hlo : g < lo) (hB : B ≤ w.heap.size) : TgAt w' lo B A n c hs F :=
  H.keep fun p h1 h2 => World.cell?_of_block (hg.block p.block (by omega) (fun e => by injection e with e; omega))
theorem FdAt.below (H : FdAt w lo B h f) (hb : Below B w w') : FdAt w' lo B h f := H.keep fun _ _ hp => hb.cell hp
theorem FdAt.grown {g : Nat} (H : FdAt w lo B h f) (hg : w.grownBy w' (some g)) (hlo : g < lo) (hB : B ≤ w.heap.size) : FdAt w' lo B h f :=
  H.keep fun p h1 h2 => World.cell?_of_block (hg.block p.block (by omega) (fun e => by injection e with e; omega))
/-- The head at place k, and where it stands. -/
theorem fd_at {l : List Fd} {k : Nat} (h : Sees w B A (fdcells l)) (hk : k < l.length) :
    ∃ b off, A = some ⟨b, off, none⟩ ∧ b < B ∧ w.cell? ⟨b, off + k * 3, none⟩ = some (.int .i64 l[k].p) ∧ w.cell? ⟨b, off + k * 3 + 1, none⟩ = some (.int .i64 l[k].s) ∧ w.cell? ⟨b, off + k * 3 + 2, none⟩ = some (.slice l[k].a l[k].n l[k].c) := by
  have hx := List.getElem?_eq_getElem hk
  have g := fun j hj => flat_at fdcell_len l k _ hx j hj
  obtain ⟨b, off, e, hb, h0⟩ := h _ _ (g 0 (by omega))
  obtain ⟨b1, o1, e1, _, h1⟩ := h _ _ (g 1 (by omega))
  obtain ⟨b2, o2, e2, _, h2⟩ := h _ _ (g 2 (by omega))
  subst e
  injection e1 with e1; injection e1 with x1 y1; subst x1 y1
  injection e2 with e2; injection e2 with x2 y2; subst x2 y2
  exact ⟨b, off, rfl, hb, h0, h1, h2⟩
/-- Frame k of a target: where its head stands, and that it is it. -/
theorem fm_at {k : Nat} (H : TgAt w lo B A n c hs F) (hk : k < n) :
    ∃ (b off : Nat) (P S : Int) (A1 : Option Addr) (n1 c1 : Nat) (f : Fm), A = some ⟨b, off, none⟩ ∧ b < B ∧ F[k]? = some f ∧ hs[k]? = some ⟨P, S, A1, n1, c1⟩ ∧ FdAt w lo B ⟨P, S, A1, n1, c1⟩ f ∧
      w.cell? ⟨b, off + k * 3, none⟩ = some (.int .i64 P) ∧ w.cell? ⟨b, off + k * 3 + 1, none⟩ = some (.int .i64 S) ∧ w.cell? ⟨b, off + k * 3 + 2, none⟩ = some (.slice A1 n1 c1) := by
  have h1 : k < F.length := by rw [H.len]; exact hk
  have h2 : k < hs.length := by rw [H.hd.len]; exact h1
  obtain ⟨b, off, e, hb, c0, c1, c2⟩ := fd_at H.see h2
  exact ⟨b, off, _, _, _, _, _, F[k], e, hb, List.getElem?_eq_getElem h1, List.getElem?_eq_getElem h2, H.hd.at_ k _ _ (List.getElem?_eq_getElem h2) (List.getElem?_eq_getElem h1), c0, c1, c2⟩
/-- The same at a place that both lists name. -/
theorem fm_at' {k : Nat} {f : Fm} {P S : Int} {A1 : Option Addr} {n1 c1 : Nat} (H : TgAt w lo B A n c hs F) (hf : F[k]? = some f) (hh : hs[k]? = some ⟨P, S, A1, n1, c1⟩) :
    ∃ (b off : Nat), A = some ⟨b, off, none⟩ ∧ b < B ∧ FdAt w lo B ⟨P, S, A1, n1, c1⟩ f ∧
      w.cell? ⟨b, off + k * 3, none⟩ = some (.int .i64 P) ∧ w.cell? ⟨b, off + k * 3 + 1, none⟩ = some (.int .i64 S) ∧ w.cell? ⟨b, off + k * 3 + 2, none⟩ = some (.slice A1 n1 c1) := by
  have hk : k < n := by rw [← H.len]; exact (List.getElem?_eq_some_iff.1 hf).1
  obtain ⟨b, off, _, _, _, _, _, _, e, hb, e1, e2, h, c0, c1, c2⟩ := fm_at H hk
  rw [hf] at e1; injection e1 with e1; subst e1
  rw [hh] at e2; injection e2 with e2; injection e2 with x1 x2 x3 x4 x5; subst x1 x2 x3 x4 x5
  exact ⟨b, off, e, hb, h, c0, c1, c2⟩
end
end Go.Proofs.Ytjgoldlebmfiiaa
end
