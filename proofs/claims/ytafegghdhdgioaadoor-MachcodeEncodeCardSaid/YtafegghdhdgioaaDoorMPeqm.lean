import Derived.Test.YtafegghdhdgioaaDoorMPmath
import Derived.Test.YtafegghdhdgioaaDoorMScan
import Derived.Laws.StructEq
import Derived.WalkKit
import Derived.Deep.DeepCutAuto
import Derived.Deep.QuietTactic
import Derived.BigQuiet
import Derived.Outline
set_option linter.unusedVariables false
set_option linter.unusedSimpArgs false
section
/-
  When two instructions, slots, functions are equal; '==' at slots and at instructions. No function of the program is named here.
-/
namespace Go.Proofs.YtafegghdhdgioaaDoor
open Go.RowKit

instance : DecidableEq Ins := fun x y =>
  if h : x.op = y.op ∧ x.a = y.a ∧ x.b = y.b ∧ x.c = y.c ∧ x.imm = y.imm then isTrue (by
    obtain ⟨_, _, _, _, _⟩ := x
    obtain ⟨_, _, _, _, _⟩ := y
    obtain ⟨h1, h2, h3, h4, h5⟩ := h
    simp only at h1 h2 h3 h4 h5
    subst h1 h2 h3 h4 h5
    rfl)
  else isFalse fun e => h (by subst e; exact ⟨rfl, rfl, rfl, rfl, rfl⟩)
instance : DecidableEq Fn := fun x y =>
  if h : x.params = y.params ∧ x.slots = y.slots ∧ x.code = y.code then isTrue (by
    obtain ⟨_, _, _⟩ := x
    obtain ⟨_, _, _⟩ := y
    obtain ⟨h1, h2, h3⟩ := h
    simp only at h1 h2 h3
    subst h1 h2 h3
    rfl)
  else isFalse fun e => h (by subst e; exact ⟨rfl, rfl, rfl⟩)
theorem ins_eq {x y : Ins} : x = y ↔ x.op = y.op ∧ x.a = y.a ∧ x.b = y.b ∧ x.c = y.c ∧ x.imm = y.imm := by
  constructor
  · rintro rfl; exact ⟨rfl, rfl, rfl, rfl, rfl⟩
  · intro h
    obtain ⟨_, _, _, _, _⟩ := x
    obtain ⟨_, _, _, _, _⟩ := y
    obtain ⟨h1, h2, h3, h4, h5⟩ := h
    simp only at h1 h2 h3 h4 h5
    subst h1 h2 h3 h4 h5
    rfl

theorem snoc_take {α : Type} {l : List α} {k : Nat} (h : k < l.length) : l.take (k + 1) = l.take k ++ [l[k]] := by
  rw [List.take_add_one, List.getElem?_eq_getElem h]; rfl
theorem ne_take {α : Type} {l m : List α} {k : Nat} (h1 : k < l.length) (h2 : k < m.length) (hne : l[k] ≠ m[k]) : l ≠ m := by
  rintro rfl; exact hne rfl

/-- Whether two lists are equal, the world but for draws as it was. -/
def BoolDrew (b : Bool) (w : World) (e : Ending) (w' : World) : Prop := e = .returned (.bool b) ∧ ∃ k, w' = w.drewN k

theorem slot_fields : Tryd.prog.underlying 57 = some (.struct (Tryd.prog.fieldsOf 57)) := by kernel_rfl
theorem slot_held : Tryd.prog.stoodInHeld 57 = false := by kernel_rfl
theorem equalIn_slot (a b c d : Int) (w : World) : (Op.equalIn 10000 57 (pv a b) (pv c d)).run Tryd.prog w = .ok (decide (a = c) && decide (b = d)) w := by
  rw [show (10000 : Nat) = 9999 + 1 from rfl, run_equalIn_agg w 9999 57 _ _ slot_fields slot_held]
  have u := Tryd.underlying3
  have a' := Tryd.isAgg3
  have z := Tryd.sizeOf3
  simp only [Program.fieldsOf, Tryd.underlying57]
  go_simp
  by_cases h1 : a = c <;> by_cases h2 : b = d <;> simp [h1, h2]
theorem run_ne_slot (a b c d : Int) (w : World) : (binOp .neq 57 (pv a b) (pv c d)).run Tryd.prog w = .ok (.bool (!(decide (a = c) && decide (b = d)))) w := by
  rw [run_neq_struct, equalIn_slot, Result.andThen_ok]
theorem instr_fields : Tryd.prog.underlying 48 = some (.struct (Tryd.prog.fieldsOf 48)) := by kernel_rfl
theorem instr_held : Tryd.prog.stoodInHeld 48 = false := by kernel_rfl
theorem equalIn_instr (o a b c m o' a' b' c' m' : Int) (w : World) : (Op.equalIn 10000 48 (iv o a b c m) (iv o' a' b' c' m')).run Tryd.prog w = .ok (decide (o = o') && (decide (a = a') && (decide (b = b') && (decide (c = c') && decide (m = m'))))) w := by
  rw [show (10000 : Nat) = 9999 + 1 from rfl, run_equalIn_agg w 9999 48 _ _ instr_fields instr_held]
  have u := Tryd.underlying3
  have ag := Tryd.isAgg3
  have z := Tryd.sizeOf3
  have u' := Tryd.underlying31
  have ag' := Tryd.isAgg31
  have z' := Tryd.sizeOf31
  simp only [Program.fieldsOf, Tryd.underlying48]
  go_simp
  by_cases h1 : o = o' <;> by_cases h2 : a = a' <;> by_cases h3 : b = b' <;> by_cases h4 : c = c' <;> by_cases h5 : m = m' <;> simp [h1, h2, h3, h4, h5]
theorem run_ne_instr (o a b c m o' a' b' c' m' : Int) (w : World) : (binOp .neq 48 (iv o a b c m) (iv o' a' b' c' m')).run Tryd.prog w = .ok (.bool (!(decide (o = o') && (decide (a = a') && (decide (b = b') && (decide (c = c') && decide (m = m'))))))) w := by
  rw [run_neq_struct, equalIn_instr, Result.andThen_ok]

theorem fn_eq {x y : Fn} : x = y ↔ x.params = y.params ∧ x.slots = y.slots ∧ x.code = y.code := by
  constructor
  · rintro rfl; exact ⟨rfl, rfl, rfl⟩
  · intro h
    obtain ⟨_, _, _⟩ := x
    obtain ⟨_, _, _⟩ := y
    obtain ⟨h1, h2, h3⟩ := h
    simp only at h1 h2 h3
    subst h1 h2 h3
    rfl
end Go.Proofs.YtafegghdhdgioaaDoor
end

section
/-
  The mathematics of targets: frames, targets as lists; the errors of an instruction, of a frame, of a target. Nothing here names the program.
-/
namespace Go.Proofs.YtafegghdhdgioaaDoor
open Go.RowKit

/-- A frame. -/
structure Fm where
  params : Int
  size : Int
  code : List Ins
/-- A target's frames. -/
abbrev Tg := List Fm
theorem fm_eq {x y : Fm} : x = y ↔ x.params = y.params ∧ x.size = y.size ∧ x.code = y.code := by
  constructor
  · rintro rfl; exact ⟨rfl, rfl, rfl⟩
  · intro h
    obtain ⟨_, _, _⟩ := x
    obtain ⟨_, _, _⟩ := y
    obtain ⟨h1, h2, h3⟩ := h
    simp only at h1 h2 h3
    subst h1 h2 h3
    rfl
instance : DecidableEq Fm := fun x y =>
  if h : x.params = y.params ∧ x.size = y.size ∧ x.code = y.code then isTrue (fm_eq.2 h) else isFalse fun e => h (fm_eq.1 e)

/-- The kinds of the operands A, B, C: 0 unused, 1 a register, 2 an offset, 3 a size, 4 a function, 5 a target; and whether Imm is used. -/
def mshp : List (Int × Int × Int × Bool) :=
  [(1, 0, 0, true), (1, 1, 0, false), (1, 1, 1, false), (1, 1, 1, false), (1, 1, 1, false), (1, 1, 1, false), (1, 1, 1, false), (1, 1, 1, false), (1, 1, 1, false), (1, 1, 1, false), (1, 1, 1, false), (1, 1, 1, false),
   (1, 1, 0, false), (1, 0, 0, false), (1, 0, 0, false), (1, 2, 3, false), (2, 1, 3, false), (2, 2, 3, false), (0, 0, 0, false), (0, 0, 0, false), (5, 0, 0, false), (1, 5, 0, false), (4, 0, 0, false), (0, 0, 0, false), (0, 0, 0, true)]
def mshpOf (op : Int) : Int × Int × Int × Bool := mshp.getD op.toNat (0, 0, 0, false)
/-- The error of one operand: N frames, C instructions. -/
def mopE (N C k n : Int) : Int :=
  if k = 0 then (if n = 0 then 0 else 2) else if k = 1 then (if withB n 8 then 0 else 4) else if k = 4 then (if withB n N then 0 else 4) else if k = 3 then (if szB n then 0 else 5) else if k = 5 then (if withB n C then 0 else 6) else 0
/-- The operation exists in the target. -/
def exB (op : Int) : Bool := withB op 25 && (!decide (op = 18) && !decide (op = 19))
/-- An instruction reads, or writes, memory. -/
def rdB (op : Int) : Bool := decide (op = 15) || decide (op = 17)
def wrB (op : Int) : Bool := decide (op = 16) || decide (op = 17)
/-- The interval that it reads, or writes. -/
def rdI (x : Ins) : Int × Int := if rdB x.op then (x.b, x.c) else (0, 0)
def wrI (x : Ins) : Int × Int := if wrB x.op then (x.a, x.c) else (0, 0)
/-- It reads and writes where it may. -/
def covB (P S : Int) (x : Ins) : Bool := insB (rdI x).1 (rdI x).2 (S + 16 * P) && insB (wrI x).1 (wrI x).2 S
/-- The first error in the document's order. -/
def mrank (l : List Int) (cov : Bool) : Int := if l.contains 2 then 2 else if l.contains 4 then 4 else if l.contains 5 then 5 else if cov = false then 4 else if l.contains 6 then 6 else 0
def mfound (N C : Int) (x : Ins) : List Int := foundE (mopE N C (mshpOf x.op).1 x.a) (mopE N C (mshpOf x.op).2.1 x.b) (mopE N C (mshpOf x.op).2.2.1 x.c) (mshpOf x.op).2.2.2 x.imm
/-- The error of an instruction of a frame of a right shape. -/
def minsE (N : Nat) (f : Fm) (x : Ins) : Int := if exB x.op = false then 4 else mrank (mfound N f.code.length x) (covB f.params f.size x)
/-- The shape of a frame is right. -/
def shB (Al : Int) (f : Fm) : Bool := powB Al && (withB f.params 9 && (withB f.size 2147483520 && decide (f.size % Al = 0)))
/-- The error of a frame. -/
def fmE (Al : Int) (N : Nat) (f : Fm) : Int :=
  if shB Al f = false then 4
  else if 1024 < f.code.length then 3
  else if firstE (f.code.map (minsE N f)) ≠ 0 then firstE (f.code.map (minsE N f))
  else if closedB f.code = false then 6 else 0
/-- A frame has room for the parameters of what it calls. -/
def callB (F : Tg) (f : Fm) (x : Ins) : Bool := !(decide (x.op = 22) && decide (f.size < 16 * ((F[x.a.toNat]?).map Fm.params).getD 0))
def roomB (F : Tg) (f : Fm) : Bool := f.code.all (callB F f)
/-- The error of a target. -/
def tgE (Al : Int) (F : Tg) : Int :=
  if 80 < F.length then 3
  else match F with
    | [] => 4
    | f :: _ => if powB Al = false ∨ Al < 16 then 5 else if f.params ≠ 0 then 7 else if firstE (F.map (fmE Al F.length)) ≠ 0 then firstE (F.map (fmE Al F.length)) else if F.all (roomB F) then 0 else 7
/-- Imm fields of 64 bits. -/
def ImmT (F : Tg) : Prop := ∀ f ∈ F, ∀ x ∈ f.code, 0 ≤ x.imm ∧ x.imm ≤ 18446744073709551615
end Go.Proofs.YtafegghdhdgioaaDoor
end

section
/-
  A target's error in the order in which it is looked for. No function of the program is named here.
-/
namespace Go.Proofs.YtafegghdhdgioaaDoor
open Go.RowKit

theorem tgE_many {Al : Int} {F : Tg} (h : 80 < F.length) : tgE Al F = 3 := by unfold tgE; rw [if_pos h]
theorem tgE_align {Al : Int} {F : Tg} {f : Fm} (h : F.length ≤ 80) (hf : F[0]? = some f) (ha : powB Al = false ∨ Al < 16) : tgE Al F = 5 := by
  unfold tgE
  rw [if_neg (by omega)]
  cases F with
  | nil => simp at hf
  | cons g r => simp only; rw [if_pos ha]
theorem tgE_entry {Al : Int} {F : Tg} {f : Fm} (h : F.length ≤ 80) (hf : F[0]? = some f) (ha : powB Al = true ∧ 16 ≤ Al) (hp : f.params ≠ 0) : tgE Al F = 7 := by
  unfold tgE
  rw [if_neg (by omega)]
  cases F with
  | nil => simp at hf
  | cons g r =>
    simp at hf; subst hf
    simp only
    rw [if_neg (by rintro (h | h); exact absurd ha.1 (by simp [h]); omega), if_pos hp]
theorem tgE_rest {Al : Int} {F : Tg} {f : Fm} (h : F.length ≤ 80) (hf : F[0]? = some f) (ha : powB Al = true ∧ 16 ≤ Al) (hp : f.params = 0) : tgE Al F = if firstE (F.map (fmE Al F.length)) ≠ 0 then firstE (F.map (fmE Al F.length)) else if F.all (roomB F) then 0 else 7 := by
  unfold tgE
  rw [if_neg (by omega)]
  cases F with
  | nil => simp at hf
  | cons g r =>
    simp at hf; subst hf
    simp only
    rw [if_neg (by rintro (h | h); exact absurd ha.1 (by simp [h]); omega), if_neg (by simpa using hp)]
/-- What a frame without an error is. -/
theorem fmE_zero {Al : Int} {N : Nat} {f : Fm} (h : fmE Al N f = 0) : shB Al f = true ∧ f.code.length ≤ 1024 ∧ (∀ x ∈ f.code, minsE N f x = 0) ∧ closedB f.code = true := by
  unfold fmE at h
  have hf := @firstE_zero (f.code.map (minsE N f))
  simp only [List.mem_map, forall_exists_index, and_imp, forall_apply_eq_imp_iff₂] at hf
  by_cases h1 : shB Al f = true
  · rw [if_neg (by simp [h1])] at h
    by_cases h2 : 1024 < f.code.length
    · rw [if_pos h2] at h; omega
    · rw [if_neg h2] at h
      by_cases h3 : firstE (f.code.map (minsE N f)) = 0
      · rw [if_neg (by simpa using h3)] at h
        by_cases h4 : closedB f.code = true
        · exact ⟨h1, by omega, hf.1 h3, h4⟩
        · rw [if_pos (by simpa using h4)] at h; omega
      · rw [if_pos (by simpa using h3)] at h; exact absurd h h3
  · rw [if_pos (by simpa using h1)] at h; omega
/-- The errors of three operands, and of Imm. -/
theorem mopE_cases (N C k n : Int) : mopE N C k n = 0 ∨ mopE N C k n = 2 ∨ mopE N C k n = 4 ∨ mopE N C k n = 5 ∨ mopE N C k n = 6 := by unfold mopE; (repeat' split) <;> simp
theorem mrank_order {e1 e2 e3 imm : Int} {m cov : Bool} (c1 : e1 = 0 ∨ e1 = 2 ∨ e1 = 4 ∨ e1 = 5 ∨ e1 = 6) (c2 : e2 = 0 ∨ e2 = 2 ∨ e2 = 4 ∨ e2 = 5 ∨ e2 = 6) (c3 : e3 = 0 ∨ e3 = 2 ∨ e3 = 4 ∨ e3 = 5 ∨ e3 = 6) :
    mrank (foundE e1 e2 e3 m imm) cov = if e1 = 2 ∨ e2 = 2 ∨ e3 = 2 ∨ (m = false ∧ imm ≠ 0) then 2 else if e1 = 4 ∨ e2 = 4 ∨ e3 = 4 then 4 else if e1 = 5 ∨ e2 = 5 ∨ e3 = 5 then 5 else if cov = false then 4 else if e1 = 6 ∨ e2 = 6 ∨ e3 = 6 then 6 else 0 := by
  unfold foundE
  by_cases h : m = false ∧ imm ≠ 0
  · rw [if_pos h]
    simp [mrank, h]
  · rw [if_neg h]
    cases cov <;> rcases c1 with rfl | rfl | rfl | rfl | rfl <;> rcases c2 with rfl | rfl | rfl | rfl | rfl <;> rcases c3 with rfl | rfl | rfl | rfl | rfl <;> simp [mrank, h]
/-- A Call without an error names a frame. -/
theorem mins_call {N : Nat} {f : Fm} {x : Ins} (h : minsE N f x = 0) (h22 : x.op = 22) : 0 ≤ x.a ∧ x.a < N := by
  unfold minsE at h
  have he : exB x.op = true := by rw [h22]; rfl
  rw [if_neg (by simp [he])] at h
  unfold mfound at h
  rw [mrank_order (mopE_cases _ _ _ _) (mopE_cases _ _ _ _) (mopE_cases _ _ _ _)] at h
  by_cases hw : withB x.a N = true
  · exact withB_true.1 hw
  · exfalso
    have e1 : mopE N f.code.length (mshpOf x.op).1 x.a = 4 := by
      rw [h22]
      show mopE N f.code.length 4 x.a = 4
      unfold mopE
      simp [hw]
    split at h
    · omega
    · rw [if_pos (.inl e1)] at h; omega
end Go.Proofs.YtafegghdhdgioaaDoor
end

section
/-
  Targets in memory: rows of frames, what lies behind them; kept over what a call leaves. No function of the program is named here.
-/
namespace Go.Proofs.YtafegghdhdgioaaDoor
open Go.RowKit

/-- A frame, a target by value. -/
abbrev mv (P S : Int) (A : Option Addr) (n c : Nat) : Value := .agg #[.int .i64 P, .int .i64 S, .slice A n c]
abbrev tv (Al : Int) (A : Option Addr) (n c : Nat) : Value := .agg #[.int .i64 Al, .slice A n c]
/-- A frame's head. -/
structure Fd where
  p : Int
  s : Int
  a : Option Addr
  n : Nat
  c : Nat
def fdcell (h : Fd) : List Value := [.int .i64 h.p, .int .i64 h.s, .slice h.a h.n h.c]
def fdcells (l : List Fd) : List Value := l.flatMap fdcell
theorem fdcell_len (h : Fd) : (fdcell h).length = 3 := rfl
theorem fdcells_length (l : List Fd) : (fdcells l).length = l.length * 3 := flat_len fdcell_len l
theorem fdcells_append (l m : List Fd) : fdcells (l ++ m) = fdcells l ++ fdcells m := by simp [fdcells]
theorem fdcells_oneCell (l : List Fd) : ∀ v ∈ fdcells l, v.oneCell' = true := by
  intro v hv
  simp only [fdcells, List.mem_flatMap] at hv
  obtain ⟨x, _, hv⟩ := hv
  simp [fdcell] at hv
  rcases hv with rfl | rfl | rfl <;> rfl
/-- The head h is frame f: its code lies from block lo on, below B. -/
structure FdAt (w : World) (lo B : Nat) (h : Fd) (f : Fm) : Prop where
  p : h.p = f.params
  s : h.s = f.size
  l : f.code.length = h.n
  k : Cap h.a h.n h.c
  fr : Far lo h.a
  c : Sees w B h.a (icells f.code)
structure Fds (w : World) (lo B : Nat) (hs : List Fd) (F : Tg) : Prop where
  len : hs.length = F.length
  at_ : ∀ (k : Nat) (h : Fd) (f : Fm), hs[k]? = some h → F[k]? = some f → FdAt w lo B h f
/-- At the slice A, n, c stand the frames F. -/
structure TgAt (w : World) (lo B : Nat) (A : Option Addr) (n c : Nat) (hs : List Fd) (F : Tg) : Prop where
  len : F.length = n
  cap : Cap A n c
  far : Far lo A
  see : Sees w B A (fdcells hs)
  hd : Fds w lo B hs F

section
variable {w w' : World} {lo lo' B B' : Nat} {h : Fd} {f : Fm} {hs : List Fd} {F : Tg} {A : Option Addr} {n c : Nat}
theorem FdAt.keep (H : FdAt w lo B h f) (hk : ∀ p : Addr, lo ≤ p.block → p.block < B → w'.cell? p = w.cell? p) : FdAt w' lo B h f := ⟨H.p, H.s, H.l, H.k, H.fr, H.c.keepF H.fr hk⟩
theorem FdAt.more (H : FdAt w lo B h f) (hB : B ≤ B') (hl : lo' ≤ lo) : FdAt w lo' B' h f := ⟨H.p, H.s, H.l, H.k, H.fr.more hl, H.c.more hB⟩
theorem Fds.keep (H : Fds w lo B hs F) (hk : ∀ p : Addr, lo ≤ p.block → p.block < B → w'.cell? p = w.cell? p) : Fds w' lo B hs F := ⟨H.len, fun k h f e1 e2 => (H.at_ k h f e1 e2).keep hk⟩
theorem Fds.more (H : Fds w lo B hs F) (hB : B ≤ B') (hl : lo' ≤ lo) : Fds w lo' B' hs F := ⟨H.len, fun k h f e1 e2 => (H.at_ k h f e1 e2).more hB hl⟩
theorem TgAt.keep (H : TgAt w lo B A n c hs F) (hk : ∀ p : Addr, lo ≤ p.block → p.block < B → w'.cell? p = w.cell? p) : TgAt w' lo B A n c hs F := ⟨H.len, H.cap, H.far, H.see.keepF H.far hk, H.hd.keep hk⟩
theorem TgAt.more (H : TgAt w lo B A n c hs F) (hB : B ≤ B') (hl : lo' ≤ lo) : TgAt w lo' B' A n c hs F := ⟨H.len, H.cap, H.far.more hl, H.see.more hB, H.hd.more hB hl⟩
theorem TgAt.below (H : TgAt w lo B A n c hs F) (hb : Below B w w') : TgAt w' lo B A n c hs F := H.keep fun _ _ hp => hb.cell hp
theorem TgAt.call (H : TgAt w lo w.heap.size A n c hs F) (hb : Below w.heap.size w w') : TgAt w' lo w'.heap.size A n c hs F := (H.below hb).more hb.size (Nat.le_refl _)
theorem TgAt.drewN (H : TgAt w lo B A n c hs F) (k : Nat) : TgAt (w.drewN k) lo B A n c hs F := H.keep fun _ _ _ => rfl
theorem TgAt.alloc (H : TgAt w lo w.heap.size A n c hs F) (o : Obj) : TgAt (w.alloc o) lo (w.alloc o).heap.size A n c hs F := H.call (below1 w o)
theorem TgAt.grown {g : Nat} (H : TgAt w lo B A n c hs F) (hg : w.grownBy w' (some g)) (hlo : g < lo) (hB : B ≤ w.heap.size) : TgAt w' lo B A n c hs F :=
  H.keep fun p h1 h2 => World.cell?_of_block (hg.block p.block (by omega) (fun e => by injection e with e; omega))
theorem FdAt.below (H : FdAt w lo B h f) (hb : Below B w w') : FdAt w' lo B h f := H.keep fun _ _ hp => hb.cell hp
theorem FdAt.grown {g : Nat} (H : FdAt w lo B h f) (hg : w.grownBy w' (some g)) (hlo : g < lo) (hB : B ≤ w.heap.size) : FdAt w' lo B h f :=
  H.keep fun p h1 h2 => World.cell?_of_block (hg.block p.block (by omega) (fun e => by injection e with e; omega))
/-- The head at place k, and where it stands. -/
theorem fd_at {l : List Fd} {k : Nat} (h : Sees w B A (fdcells l)) (hk : k < l.length) :
    ∃ b off, A = some ⟨b, off, none⟩ ∧ b < B ∧ w.cell? ⟨b, off + k * 3, none⟩ = some (.int .i64 l[k].p) ∧ w.cell? ⟨b, off + k * 3 + 1, none⟩ = some (.int .i64 l[k].s) ∧ w.cell? ⟨b, off + k * 3 + 2, none⟩ = some (.slice l[k].a l[k].n l[k].c) := by
  have hx := List.getElem?_eq_getElem hk
  have g := fun j hj => flat_at fdcell_len l k _ hx j hj
  obtain ⟨b, off, e, hb, h0⟩ := h _ _ (g 0 (by omega))
  obtain ⟨b1, o1, e1, _, h1⟩ := h _ _ (g 1 (by omega))
  obtain ⟨b2, o2, e2, _, h2⟩ := h _ _ (g 2 (by omega))
  subst e
  injection e1 with e1; injection e1 with x1 y1; subst x1 y1
  injection e2 with e2; injection e2 with x2 y2; subst x2 y2
  exact ⟨b, off, rfl, hb, h0, h1, h2⟩
/-- Frame k of a target: where its head stands, and that it is it. -/
theorem fm_at {k : Nat} (H : TgAt w lo B A n c hs F) (hk : k < n) :
    ∃ (b off : Nat) (P S : Int) (A1 : Option Addr) (n1 c1 : Nat) (f : Fm), A = some ⟨b, off, none⟩ ∧ b < B ∧ F[k]? = some f ∧ hs[k]? = some ⟨P, S, A1, n1, c1⟩ ∧ FdAt w lo B ⟨P, S, A1, n1, c1⟩ f ∧
      w.cell? ⟨b, off + k * 3, none⟩ = some (.int .i64 P) ∧ w.cell? ⟨b, off + k * 3 + 1, none⟩ = some (.int .i64 S) ∧ w.cell? ⟨b, off + k * 3 + 2, none⟩ = some (.slice A1 n1 c1) := by
  have h1 : k < F.length := by rw [H.len]; exact hk
  have h2 : k < hs.length := by rw [H.hd.len]; exact h1
  obtain ⟨b, off, e, hb, c0, c1, c2⟩ := fd_at H.see h2
  exact ⟨b, off, _, _, _, _, _, F[k], e, hb, List.getElem?_eq_getElem h1, List.getElem?_eq_getElem h2, H.hd.at_ k _ _ (List.getElem?_eq_getElem h2) (List.getElem?_eq_getElem h1), c0, c1, c2⟩
/-- The same at a place that both lists name. -/
theorem fm_at' {k : Nat} {f : Fm} {P S : Int} {A1 : Option Addr} {n1 c1 : Nat} (H : TgAt w lo B A n c hs F) (hf : F[k]? = some f) (hh : hs[k]? = some ⟨P, S, A1, n1, c1⟩) :
    ∃ (b off : Nat), A = some ⟨b, off, none⟩ ∧ b < B ∧ FdAt w lo B ⟨P, S, A1, n1, c1⟩ f ∧
      w.cell? ⟨b, off + k * 3, none⟩ = some (.int .i64 P) ∧ w.cell? ⟨b, off + k * 3 + 1, none⟩ = some (.int .i64 S) ∧ w.cell? ⟨b, off + k * 3 + 2, none⟩ = some (.slice A1 n1 c1) := by
  have hk : k < n := by rw [← H.len]; exact (List.getElem?_eq_some_iff.1 hf).1
  obtain ⟨b, off, _, _, _, _, _, _, e, hb, e1, e2, h, c0, c1, c2⟩ := fm_at H hk
  rw [hf] at e1; injection e1 with e1; subst e1
  rw [hh] at e2; injection e2 with e2; injection e2 with x1 x2 x3 x4 x5; subst x1 x2 x3 x4 x5
  exact ⟨b, off, e, hb, h, c0, c1, c2⟩
end
end Go.Proofs.YtafegghdhdgioaaDoor
end

section
/-
  Boxes, one behind the other. No function of the program is named here.
-/
namespace Go.Proofs.YtafegghdhdgioaaDoor
open Go.RowKit

theorem below4 (w : World) (o p q r : Obj) : Below w.heap.size w ((((w.alloc o).alloc p).alloc q).alloc r) := (below3 w o p q).alloc (by simp; omega) _
/-- Three boxes, one behind the other. -/
theorem boxes3 (w : World) (l1 l2 l3 : List Value) (t1 t2 t3 : TypeId) : ∃ W, ((w.alloc (.cells l1.toArray t1)).alloc (.cells l2.toArray t2)).alloc (.cells l3.toArray t3) = W ∧ Below w.heap.size w W ∧ w.heap.size + 3 = W.heap.size ∧
    Row W w.heap.size t1 l1 ∧ Row W (w.heap.size + 1) t2 l2 ∧ Row W (w.heap.size + 1 + 1) t3 l3 := by
  refine ⟨_, rfl, below3 _ _ _ _, by simp, ((Row.new w t1 l1).alloc _).alloc _, (Row.alloc ?_ _), ?_⟩
  · exact heap_at _ _ (by simp)
  · exact heap_at _ _ (by simp)

/-- Four boxes, one behind the other. -/
theorem boxes4 (w : World) (l1 l2 l3 l4 : List Value) (t1 t2 t3 t4 : TypeId) : ∃ W, (((w.alloc (.cells l1.toArray t1)).alloc (.cells l2.toArray t2)).alloc (.cells l3.toArray t3)).alloc (.cells l4.toArray t4) = W ∧ Below w.heap.size w W ∧ w.heap.size + 4 = W.heap.size ∧
    Row W w.heap.size t1 l1 ∧ Row W (w.heap.size + 1) t2 l2 ∧ Row W (w.heap.size + 1 + 1) t3 l3 ∧ Row W (w.heap.size + 1 + 1 + 1) t4 l4 := by
  refine ⟨_, rfl, below4 _ _ _ _ _, by simp, (((Row.new w t1 l1).alloc _).alloc _).alloc _, (Row.alloc (Row.alloc ?_ _) _), (Row.alloc ?_ _), ?_⟩
  · exact heap_at _ _ (by simp)
  · exact heap_at _ _ (by simp)
  · exact heap_at _ _ (by simp)

/-- Two boxes, one behind the other. -/
theorem boxes2q (w : World) (l1 l2 : List Value) (t1 t2 : TypeId) : ∃ W, (w.alloc (.cells l1.toArray t1)).alloc (.cells l2.toArray t2) = W ∧ Below w.heap.size w W ∧ w.heap.size + 2 = W.heap.size ∧ Row W w.heap.size t1 l1 ∧ Row W (w.heap.size + 1) t2 l2 := by
  refine ⟨_, rfl, below2 _ _ _, by simp, (Row.new w t1 l1).alloc _, ?_⟩
  exact heap_at _ _ (by simp)
end Go.Proofs.YtafegghdhdgioaaDoor
end

section
/-
  The contract of mach.passesArguments at a frame that there is: whether it has room for the parameters of what it calls. Conditions: each Call names a frame, and each frame has at most 8 parameters.
-/
namespace Go.Proofs.YtafegghdhdgioaaDoor
open Go.RowKit

theorem roomB_no {F : Tg} {f : Fm} {k : Nat} (hk : k < f.code.length) (h : callB F f f.code[k] = false) : roomB F f = false := by
  unfold roomB
  rw [List.all_eq_false]
  exact ⟨_, List.getElem_mem hk, by simp [h]⟩
theorem roomB_yes {F : Tg} {f : Fm} (h : ∀ j (hj : j < f.code.length), callB F f f.code[j] = true) : roomB F f = true := by
  unfold roomB
  rw [List.all_eq_true]
  intro x hx
  obtain ⟨j, hj, rfl⟩ := List.mem_iff_getElem.1 hx
  exact h j hj
theorem callB_other {F : Tg} {f : Fm} {x : Ins} (h : x.op ≠ 22) : callB F f x = true := by unfold callB; rw [decide_eq_false h]; rfl
theorem callB_at {F : Tg} {f g : Fm} {x : Ins} {j : Nat} (h : x.op = 22) (ha : x.a = (j : Int)) (hg : F[j]? = some g) : callB F f x = decide (16 * g.params ≤ f.size) := by
  unfold callB
  rw [decide_eq_true h, ha, Int.toNat_natCast, hg]
  simp only [Option.map_some, Option.getD_some, Bool.true_and]
  rw [← decide_not]
  exact decide_eq_decide.2 (by omega)

set_option maxHeartbeats 2000000 in
theorem passes_any (Al : Int) (A : Option Addr) (n c : Nat) (hs : List Fd) (F : Tg) (lo B i : Nat) (f : Fm) (w : World) (H : Hid (TgAt w lo B A n c hs F)) (hB : B ≤ w.heap.size) (hf : Hid (F[i]? = some f))
    (hcall : Hid (∀ x ∈ f.code, x.op = 22 → 0 ≤ x.a ∧ x.a < n)) (hpar : Hid (∀ g ∈ F, 0 ≤ g.params ∧ g.params ≤ 8)) :
    Calls Tryd.prog 60 #[tv Al A n c, .int .i64 (i : Int)] w fun e w' => e = .returned (.bool (roomB F f)) ∧ Below w.heap.size w w' := by
  have hin : i < n := by rw [← H.out.len]; exact (List.getElem?_eq_some_iff.1 hf.out).1
  obtain ⟨b, off, P, S, A1, n1, c1, f', rfl, hb, e1, hh, h, p0, p1, p2⟩ := fm_at H.out hin
  obtain rfl : f' = f := by rw [hf.out] at e1; injection e1 with e1; exact e1.symm
  clear e1
  have hn := H.out.cap.2.2
  have HL := hide (show f'.code.length = n1 from h.l)
  have HS := hide (show S = f'.size from h.s)
  have HC := hide h.c
  have hn1 : n1 ≤ 8796093022208 := h.k.2.2
  have R0 := Row.new w 62 [.int .i64 Al, .slice (some ⟨b, off, none⟩) n c]
  have hb1 := below1 w (.cells #[.int .i64 Al, .slice (some ⟨b, off, none⟩) n c] 62)
  obtain ⟨W1, hW1⟩ : ∃ V, w.alloc (.cells #[.int .i64 Al, .slice (some ⟨b, off, none⟩) n c] 62) = V := ⟨_, rfl⟩
  rw [show ([.int .i64 Al, .slice (some ⟨b, off, none⟩) n c] : List Value).toArray = #[.int .i64 Al, .slice (some ⟨b, off, none⟩) n c] from rfl, hW1] at R0
  rw [hW1] at hb1
  have hbw : b < w.heap.size := by omega
  have q0 := (hb1.cell (p := ⟨b, off + i * 3, none⟩) hbw).trans p0
  have q1 := (hb1.cell (p := ⟨b, off + i * 3 + 1, none⟩) hbw).trans p1
  have q2 := (hb1.cell (p := ⟨b, off + i * 3 + 2, none⟩) hbw).trans p2
  have hs1 : w.heap.size + 1 = W1.heap.size := by rw [← hW1]; simp
  have HW1 := hide hW1
  have HB1 := hide hb1
  have HR0 := hide R0
  have t1 := R0.cell (k := 1) rfl
  have hiz : (0 : Int) ≤ (i : Int) := by omega
  have hiz' : (i : Int) < (n : Int) := by omega
  clear h hh hW1 hb1 R0 p0 p1 p2
  go_enter Tryd.func60, Tryd.ntmps60
  go_upto_region 1 with (fail)
  rw [HW1.out]
  clear HW1
  go_upto_region 2 with (fail)
  obtain ⟨W3, hW3⟩ : ∃ V, W1.alloc (.cells #[.int .i64 P, .int .i64 S, .slice A1 n1 c1] 85) = V := ⟨_, rfl⟩
  have R3 := hide (show Row W3 W1.heap.size 85 [.int .i64 P, .int .i64 S, .slice A1 n1 c1] by rw [← hW3]; exact Row.new W1 _ _)
  have T3 := hide (show Row W3 w.heap.size 62 [.int .i64 Al, .slice (some ⟨b, off, none⟩) n c] by rw [← hW3]; exact HR0.out.alloc _)
  have HB3 := hide (show Below w.heap.size w W3 by rw [← hW3]; exact HB1.out.alloc HB1.out.size _)
  rw [hW3]
  obtain ⟨g, hg⟩ : ∃ g, W1.heap.size = g := ⟨_, rfl⟩
  rw [hg] at R3 ⊢
  clear hW3 hg t1 q0 q1 q2 HB1 HR0 hs1
  have x2 := R3.out.cell (k := 2) rfl
  go_wp2_with fail
  clear x2
  go_loopw [16] (fun s wr => ∃ k : Nat, k ≤ n1 ∧ s = .int .i64 k ∧ Hid (∀ j (hj : j < f'.code.length), j < k → callB F f' f'.code[j] = true) ∧ Hid (Below W3.heap.size W3 wr)) (fun s _ => n1 - (intOf s).toNat)
  case atStart => exact ⟨0, by omega, rfl, hide (fun j hj h => by omega), hide (Below.refl _ _)⟩
  case round =>
    obtain ⟨k, hk, rfl, hno, hbr⟩ := hrel
    by_cases hlt : k < n1
    · have HB4 := hide (HB3.out.trans (hbr.out.mono HB3.out.size))
      have R4 := hide (R3.out.call hbr.out)
      have T4 := hide (T3.out.call hbr.out)
      have hkl : k < f'.code.length := by have := HL.out; omega
      obtain ⟨bb, oo, rfl, hbb, x0, x1, x2, x3, x4⟩ := ins_at (HC.out.below (HB4.out.mono hB)) hkl
      have HNO := hide (fun (h : callB F f' f'.code[k] = false) => roomB_no hkl h)
      have HCA := hide (hcall.out _ (List.getElem_mem hkl))
      obtain ⟨x, hx⟩ : ∃ x, f'.code[k] = x := ⟨_, rfl⟩
      have HX := hide hx
      rw [hx] at HNO HCA x0 x1 x2 x3 x4
      obtain ⟨o, a, b', d, m⟩ := x
      simp only at x0 x1 x2 x3 x4
      have hkz : (0 : Int) ≤ (k : Int) := by omega
      have hkz' : (k : Int) < (n1 : Int) := by omega
      clear hx
      go_upto_region 5 with (fail)
      obtain ⟨W5, hW5⟩ : ∃ V, wr.alloc (.cells #[.int .i64 o, .int .i64 a, .int .i64 b', .int .i64 d, .int .u64 m] 48) = V := ⟨_, rfl⟩
      have R5 := hide (show Row W5 g 85 [.int .i64 P, .int .i64 S, .slice (some ⟨bb, oo, none⟩) n1 c1] by rw [← hW5]; exact R4.out.alloc _)
      have T5 := hide (show Row W5 w.heap.size 62 [.int .i64 Al, .slice (some ⟨b, off, none⟩) n c] by rw [← hW5]; exact T4.out.alloc _)
      have Z5 := hide (show Row W5 wr.heap.size 48 [.int .i64 o, .int .i64 a, .int .i64 b', .int .i64 d, .int .u64 m] by rw [← hW5]; exact Row.new wr _ _)
      have HB5 := hide (show Below W3.heap.size W3 W5 by rw [← hW5]; exact hbr.out.alloc hbr.out.size _)
      rw [hW5]
      obtain ⟨g2, hg2⟩ : ∃ g, wr.heap.size = g := ⟨_, rfl⟩
      rw [hg2] at Z5 ⊢
      clear hW5 hg2 x0 x1 x2 x3 x4 R4 T4
      have HBW := hide (HB3.out.trans (HB5.out.mono HB3.out.size))
      have f1 := R5.out.cell (k := 1) rfl
      have t1 := T5.out.cell (k := 1) rfl
      have z0 := Z5.out.cell (k := 0) rfl
      have z1 := Z5.out.cell (k := 1) rfl
      by_cases h22 : o = 22
      · subst h22
        obtain ⟨a0, a1⟩ := HCA.out rfl
        simp only at a0 a1
        obtain ⟨j, rfl⟩ := Int.eq_ofNat_of_zero_le a0
        obtain ⟨b2, o2, P2, S2, A2, n2, c2, f2, e, -, hf2, -, hd2, y0, -, -⟩ := fm_at (H.out.below (HBW.out.mono hB)) (k := j) (by omega)
        injection e with e
        injection e with e1 e2
        subst e1 e2
        have hP2 : P2 = f2.params := hd2.p
        obtain ⟨P20, P21⟩ := hpar.out f2 (List.mem_of_getElem? hf2)
        rw [← hP2] at P20 P21
        have HCB := hide (show callB F f' ⟨22, (j : Int), b', d, m⟩ = decide (16 * P2 ≤ S) by rw [callB_at rfl rfl hf2, ← hP2, HS.out])
        have e16 : IntKind.i64.wrap (16 * P2) = 16 * P2 := wrap_i64 _ (by omega) (by omega)
        clear hf2 hd2 hP2
        by_cases hgt : S < 16 * P2
        · have hd : decide (S < 16 * P2) = true := decide_eq_true hgt
          have HR := hide (HNO.out (by rw [HCB.out]; exact decide_eq_false (by omega)))
          go_quiet (fail)
          go_wp2_with fail
          go_ret
          exact ⟨ret_bool HR.out.symm, drewN_below HBW.out _⟩
        · have hd : decide (S < 16 * P2) = false := decide_eq_false hgt
          have HT := hide (show callB F f' ⟨22, (j : Int), b', d, m⟩ = true by rw [HCB.out]; exact decide_eq_true (by omega))
          go_quiet (fail)
          go_wp2_with fail
          go_roundw
          case rel =>
            refine ⟨k + 1, by omega, by go_num, hide fun q hq hqk => ?_, hide (drewN_below HB5.out _)⟩
            by_cases e : q = k
            · subst e; rw [HX.out]; exact HT.out
            · exact hno.out q hq (by omega)
          case measure => simp [intOf]; omega
      · have hne : (o == 22) = false := by simpa using h22
        have HT := hide (callB_other (F := F) (f := f') (x := ⟨o, a, b', d, m⟩) h22)
        clear h22
        go_quiet (fail)
        go_wp2_with fail
        go_roundw
        case rel =>
          refine ⟨k + 1, by omega, by go_num, hide fun q hq hqk => ?_, hide (drewN_below HB5.out _)⟩
          by_cases e : q = k
          · subst e; rw [HX.out]; exact HT.out
          · exact hno.out q hq (by omega)
        case measure => simp [intOf]; omega
    · obtain rfl : k = n1 := by omega
      have HE := hide (roomB_yes (F := F) (f := f') (fun j hj => hno.out j hj (by have := HL.out; omega)))
      go_wp2_with fail
      go_ret
      exact ⟨ret_bool HE.out.symm, HB3.out.trans (hbr.out.mono HB3.out.size)⟩
end Go.Proofs.YtafegghdhdgioaaDoor
end

section
/-
  What a target without error keeps: its frames' bounds, that each instruction reads and writes where it may, that each caller has room. No function of the program is named here.
-/
namespace Go.Proofs.YtafegghdhdgioaaDoor
open Go.RowKit

theorem tgE_ok {Al : Int} {F : Tg} (h : tgE Al F = 0) : firstE (F.map (fmE Al F.length)) = 0 ∧ F.all (roomB F) = true := by
  unfold tgE at h
  by_cases h1 : 80 < F.length
  · rw [if_pos h1] at h; omega
  · rw [if_neg h1] at h
    cases F with
    | nil => simp at h
    | cons f r =>
      simp only at h
      by_cases h2 : powB Al = false ∨ Al < 16
      · rw [if_pos h2] at h; omega
      · rw [if_neg h2] at h
        by_cases h3 : f.params ≠ 0
        · rw [if_pos h3] at h; omega
        · rw [if_neg h3] at h
          by_cases h4 : firstE ((f :: r).map (fmE Al (f :: r).length)) ≠ 0
          · rw [if_pos h4] at h; exact absurd h h4
          · rw [if_neg h4] at h
            refine ⟨Decidable.not_not.1 h4, ?_⟩
            by_cases h5 : (f :: r).all (roomB (f :: r)) = true
            · exact h5
            · rw [if_neg h5] at h; omega
theorem mins_cov {N : Nat} {f : Fm} {x : Ins} (h : minsE N f x = 0) : covB f.params f.size x = true := by
  unfold minsE at h
  by_cases he : exB x.op = false
  · rw [if_pos he] at h; omega
  · rw [if_neg he] at h
    unfold mrank at h
    cases hc : covB f.params f.size x with
    | true => rfl
    | false =>
      exfalso
      rw [hc] at h
      revert h
      (repeat' split) <;> simp_all
/-- What one instruction keeps: what it reads and writes lies where it may. -/
structure InsOk (F : Tg) (f : Fm) (x : Ins) : Prop where
  r : rdB x.op = true → 0 ≤ x.b ∧ 0 ≤ x.c ∧ x.b + x.c ≤ 2147483647 ∧ x.b + x.c ≤ f.size + 16 * f.params
  w : wrB x.op = true → 0 ≤ x.a ∧ 0 ≤ x.c ∧ x.a + x.c ≤ 2147483647 ∧ x.a + x.c ≤ f.size
  c : x.op = 22 → 0 ≤ x.a ∧ x.a < (F.length : Int) ∧ callB F f x = true
theorem tgE_ins {Al : Int} {F : Tg} (h : tgE Al F = 0) : ∀ f ∈ F, ((0 ≤ f.params ∧ f.params ≤ 8) ∧ (0 ≤ f.size ∧ f.size ≤ 2147483519)) ∧ ∀ x ∈ f.code, InsOk F f x := by
  obtain ⟨h1, h2⟩ := tgE_ok h
  intro f hf
  have hz := fmE_zero (firstE_zero.1 h1 _ (List.mem_map.2 ⟨f, hf, rfl⟩))
  have hs := hz.1
  unfold shB at hs
  simp only [Bool.and_eq_true] at hs
  have b1 := withB_true.1 hs.2.1
  have b2 := withB_true.1 hs.2.2.1
  refine ⟨by omega, fun x hx => ?_⟩
  have hm := hz.2.2.1 x hx
  have hc := mins_cov hm
  unfold covB at hc
  rw [Bool.and_eq_true] at hc
  obtain ⟨c1, c2⟩ := hc
  unfold insB at c1 c2
  rw [Bool.and_eq_true, rightB_iff, decide_eq_true_eq] at c1 c2
  refine ⟨fun hr => ?_, fun hw => ?_, fun h22 => ?_⟩
  · unfold rdI at c1
    rw [hr] at c1
    simp at c1
    omega
  · unfold wrI at c2
    rw [hw] at c2
    simp at c2
    omega
  · have ha := mins_call hm h22
    have hr := List.all_eq_true.1 h2 f hf
    unfold roomB at hr
    exact ⟨ha.1, ha.2, List.all_eq_true.1 hr x hx⟩
end Go.Proofs.YtafegghdhdgioaaDoor
end
