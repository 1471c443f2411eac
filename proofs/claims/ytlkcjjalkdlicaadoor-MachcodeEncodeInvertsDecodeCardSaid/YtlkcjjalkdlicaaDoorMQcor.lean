import Derived.Test.YtlkcjjalkdlicaaDoorMPmem
import Derived.Test.YtlkcjjalkdlicaaDoorMScan
import Derived.Laws.StructEq
import Derived.WalkKit
set_option linter.unusedVariables false
set_option linter.unusedSimpArgs false
section
/-
  A changed byte is found; a right program can be written. No function of the program is named here.
-/
namespace Go.Proofs.YtlkcjjalkdlicaaDoor
open Go.RowKit

theorem Byt.set {l : List Int} (h : Byt l) (i : Nat) {z : Int} (h0 : 0 ≤ z) (h1 : z ≤ 255) : Byt (l.set i z) := fun y hy => by
  rcases List.mem_or_eq_of_mem_set hy with h2 | rfl
  · exact h y h2
  · exact ⟨h0, h1⟩
theorem crcAll_le (l : List Int) (h : Byt l) : crcAll 4294967295 l ≤ 4294967295 := by
  have := crcAll_lt l 4294967295 (by omega) h
  omega
theorem crc_end_ne {L : List Int} (h : Byt L) (i : Nat) {z z' : Int} (hz : L[i]? = some z) (h0 : 0 ≤ z') (h1 : z' ≤ 255) (hne : z' ≠ z) : crcI (crcN (L.set i z')) ≠ crcI (crcN L) := fun e => by
  have e1 := crcI_inj (crcN_lt _) (crcN_lt _) e
  unfold crcN at e1
  have h2 := crcAll_le L h
  have h3 := crcAll_le (L.set i z') (h.set i h0 h1)
  exact crc_set_ne L i z z' hz h h0 h1 hne (by omega)
/-- A byte of bytes with their checksum that has turned: format. -/
theorem parse_turned {L : List Int} (h : Byt L) (hL : 5 ≤ L.length) (hm : L.length + 4 ≤ 1048576) (i : Nat) {z z' : Int} (hz : (withY L)[i]? = some z) (h0 : 0 ≤ z') (h1 : z' ≤ 255) (hne : z' ≠ z) : parseR ((withY L).set i z') = (2, []) := by
  have hl : ((withY L).set i z').length = L.length + 4 := by rw [List.length_set, withY_length]
  unfold parseR
  rw [if_neg (by omega), if_neg (by omega), if_neg]
  rintro ⟨_, hd⟩
  rw [hl, Nat.add_sub_cancel] at hd
  by_cases hi : i < L.length
  · have e : (withY L).set i z' = L.set i z' ++ crcI (crcN L) := by unfold withY; rw [List.set_append_left _ _ hi]
    have hz2 : L[i]? = some z := by unfold withY at hz; rwa [List.getElem?_append_left hi] at hz
    have hll : (L.set i z').length = L.length := List.length_set
    rw [e, ← hll, List.drop_left, List.take_left] at hd
    exact crc_end_ne h i hz2 h0 h1 hne hd.symm
  · have e : (withY L).set i z' = L ++ (crcI (crcN L)).set (i - L.length) z' := by unfold withY; rw [List.set_append_right _ _ (by omega)]
    rw [e, List.drop_left, List.take_left] at hd
    have hz2 : (crcI (crcN L))[i - L.length]? = some z := by unfold withY at hz; rwa [List.getElem?_append_right (by omega)] at hz
    have hlt := (List.getElem?_eq_some_iff.1 hz2).1
    have h3 : ((crcI (crcN L)).set (i - L.length) z')[i - L.length]? = (crcI (crcN L))[i - L.length]? := by rw [hd]
    rw [List.getElem?_set_self hlt, hz2] at h3
    injection h3 with h3
    exact hne h3
theorem cut_short {n : Nat} (h : n < 9) {zs : List Int} (hl : zs.length = n) : parseR zs = (1, []) := by
  unfold parseR
  rw [if_neg (by omega), if_pos (by omega)]

/-- A right instruction can be written. -/
theorem insW_of {N : Nat} {f : Fn} {x : Ins} (h : insE N f x = 0) (hN : N ≤ 80) (hs : f.slots.length ≤ 512) (hp : f.params ≤ 8) (hc : f.code.length ≤ 1024) (hi : 0 ≤ x.imm ∧ x.imm ≤ 18446744073709551615) : InsW x := by
  obtain ⟨ho, e1, e2, e3, hm, _⟩ := insE_zero.1 h
  have b1 := withB_true.1 (opndE_zero.1 e1)
  have b2 := withB_true.1 (opndE_zero.1 e2)
  have b3 := withB_true.1 (opndE_zero.1 e3)
  have c1 := cntV_le (k := (shpOf x.op).1) hN hs hp hc
  have c2 := cntV_le (k := (shpOf x.op).2.1) hN hs hp hc
  have c3 := cntV_le (k := (shpOf x.op).2.2.1) hN hs hp hc
  have un : ∀ {k n : Int}, k = 0 → n < cntV N f k → 0 ≤ n → n = 0 := fun {k n} hk h1 h2 => by
    subst hk
    have : cntV N f 0 = 1 := rfl
    omega
  refine ⟨ho, ⟨b1.1, by omega⟩, ⟨b2.1, by omega⟩, ⟨b3.1, by omega⟩, hi, fun hu => ?_, fun hu => ?_, fun hu => ?_, fun hu => ?_⟩
  · exact un (by simpa [useA] using hu) b1.2 b1.1
  · exact un (by simpa [useB] using hu) b2.2 b2.1
  · exact un (by simpa [useC] using hu) b3.2 b3.1
  · rcases hm with hm | hm
    · unfold useI at hu; rw [hm] at hu; cases hu
    · exact hm
theorem slW_of {s : Int × Int} (h : slotB s.1 s.2 = true) : SlW s := by
  unfold slotB szB at h
  rw [Bool.and_eq_true] at h
  have h1 := of_decide_eq_true h.1
  exact ⟨by omega, powB_iff.1 h.2⟩
theorem fnW_of {N : Nat} {f : Fn} (h : fnE N f = 0) (hN : N ≤ 80) (hi : ∀ x ∈ f.code, 0 ≤ x.imm ∧ x.imm ≤ 18446744073709551615) : FnW f := by
  obtain ⟨hc, hs, hp, hx, _⟩ := fnE_zero.1 h
  have hl : f.slots.length ≤ 512 := by
    rcases Nat.lt_or_ge 512 f.slots.length with h1 | h1
    · rw [slotsE_many h1] at hs; cases hs
    · exact h1
  refine ⟨by omega, hl, hc, fun s hm => ?_, fun x hm => insW_of (hx x hm) hN hl hp.2 hc (hi x hm)⟩
  rw [slotsE_few hl] at hs
  split at hs
  · cases hs
  · rename_i ha
    simp only [List.any_eq_true, not_exists, not_and, Bool.not_eq_true, Bool.not_eq_false'] at ha
    exact slW_of (by have := ha s hm; simpa using this)
theorem pgW_of {F : Pg} (h : pgE F = 0) (hi : ∀ f ∈ F, ∀ x ∈ f.code, 0 ≤ x.imm ∧ x.imm ≤ 18446744073709551615) : PgW F := by
  obtain ⟨hl, _, hf⟩ := pgE_zero.1 h
  exact ⟨hl, fun f hm => fnW_of (hf f hm) hl (hi f hm)⟩
end Go.Proofs.YtlkcjjalkdlicaaDoor
end

section
/-
  When two instructions, slots, functions are equal; '==' at slots and at instructions. No function of the program is named here.
-/
namespace Go.Proofs.YtlkcjjalkdlicaaDoor
open Go.RowKit

instance : DecidableEq Ins := fun x y =>
  if h : x.op = y.op ∧ x.a = y.a ∧ x.b = y.b ∧ x.c = y.c ∧ x.imm = y.imm then isTrue (by
    obtain ⟨_, _, _, _, _⟩ := x
    obtain ⟨_, _, _, _, _⟩ := y
    obtain ⟨h1, h2, h3, h4, h5⟩ := h
    simp only at h1 h2 h3 h4 h5
    subst h1 h2 h3 h4 h5
    rfl)
  else isFalse fun e => h (by subst e; exact ⟨rfl, rfl, rfl, rfl, rfl⟩)
instance : DecidableEq Fn := fun x y =>
  if h : x.params = y.params ∧ x.slots = y.slots ∧ x.code = y.code then isTrue (by
    obtain ⟨_, _, _⟩ := x
    obtain ⟨_, _, _⟩ := y
    obtain ⟨h1, h2, h3⟩ := h
    simp only at h1 h2 h3
    subst h1 h2 h3
    rfl)
  else isFalse fun e => h (by subst e; exact ⟨rfl, rfl, rfl⟩)
theorem ins_eq {x y : Ins} : x = y ↔ x.op = y.op ∧ x.a = y.a ∧ x.b = y.b ∧ x.c = y.c ∧ x.imm = y.imm := by
  constructor
  · rintro rfl; exact ⟨rfl, rfl, rfl, rfl, rfl⟩
  · intro h
    obtain ⟨_, _, _, _, _⟩ := x
    obtain ⟨_, _, _, _, _⟩ := y
    obtain ⟨h1, h2, h3, h4, h5⟩ := h
    simp only at h1 h2 h3 h4 h5
    subst h1 h2 h3 h4 h5
    rfl

theorem snoc_take {α : Type} {l : List α} {k : Nat} (h : k < l.length) : l.take (k + 1) = l.take k ++ [l[k]] := by
  rw [List.take_add_one, List.getElem?_eq_getElem h]; rfl
theorem ne_take {α : Type} {l m : List α} {k : Nat} (h1 : k < l.length) (h2 : k < m.length) (hne : l[k] ≠ m[k]) : l ≠ m := by
  rintro rfl; exact hne rfl

/-- Whether two lists are equal, the world but for draws as it was. -/
def BoolDrew (b : Bool) (w : World) (e : Ending) (w' : World) : Prop := e = .returned (.bool b) ∧ ∃ k, w' = w.drewN k

theorem slot_fields : Tryd.prog.underlying 144 = some (.struct (Tryd.prog.fieldsOf 144)) := by kernel_rfl
theorem slot_held : Tryd.prog.stoodInHeld 144 = false := by kernel_rfl
theorem equalIn_slot (a b c d : Int) (w : World) : (Op.equalIn 10000 144 (pv a b) (pv c d)).run Tryd.prog w = .ok (decide (a = c) && decide (b = d)) w := by
  rw [show (10000 : Nat) = 9999 + 1 from rfl, run_equalIn_agg w 9999 144 _ _ slot_fields slot_held]
  have u := Tryd.underlying3
  have a' := Tryd.isAgg3
  have z := Tryd.sizeOf3
  simp only [Program.fieldsOf, Tryd.underlying144]
  go_simp
  by_cases h1 : a = c <;> by_cases h2 : b = d <;> simp [h1, h2]
theorem run_ne_slot (a b c d : Int) (w : World) : (binOp .neq 144 (pv a b) (pv c d)).run Tryd.prog w = .ok (.bool (!(decide (a = c) && decide (b = d)))) w := by
  rw [run_neq_struct, equalIn_slot, Result.andThen_ok]
theorem instr_fields : Tryd.prog.underlying 65 = some (.struct (Tryd.prog.fieldsOf 65)) := by kernel_rfl
theorem instr_held : Tryd.prog.stoodInHeld 65 = false := by kernel_rfl
theorem equalIn_instr (o a b c m o' a' b' c' m' : Int) (w : World) : (Op.equalIn 10000 65 (iv o a b c m) (iv o' a' b' c' m')).run Tryd.prog w = .ok (decide (o = o') && (decide (a = a') && (decide (b = b') && (decide (c = c') && decide (m = m'))))) w := by
  rw [show (10000 : Nat) = 9999 + 1 from rfl, run_equalIn_agg w 9999 65 _ _ instr_fields instr_held]
  have u := Tryd.underlying3
  have ag := Tryd.isAgg3
  have z := Tryd.sizeOf3
  have u' := Tryd.underlying31
  have ag' := Tryd.isAgg31
  have z' := Tryd.sizeOf31
  simp only [Program.fieldsOf, Tryd.underlying65]
  go_simp
  by_cases h1 : o = o' <;> by_cases h2 : a = a' <;> by_cases h3 : b = b' <;> by_cases h4 : c = c' <;> by_cases h5 : m = m' <;> simp [h1, h2, h3, h4, h5]
theorem run_ne_instr (o a b c m o' a' b' c' m' : Int) (w : World) : (binOp .neq 65 (iv o a b c m) (iv o' a' b' c' m')).run Tryd.prog w = .ok (.bool (!(decide (o = o') && (decide (a = a') && (decide (b = b') && (decide (c = c') && decide (m = m'))))))) w := by
  rw [run_neq_struct, equalIn_instr, Result.andThen_ok]

theorem fn_eq {x y : Fn} : x = y ↔ x.params = y.params ∧ x.slots = y.slots ∧ x.code = y.code := by
  constructor
  · rintro rfl; exact ⟨rfl, rfl, rfl⟩
  · intro h
    obtain ⟨_, _, _⟩ := x
    obtain ⟨_, _, _⟩ := y
    obtain ⟨h1, h2, h3⟩ := h
    simp only at h1 h2 h3
    subst h1 h2 h3
    rfl
end Go.Proofs.YtlkcjjalkdlicaaDoor
end

section
/-
  The mathematics of targets: frames, targets as lists; the errors of an instruction, of a frame, of a target. Nothing here names the program.
-/
namespace Go.Proofs.YtlkcjjalkdlicaaDoor
open Go.RowKit

/-- A frame. -/
structure Fm where
  params : Int
  size : Int
  code : List Ins
/-- A target's frames. -/
abbrev Tg := List Fm
theorem fm_eq {x y : Fm} : x = y ↔ x.params = y.params ∧ x.size = y.size ∧ x.code = y.code := by
  constructor
  · rintro rfl; exact ⟨rfl, rfl, rfl⟩
  · intro h
    obtain ⟨_, _, _⟩ := x
    obtain ⟨_, _, _⟩ := y
    obtain ⟨h1, h2, h3⟩ := h
    simp only at h1 h2 h3
    subst h1 h2 h3
    rfl
instance : DecidableEq Fm := fun x y =>
  if h : x.params = y.params ∧ x.size = y.size ∧ x.code = y.code then isTrue (fm_eq.2 h) else isFalse fun e => h (fm_eq.1 e)

/-- The kinds of the operands A, B, C: 0 unused, 1 a register, 2 an offset, 3 a size, 4 a function, 5 a target; and whether Imm is used. -/
def mshp : List (Int × Int × Int × Bool) :=
  [(1, 0, 0, true), (1, 1, 0, false), (1, 1, 1, false), (1, 1, 1, false), (1, 1, 1, false), (1, 1, 1, false), (1, 1, 1, false), (1, 1, 1, false), (1, 1, 1, false), (1, 1, 1, false), (1, 1, 1, false), (1, 1, 1, false),
   (1, 1, 0, false), (1, 0, 0, false), (1, 0, 0, false), (1, 2, 3, false), (2, 1, 3, false), (2, 2, 3, false), (0, 0, 0, false), (0, 0, 0, false), (5, 0, 0, false), (1, 5, 0, false), (4, 0, 0, false), (0, 0, 0, false), (0, 0, 0, true)]
def mshpOf (op : Int) : Int × Int × Int × Bool := mshp.getD op.toNat (0, 0, 0, false)
/-- The error of one operand: N frames, C instructions. -/
def mopE (N C k n : Int) : Int :=
  if k = 0 then (if n = 0 then 0 else 2) else if k = 1 then (if withB n 8 then 0 else 4) else if k = 4 then (if withB n N then 0 else 4) else if k = 3 then (if szB n then 0 else 5) else if k = 5 then (if withB n C then 0 else 6) else 0
/-- The operation exists in the target. -/
def exB (op : Int) : Bool := withB op 25 && (!decide (op = 18) && !decide (op = 19))
/-- An instruction reads, or writes, memory. -/
def rdB (op : Int) : Bool := decide (op = 15) || decide (op = 17)
def wrB (op : Int) : Bool := decide (op = 16) || decide (op = 17)
/-- The interval that it reads, or writes. -/
def rdI (x : Ins) : Int × Int := if rdB x.op then (x.b, x.c) else (0, 0)
def wrI (x : Ins) : Int × Int := if wrB x.op then (x.a, x.c) else (0, 0)
/-- It reads and writes where it may. -/
def covB (P S : Int) (x : Ins) : Bool := insB (rdI x).1 (rdI x).2 (S + 16 * P) && insB (wrI x).1 (wrI x).2 S
/-- The first error in the document's order. -/
def mrank (l : List Int) (cov : Bool) : Int := if l.contains 2 then 2 else if l.contains 4 then 4 else if l.contains 5 then 5 else if cov = false then 4 else if l.contains 6 then 6 else 0
def mfound (N C : Int) (x : Ins) : List Int := foundE (mopE N C (mshpOf x.op).1 x.a) (mopE N C (mshpOf x.op).2.1 x.b) (mopE N C (mshpOf x.op).2.2.1 x.c) (mshpOf x.op).2.2.2 x.imm
/-- The error of an instruction of a frame of a right shape. -/
def minsE (N : Nat) (f : Fm) (x : Ins) : Int := if exB x.op = false then 4 else mrank (mfound N f.code.length x) (covB f.params f.size x)
/-- The shape of a frame is right. -/
def shB (Al : Int) (f : Fm) : Bool := powB Al && (withB f.params 9 && (withB f.size 2147483520 && decide (f.size % Al = 0)))
/-- The error of a frame. -/
def fmE (Al : Int) (N : Nat) (f : Fm) : Int :=
  if shB Al f = false then 4
  else if 1024 < f.code.length then 3
  else if firstE (f.code.map (minsE N f)) ≠ 0 then firstE (f.code.map (minsE N f))
  else if closedB f.code = false then 6 else 0
/-- A frame has room for the parameters of what it calls. -/
def callB (F : Tg) (f : Fm) (x : Ins) : Bool := !(decide (x.op = 22) && decide (f.size < 16 * ((F[x.a.toNat]?).map Fm.params).getD 0))
def roomB (F : Tg) (f : Fm) : Bool := f.code.all (callB F f)
/-- The error of a target. -/
def tgE (Al : Int) (F : Tg) : Int :=
  if 80 < F.length then 3
  else match F with
    | [] => 4
    | f :: _ => if powB Al = false ∨ Al < 16 then 5 else if f.params ≠ 0 then 7 else if firstE (F.map (fmE Al F.length)) ≠ 0 then firstE (F.map (fmE Al F.length)) else if F.all (roomB F) then 0 else 7
end Go.Proofs.YtlkcjjalkdlicaaDoor
end

section
/-
  A target's error in the order in which it is looked for. No function of the program is named here.
-/
namespace Go.Proofs.YtlkcjjalkdlicaaDoor
open Go.RowKit

theorem tgE_many {Al : Int} {F : Tg} (h : 80 < F.length) : tgE Al F = 3 := by unfold tgE; rw [if_pos h]
theorem tgE_align {Al : Int} {F : Tg} {f : Fm} (h : F.length ≤ 80) (hf : F[0]? = some f) (ha : powB Al = false ∨ Al < 16) : tgE Al F = 5 := by
  unfold tgE
  rw [if_neg (by omega)]
  cases F with
  | nil => simp at hf
  | cons g r => simp only; rw [if_pos ha]
theorem tgE_entry {Al : Int} {F : Tg} {f : Fm} (h : F.length ≤ 80) (hf : F[0]? = some f) (ha : powB Al = true ∧ 16 ≤ Al) (hp : f.params ≠ 0) : tgE Al F = 7 := by
  unfold tgE
  rw [if_neg (by omega)]
  cases F with
  | nil => simp at hf
  | cons g r =>
    simp at hf; subst hf
    simp only
    rw [if_neg (by rintro (h | h); exact absurd ha.1 (by simp [h]); omega), if_pos hp]
theorem tgE_rest {Al : Int} {F : Tg} {f : Fm} (h : F.length ≤ 80) (hf : F[0]? = some f) (ha : powB Al = true ∧ 16 ≤ Al) (hp : f.params = 0) : tgE Al F = if firstE (F.map (fmE Al F.length)) ≠ 0 then firstE (F.map (fmE Al F.length)) else if F.all (roomB F) then 0 else 7 := by
  unfold tgE
  rw [if_neg (by omega)]
  cases F with
  | nil => simp at hf
  | cons g r =>
    simp at hf; subst hf
    simp only
    rw [if_neg (by rintro (h | h); exact absurd ha.1 (by simp [h]); omega), if_neg (by simpa using hp)]
/-- What a frame without an error is. -/
theorem fmE_zero {Al : Int} {N : Nat} {f : Fm} (h : fmE Al N f = 0) : shB Al f = true ∧ f.code.length ≤ 1024 ∧ (∀ x ∈ f.code, minsE N f x = 0) ∧ closedB f.code = true := by
  unfold fmE at h
  have hf := @firstE_zero (f.code.map (minsE N f))
  simp only [List.mem_map, forall_exists_index, and_imp, forall_apply_eq_imp_iff₂] at hf
  by_cases h1 : shB Al f = true
  · rw [if_neg (by simp [h1])] at h
    by_cases h2 : 1024 < f.code.length
    · rw [if_pos h2] at h; omega
    · rw [if_neg h2] at h
      by_cases h3 : firstE (f.code.map (minsE N f)) = 0
      · rw [if_neg (by simpa using h3)] at h
        by_cases h4 : closedB f.code = true
        · exact ⟨h1, by omega, hf.1 h3, h4⟩
        · rw [if_pos (by simpa using h4)] at h; omega
      · rw [if_pos (by simpa using h3)] at h; exact absurd h h3
  · rw [if_pos (by simpa using h1)] at h; omega
/-- The errors of three operands, and of Imm. -/
theorem mopE_cases (N C k n : Int) : mopE N C k n = 0 ∨ mopE N C k n = 2 ∨ mopE N C k n = 4 ∨ mopE N C k n = 5 ∨ mopE N C k n = 6 := by unfold mopE; (repeat' split) <;> simp
theorem mrank_order {e1 e2 e3 imm : Int} {m cov : Bool} (c1 : e1 = 0 ∨ e1 = 2 ∨ e1 = 4 ∨ e1 = 5 ∨ e1 = 6) (c2 : e2 = 0 ∨ e2 = 2 ∨ e2 = 4 ∨ e2 = 5 ∨ e2 = 6) (c3 : e3 = 0 ∨ e3 = 2 ∨ e3 = 4 ∨ e3 = 5 ∨ e3 = 6) :
    mrank (foundE e1 e2 e3 m imm) cov = if e1 = 2 ∨ e2 = 2 ∨ e3 = 2 ∨ (m = false ∧ imm ≠ 0) then 2 else if e1 = 4 ∨ e2 = 4 ∨ e3 = 4 then 4 else if e1 = 5 ∨ e2 = 5 ∨ e3 = 5 then 5 else if cov = false then 4 else if e1 = 6 ∨ e2 = 6 ∨ e3 = 6 then 6 else 0 := by
  unfold foundE
  by_cases h : m = false ∧ imm ≠ 0
  · rw [if_pos h]
    simp [mrank, h]
  · rw [if_neg h]
    cases cov <;> rcases c1 with rfl | rfl | rfl | rfl | rfl <;> rcases c2 with rfl | rfl | rfl | rfl | rfl <;> rcases c3 with rfl | rfl | rfl | rfl | rfl <;> simp [mrank, h]
/-- A Call without an error names a frame. -/
theorem mins_call {N : Nat} {f : Fm} {x : Ins} (h : minsE N f x = 0) (h22 : x.op = 22) : 0 ≤ x.a ∧ x.a < N := by
  unfold minsE at h
  have he : exB x.op = true := by rw [h22]; rfl
  rw [if_neg (by simp [he])] at h
  unfold mfound at h
  rw [mrank_order (mopE_cases _ _ _ _) (mopE_cases _ _ _ _) (mopE_cases _ _ _ _)] at h
  by_cases hw : withB x.a N = true
  · exact withB_true.1 hw
  · exfalso
    have e1 : mopE N f.code.length (mshpOf x.op).1 x.a = 4 := by
      rw [h22]
      show mopE N f.code.length 4 x.a = 4
      unfold mopE
      simp [hw]
    split at h
    · omega
    · rw [if_pos (.inl e1)] at h; omega
end Go.Proofs.YtlkcjjalkdlicaaDoor
end

section
/-
  Targets in memory: rows of frames, what lies behind them; kept over what a call leaves. No function of the program is named here.
-/
namespace Go.Proofs.YtlkcjjalkdlicaaDoor
open Go.RowKit

/-- A frame, a target by value. -/
abbrev mv (P S : Int) (A : Option Addr) (n c : Nat) : Value := .agg #[.int .i64 P, .int .i64 S, .slice A n c]
abbrev tv (Al : Int) (A : Option Addr) (n c : Nat) : Value := .agg #[.int .i64 Al, .slice A n c]
/-- A frame's head. -/
structure Fd where
  p : Int
  s : Int
  a : Option Addr
  n : Nat
  c : Nat
def fdcell (h : Fd) : List Value := [.int .i64 h.p, .int .i64 h.s, .slice h.a h.n h.c]
def fdcells (l : List Fd) : List Value := l.flatMap fdcell
theorem fdcell_len (h : Fd) : (fdcell h).length = 3 := rfl
theorem fdcells_length (l : List Fd) : (fdcells l).length = l.length * 3 := flat_len fdcell_len l
theorem fdcells_append (l m : List Fd) : fdcells (l ++ m) = fdcells l ++ fdcells m := by simp [fdcells]
theorem fdcells_oneCell (l : List Fd) : ∀ v ∈ fdcells l, v.oneCell' = true := by
  intro v hv
  simp only [fdcells, List.mem_flatMap] at hv
  obtain ⟨x, _, hv⟩ := hv
  simp [fdcell] at hv
  rcases hv with rfl | rfl | rfl <;> rfl
/-- The head h is frame f: its code lies from block lo on, below B. -/
structure FdAt (w : World) (lo B : Nat) (h : Fd) (f : Fm) : Prop where
  p : h.p = f.params
  s : h.s = f.size
  l : f.code.length = h.n
  k : Cap h.a h.n h.c
  fr : Far lo h.a
  c : Sees w B h.a (icells f.code)
structure Fds (w : World) (lo B : Nat) (hs : List Fd) (F : Tg) : Prop where
  len : hs.length = F.length
  at_ : ∀ (k : Nat) (h : Fd) (f : Fm), hs[k]? = some h → F[k]? = some f → FdAt w lo B h f
/-- At the slice A, n, c stand the frames F. -/
structure TgAt (w : World) (lo B : Nat) (A : Option Addr) (n c : Nat) (hs : List Fd) (F : Tg) : Prop where
  len : F.length = n
  cap : Cap A n c
  far : Far lo A
  see : Sees w B A (fdcells hs)
  hd : Fds w lo B hs F

section
variable {w w' : World} {lo lo' B B' : Nat} {h : Fd} {f : Fm} {hs : List Fd} {F : Tg} {A : Option Addr} {n c : Nat}
theorem FdAt.keep (H : FdAt w lo B h f) (hk : ∀ p : Addr, lo ≤ p.block → p.block < B → w'.cell? p = w.cell? p) : FdAt w' lo B h f := ⟨H.p, H.s, H.l, H.k, H.fr, H.c.keepF H.fr hk⟩
theorem FdAt.more (H : FdAt w lo B h f) (hB : B ≤ B') (hl : lo' ≤ lo) : FdAt w lo' B' h f := ⟨H.p, H.s, H.l, H.k, H.fr.more hl, H.c.more hB⟩
theorem Fds.keep (H : Fds w lo B hs F) (hk : ∀ p : Addr, lo ≤ p.block → p.block < B → w'.cell? p = w.cell? p) : Fds w' lo B hs F := ⟨H.len, fun k h f e1 e2 => (H.at_ k h f e1 e2).keep hk⟩
theorem Fds.more (H : Fds w lo B hs F) (hB : B ≤ B') (hl : lo' ≤ lo) : Fds w lo' B' hs F := ⟨H.len, fun k h f e1 e2 => (H.at_ k h f e1 e2).more hB hl⟩
theorem TgAt.keep (H : TgAt w lo B A n c hs F) (hk : ∀ p : Addr, lo ≤ p.block → p.block < B → w'.cell? p = w.cell? p) : TgAt w' lo B A n c hs F := ⟨H.len, H.cap, H.far, H.see.keepF H.far hk, H.hd.keep hk⟩
theorem TgAt.more (H : TgAt w lo B A n c hs F) (hB : B ≤ B') (hl : lo' ≤ lo) : TgAt w lo' B' A n c hs F := ⟨H.len, H.cap, H.far.more hl, H.see.more hB, H.hd.more hB hl⟩
theorem TgAt.below (H : TgAt w lo B A n c hs F) (hb : Below B w w') : TgAt w' lo B A n c hs F := H.keep fun _ _ hp => hb.cell hp
theorem TgAt.call (H : TgAt w lo w.heap.size A n c hs F) (hb : Below w.heap.size w w') : TgAt w' lo w'.heap.size A n c hs F := (H.below hb).more hb.size (Nat.le_refl _)
theorem TgAt.drewN (H : TgAt w lo B A n c hs F) (k : Nat) : TgAt (w.drewN k) lo B A n c hs F := H.keep fun _ _ _ => rfl
theorem TgAt.alloc (H : TgAt w lo w.heap.size A n c hs F) (o : Obj) : TgAt (w.alloc o) lo (w.alloc o).heap.size A n c hs F := H.call (below1 w o)
theorem TgAt.grown {g : Nat} (H : TgAt w lo B A n c hs F) (hg : w.grownBy w' (some g)) (hlo : g < lo) (hB : B ≤ w.heap.size) : TgAt w' lo B A n c hs F :=
  H.keep fun p h1 h2 => World.cell?_of_block (hg.block p.block (by omega) (fun e => by injection e with e; omega))
theorem FdAt.below (H : FdAt w lo B h f) (hb : Below B w w') : FdAt w' lo B h f := H.keep fun _ _ hp => hb.cell hp
theorem FdAt.grown {g : Nat} (H : FdAt w lo B h f) (hg : w.grownBy w' (some g)) (hlo : g < lo) (hB : B ≤ w.heap.size) : FdAt w' lo B h f :=
  H.keep fun p h1 h2 => World.cell?_of_block (hg.block p.block (by omega) (fun e => by injection e with e; omega))
/-- The head at place k, and where it stands. -/
theorem fd_at {l : List Fd} {k : Nat} (h : Sees w B A (fdcells l)) (hk : k < l.length) :
    ∃ b off, A = some ⟨b, off, none⟩ ∧ b < B ∧ w.cell? ⟨b, off + k * 3, none⟩ = some (.int .i64 l[k].p) ∧ w.cell? ⟨b, off + k * 3 + 1, none⟩ = some (.int .i64 l[k].s) ∧ w.cell? ⟨b, off + k * 3 + 2, none⟩ = some (.slice l[k].a l[k].n l[k].c) := by
  have hx := List.getElem?_eq_getElem hk
  have g := fun j hj => flat_at fdcell_len l k _ hx j hj
  obtain ⟨b, off, e, hb, h0⟩ := h _ _ (g 0 (by omega))
  obtain ⟨b1, o1, e1, _, h1⟩ := h _ _ (g 1 (by omega))
  obtain ⟨b2, o2, e2, _, h2⟩ := h _ _ (g 2 (by omega))
  subst e
  injection e1 with e1; injection e1 with x1 y1; subst x1 y1
  injection e2 with e2; injection e2 with x2 y2; subst x2 y2
  exact ⟨b, off, rfl, hb, h0, h1, h2⟩
/-- Frame k of a target: where its head stands, and that it is it. -/
theorem fm_at {k : Nat} (H : TgAt w lo B A n c hs F) (hk : k < n) :
    ∃ (b off : Nat) (P S : Int) (A1 : Option Addr) (n1 c1 : Nat) (f : Fm), A = some ⟨b, off, none⟩ ∧ b < B ∧ F[k]? = some f ∧ hs[k]? = some ⟨P, S, A1, n1, c1⟩ ∧ FdAt w lo B ⟨P, S, A1, n1, c1⟩ f ∧
      w.cell? ⟨b, off + k * 3, none⟩ = some (.int .i64 P) ∧ w.cell? ⟨b, off + k * 3 + 1, none⟩ = some (.int .i64 S) ∧ w.cell? ⟨b, off + k * 3 + 2, none⟩ = some (.slice A1 n1 c1) := by
  have h1 : k < F.length := by rw [H.len]; exact hk
  have h2 : k < hs.length := by rw [H.hd.len]; exact h1
  obtain ⟨b, off, e, hb, c0, c1, c2⟩ := fd_at H.see h2
  exact ⟨b, off, _, _, _, _, _, F[k], e, hb, List.getElem?_eq_getElem h1, List.getElem?_eq_getElem h2, H.hd.at_ k _ _ (List.getElem?_eq_getElem h2) (List.getElem?_eq_getElem h1), c0, c1, c2⟩
/-- The same at a place that both lists name. -/
theorem fm_at' {k : Nat} {f : Fm} {P S : Int} {A1 : Option Addr} {n1 c1 : Nat} (H : TgAt w lo B A n c hs F) (hf : F[k]? = some f) (hh : hs[k]? = some ⟨P, S, A1, n1, c1⟩) :
    ∃ (b off : Nat), A = some ⟨b, off, none⟩ ∧ b < B ∧ FdAt w lo B ⟨P, S, A1, n1, c1⟩ f ∧
      w.cell? ⟨b, off + k * 3, none⟩ = some (.int .i64 P) ∧ w.cell? ⟨b, off + k * 3 + 1, none⟩ = some (.int .i64 S) ∧ w.cell? ⟨b, off + k * 3 + 2, none⟩ = some (.slice A1 n1 c1) := by
  have hk : k < n := by rw [← H.len]; exact (List.getElem?_eq_some_iff.1 hf).1
  obtain ⟨b, off, _, _, _, _, _, _, e, hb, e1, e2, h, c0, c1, c2⟩ := fm_at H hk
  rw [hf] at e1; injection e1 with e1; subst e1
  rw [hh] at e2; injection e2 with e2; injection e2 with x1 x2 x3 x4 x5; subst x1 x2 x3 x4 x5
  exact ⟨b, off, e, hb, h, c0, c1, c2⟩
end
end Go.Proofs.YtlkcjjalkdlicaaDoor
end

section
/-
  Boxes, one behind the other. No function of the program is named here.
-/
namespace Go.Proofs.YtlkcjjalkdlicaaDoor
open Go.RowKit

theorem below4 (w : World) (o p q r : Obj) : Below w.heap.size w ((((w.alloc o).alloc p).alloc q).alloc r) := (below3 w o p q).alloc (by simp; omega) _
/-- Three boxes, one behind the other. -/
theorem boxes3 (w : World) (l1 l2 l3 : List Value) (t1 t2 t3 : TypeId) : ∃ W, ((w.alloc (.cells l1.toArray t1)).alloc (.cells l2.toArray t2)).alloc (.cells l3.toArray t3) = W ∧ Below w.heap.size w W ∧ w.heap.size + 3 = W.heap.size ∧
    Row W w.heap.size t1 l1 ∧ Row W (w.heap.size + 1) t2 l2 ∧ Row W (w.heap.size + 1 + 1) t3 l3 := by
  refine ⟨_, rfl, below3 _ _ _ _, by simp, ((Row.new w t1 l1).alloc _).alloc _, (Row.alloc ?_ _), ?_⟩
  · exact heap_at _ _ (by simp)
  · exact heap_at _ _ (by simp)

/-- Four boxes, one behind the other. -/
theorem boxes4 (w : World) (l1 l2 l3 l4 : List Value) (t1 t2 t3 t4 : TypeId) : ∃ W, (((w.alloc (.cells l1.toArray t1)).alloc (.cells l2.toArray t2)).alloc (.cells l3.toArray t3)).alloc (.cells l4.toArray t4) = W ∧ Below w.heap.size w W ∧ w.heap.size + 4 = W.heap.size ∧
    Row W w.heap.size t1 l1 ∧ Row W (w.heap.size + 1) t2 l2 ∧ Row W (w.heap.size + 1 + 1) t3 l3 ∧ Row W (w.heap.size + 1 + 1 + 1) t4 l4 := by
  refine ⟨_, rfl, below4 _ _ _ _ _, by simp, (((Row.new w t1 l1).alloc _).alloc _).alloc _, (Row.alloc (Row.alloc ?_ _) _), (Row.alloc ?_ _), ?_⟩
  · exact heap_at _ _ (by simp)
  · exact heap_at _ _ (by simp)
  · exact heap_at _ _ (by simp)

/-- Two boxes, one behind the other. -/
theorem boxes2q (w : World) (l1 l2 : List Value) (t1 t2 : TypeId) : ∃ W, (w.alloc (.cells l1.toArray t1)).alloc (.cells l2.toArray t2) = W ∧ Below w.heap.size w W ∧ w.heap.size + 2 = W.heap.size ∧ Row W w.heap.size t1 l1 ∧ Row W (w.heap.size + 1) t2 l2 := by
  refine ⟨_, rfl, below2 _ _ _, by simp, (Row.new w t1 l1).alloc _, ?_⟩
  exact heap_at _ _ (by simp)
end Go.Proofs.YtlkcjjalkdlicaaDoor
end
