/-
  When two instructions, slots, functions are equal; '==' at slots and at instructions. No function of the program is named here.
-/
import Derived.Test.YtjgoldlebmfiiaaPmem
import Derived.Test.YtjgoldlebmfiiaaLeaf
import Derived.Laws.StructEq
import Derived.WalkKit
namespace Go.Proofs.Ytjgoldlebmfiiaa
open Go.RowKit

instance : DecidableEq Ins := fun x y =>
  if h : x.op = y.op ∧ x.a = y.a ∧ x.b = y.b ∧ x.c = y.c ∧ x.imm = y.imm then isTrue (by
    obtain ⟨_, _, _, _, _⟩ := x
    obtain ⟨_, _, _, _, _⟩ := y
    obtain ⟨h1, h2, h3, h4, h5⟩ := h
    simp only at h1 h2 h3 h4 h5
    subst h1 h2 h3 h4 h5
    rfl)
  else isFalse fun e => h (by subst e; exact ⟨rfl, rfl, rfl, rfl, rfl⟩)
instance : DecidableEq Fn := fun x y =>
  if h : x.params = y.params ∧ x.slots = y.slots ∧ x.code = y.code then isTrue (by
    obtain ⟨_, _, _⟩ := x
    obtain ⟨_, _, _⟩ := y
    obtain ⟨h1, h2, h3⟩ := h
    simp only at h1 h2 h3
    subst h1 h2 h3
    rfl)
  else isFalse fun e => h (by subst e; exact ⟨rfl, rfl, rfl⟩)
theorem ins_eq {x y : Ins} : x = y ↔ x.op = y.op ∧ x.a = y.a ∧ x.b = y.b ∧ x.c = y.c ∧ x.imm = y.imm := by
  constructor
  · rintro rfl; exact ⟨rfl, rfl, rfl, rfl, rfl⟩
  · intro h
    obtain ⟨_, _, _, _, _⟩ := x
    obtain ⟨_, _, _, _, _⟩ := y
    obtain ⟨h1, h2, h3, h4, h5⟩ := h
    simp only at h1 h2 h3 h4 h5
    subst h1 h2 h3 h4 h5
    rfl

theorem snoc_take {α : Type} {l : List α} {k : Nat} (h : k < l.length) : l.take (k + 1) = l.take k ++ [l[k]] := by
  rw [List.take_add_one, List.getElem?_eq_getElem h]; rfl
theorem ne_take {α : Type} {l m : List α} {k : Nat} (h1 : k < l.length) (h2 : k < m.length) (hne : l[k] ≠ m[k]) : l ≠ m := by
  rintro rfl; exact hne rfl

/-- Whether two lists are equal, the world but for draws as it was. -/
def BoolDrew (b : Bool) (w : World) (e : Ending) (w' : World) : Prop := e = .returned (.bool b) ∧ ∃ k, w' = w.drewN k

theorem slot_fields : Try.prog.underlying 95 = some (.struct (Try.prog.fieldsOf 95)) := by kernel_rfl
theorem slot_held : Try.prog.stoodInHeld 95 = false := by kernel_rfl
theorem equalIn_slot (a b c d : Int) (w : World) : (Op.equalIn 10000 95 (pv a b) (pv c d)).run Try.prog w = .ok (decide (a = c) && decide (b = d)) w := by
  rw [show (10000 : Nat) = 9999 + 1 from rfl, run_equalIn_agg w 9999 95 _ _ slot_fields slot_held]
  have u := Try.underlying3
  have a' := Try.isAgg3
  have z := Try.sizeOf3
  simp only [Program.fieldsOf, Try.underlying95]
  go_simp
  by_cases h1 : a = c <;> by_cases h2 : b = d <;> simp [h1, h2]
theorem run_ne_slot (a b c d : Int) (w : World) : (binOp .neq 95 (pv a b) (pv c d)).run Try.prog w = .ok (.bool (!(decide (a = c) && decide (b = d)))) w := by
  rw [run_neq_struct, equalIn_slot, Result.andThen_ok]
theorem instr_fields : Try.prog.underlying 27 = some (.struct (Try.prog.fieldsOf 27)) := by kernel_rfl
theorem instr_held : Try.prog.stoodInHeld 27 = false := by kernel_rfl
theorem equalIn_instr (o a b c m o' a' b' c' m' : Int) (w : World) : (Op.equalIn 10000 27 (iv o a b c m) (iv o' a' b' c' m')).run Try.prog w = .ok (decide (o = o') && (decide (a = a') && (decide (b = b') && (decide (c = c') && decide (m = m'))))) w := by
  rw [show (10000 : Nat) = 9999 + 1 from rfl, run_equalIn_agg w 9999 27 _ _ instr_fields instr_held]
  have u := Try.underlying3
  have ag := Try.isAgg3
  have z := Try.sizeOf3
  have u' := Try.underlying25
  have ag' := Try.isAgg25
  have z' := Try.sizeOf25
  simp only [Program.fieldsOf, Try.underlying27]
  go_simp
  by_cases h1 : o = o' <;> by_cases h2 : a = a' <;> by_cases h3 : b = b' <;> by_cases h4 : c = c' <;> by_cases h5 : m = m' <;> simp [h1, h2, h3, h4, h5]
theorem run_ne_instr (o a b c m o' a' b' c' m' : Int) (w : World) : (binOp .neq 27 (iv o a b c m) (iv o' a' b' c' m')).run Try.prog w = .ok (.bool (!(decide (o = o') && (decide (a = a') && (decide (b = b') && (decide (c = c') && decide (m = m'))))))) w := by
  rw [run_neq_struct, equalIn_instr, Result.andThen_ok]

theorem fn_eq {x y : Fn} : x = y ↔ x.params = y.params ∧ x.slots = y.slots ∧ x.code = y.code := by
  constructor
  · rintro rfl; exact ⟨rfl, rfl, rfl⟩
  · intro h
    obtain ⟨_, _, _⟩ := x
    obtain ⟨_, _, _⟩ := y
    obtain ⟨h1, h2, h3⟩ := h
    simp only at h1 h2 h3
    subst h1 h2 h3
    rfl
end Go.Proofs.Ytjgoldlebmfiiaa
