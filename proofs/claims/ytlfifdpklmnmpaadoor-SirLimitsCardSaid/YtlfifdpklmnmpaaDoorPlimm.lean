/-
  The mathematics of the law on limits: programs of equal small functions, one long function, one function with many parameters. Nothing here names the program.
-/
import Derived.Test.YtlfifdpklmnmpaaDoorPown
import Derived.Laws.OwnMore
import Derived.OwnWalk
namespace Go.Proofs.YtlfifdpklmnmpaaDoor
open Go.RowKit

/-- Return; a function that returns; its head. -/
def retI : Ins := ⟨23, 0, 0, 0, 0⟩
def zerI : Ins := ⟨0, 0, 0, 0, 0⟩
def retF : Fn := ⟨0, [], [retI]⟩
def retH (E : Nat) : Hd := ⟨0, none, 0, 0, some ⟨E, 0, none⟩, 1, 1⟩
theorem insE_ret (N : Nat) (f : Fn) : insE N f retI = 0 := by
  have e : shpOf 23 = (0, 0, 0, false) := rfl
  have h : opndE N f 0 0 = 0 := rfl
  rw [insE_zero]
  refine ⟨⟨by decide, by decide⟩, ?_, ?_, ?_, .inr rfl, rfl⟩ <;> (show opndE N f _ 0 = 0; exact h)
theorem closedB_rep (L : Nat) : closedB (List.replicate (L + 1) retI) = true := by
  unfold closedB
  rw [List.getLast?_replicate]
  rfl
theorem fnE_rep (N L : Nat) (P : Int) (hL : 1 ≤ L) : fnE N ⟨P, [], List.replicate L retI⟩ = if 1024 < L then 3 else if withB P 9 = false then 4 else 0 := by
  obtain ⟨k, rfl⟩ : ∃ k, L = k + 1 := ⟨L - 1, by omega⟩
  have h2 : slotsE [] = 0 := rfl
  by_cases h : 1024 < k + 1
  · rw [if_pos h]; unfold fnE; rw [if_pos (by simpa using h)]
  · rw [if_neg h]
    by_cases hp : withB P 9 = true
    · rw [if_neg (by simp [hp]), fnE_zero]
      refine ⟨by simp; omega, h2, ?_, fun x hx => ?_, closedB_rep k⟩
      · have := withB_true.1 hp
        show (0 : Int) ≤ P ∧ P ≤ 8
        omega
      · rw [List.eq_of_mem_replicate hx]; exact insE_ret _ _
    · rw [if_pos (by simpa using hp)]
      unfold fnE
      rw [if_neg (by simpa using h), if_neg (by simp [h2]), if_pos (by simpa using hp)]
theorem fnE_retF (N : Nat) : fnE N retF = 0 := by
  have := fnE_rep N 1 0 (by omega)
  rw [if_neg (by omega), if_neg (by decide)] at this
  exact this
theorem pgE_rep (k : Nat) (hk : 1 ≤ k) : pgE (List.replicate k retF) = if 80 < k then 3 else 0 := by
  by_cases h : 80 < k
  · rw [if_pos h]; unfold pgE; rw [if_pos (by simpa using h)]
  · rw [if_neg h, pgE_zero]
    obtain ⟨j, rfl⟩ : ∃ j, k = j + 1 := ⟨k - 1, by omega⟩
    refine ⟨by simp; omega, ⟨retF, List.replicate j retF, by rw [List.replicate_succ], rfl⟩, fun f hf => ?_⟩
    rw [List.eq_of_mem_replicate hf]; exact fnE_retF _
theorem pgE_two (f : Fn) : pgE [retF, f] = fnE 2 f := by
  unfold pgE
  rw [if_neg (by simp)]
  simp only [retF, ne_eq, not_true_eq_false, if_false, List.map_cons, List.map_nil, List.length_cons, List.length_nil]
  have : fnE 2 ⟨0, [], [retI]⟩ = 0 := fnE_retF 2
  simp only [firstE]
  rw [show (0 + 1 + 1 : Nat) = 2 from rfl, this]
  simp only [if_true]
  split <;> simp_all

/-- New rows of instructions. -/
theorem made_icells (L : Nat) : (madeCells #[.int .i64 0, .int .i64 0, .int .i64 0, .int .i64 0, .int .u64 0] (L * 5)).toList = icells (List.replicate L zerI) := by
  apply List.ext_getElem?
  intro j
  by_cases hj : j < L * 5
  · have hk : j / 5 < L := by omega
    have h := flat_at icell_len (List.replicate L zerI) (j / 5) zerI (by rw [List.getElem?_replicate, if_pos hk]) (j % 5) (by omega)
    rw [show j / 5 * 5 + j % 5 = j by omega] at h
    unfold icells
    rw [h]
    have e : (madeCells #[.int .i64 0, .int .i64 0, .int .i64 0, .int .i64 0, .int .u64 0] (L * 5)).toList[j]? = some ((#[.int .i64 0, .int .i64 0, .int .i64 0, .int .i64 0, .int .u64 0] : Array Value)[j % 5]!) := by simp [madeCells, hj]
    rw [e]
    rcases (show j % 5 = 0 ∨ j % 5 = 1 ∨ j % 5 = 2 ∨ j % 5 = 3 ∨ j % 5 = 4 by omega) with h | h | h | h | h <;> rw [h] <;> rfl
  · rw [List.getElem?_eq_none (by rw [Array.length_toList, size_madeCells]; omega), List.getElem?_eq_none (by rw [icells_length]; simp; omega)]
theorem iset (l : List Ins) (k : Nat) (hk : k < l.length) (y y' : Ins) (j : Nat) (hj : j < 5) (v : Value) (hb : icell y' = (icell y).set j v) : (icells (l.set k y)).set (k * 5 + j) v = icells (l.set k y') := by
  have h := flat_set icell_len (l.set k y) k y y' (by rw [List.getElem?_set_self hk]) j hj v hb
  rw [List.set_set] at h
  exact h
/-- The five stores of a Return. -/
theorem ret_stores (l : List Ins) (k : Nat) (hk : k < l.length) : (((((icells l).set (k * 5) (.int .i64 23)).set (k * 5 + 1) (.int .i64 0)).set (k * 5 + 2) (.int .i64 0)).set (k * 5 + 3) (.int .i64 0)).set (k * 5 + 4) (.int .u64 0) = icells (l.set k retI) := by
  have e : l = l.set k l[k] := by rw [List.set_getElem_self]
  rw [e]
  generalize l[k] = x
  have h0 := iset l k hk x ⟨23, x.a, x.b, x.c, x.imm⟩ 0 (by omega) (.int .i64 23) rfl
  rw [Nat.add_zero] at h0
  rw [h0, iset l k hk ⟨23, x.a, x.b, x.c, x.imm⟩ ⟨23, 0, x.b, x.c, x.imm⟩ 1 (by omega) (.int .i64 0) rfl, iset l k hk ⟨23, 0, x.b, x.c, x.imm⟩ ⟨23, 0, 0, x.c, x.imm⟩ 2 (by omega) (.int .i64 0) rfl, iset l k hk ⟨23, 0, 0, x.c, x.imm⟩ ⟨23, 0, 0, 0, x.imm⟩ 3 (by omega) (.int .i64 0) rfl, iset l k hk ⟨23, 0, 0, 0, x.imm⟩ retI 4 (by omega) (.int .u64 0) rfl, List.set_set]
theorem rep_set (L k : Nat) (hk : k < L) : (List.replicate k retI ++ List.replicate (L - k) zerI).set k retI = List.replicate (k + 1) retI ++ List.replicate (L - (k + 1)) zerI := by
  rw [List.set_append_right _ _ (by simp), List.length_replicate, Nat.sub_self, show L - k = (L - (k + 1)) + 1 by omega, List.replicate_succ, List.set_cons_zero, List.replicate_succ', List.append_assoc]
  rfl
end Go.Proofs.YtlfifdpklmnmpaaDoor
