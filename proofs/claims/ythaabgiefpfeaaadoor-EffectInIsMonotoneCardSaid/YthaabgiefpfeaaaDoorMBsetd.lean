import Derived.Test.YthaabgiefpfeaaaDoorMBtz
import Derived.RegionTactic
import Derived.ChangeAlike
import Derived.Maps.AppendAt
set_option linter.unusedVariables false
set_option linter.unusedSimpArgs false
section
/-
  Sets in memory: 'SetB w g N': block g holds the eight words of N; what a method that writes leaves. No function of the program is named here.
-/
namespace Go.Proofs.YthaabgiefpfeaaaDoor
open Go.RowKit
/-- Block g holds the eight words of N. -/
def SetB (w : World) (g N : Nat) : Prop := Row w g 47 (w8 (wd N))
theorem SetB.lt {w : World} {g N : Nat} (h : SetB w g N) : g < w.heap.size := Row.lt h
theorem SetB.call {w w' : World} {g N : Nat} (h : SetB w g N) (hb : Below w.heap.size w w') : SetB w' g N := Row.call h hb

/-- Block g has turned to N; all else is as it was. -/
def WritePost (g N : Nat) (w : World) (e : Ending) (w' : World) : Prop := e = .returned (.tuple #[]) ∧ SetB w' g N ∧ w.grownBy w' (some g)

theorem grown_drawn {w w' : World} {row : Option Nat} (h : w.grownBy w' row) (k : Nat) : w.grownBy (w'.drewN k) row := ⟨h.os, h.tape, h.output, h.size, h.block⟩
theorem grown_put {w w' : World} {g : Nat} (h : w.grownBy w' (some g)) (k : Nat) (u : Value) : w.grownBy (w'.setCell ⟨g, k, none⟩ u) (some g) :=
  ⟨h.os, h.tape, h.output, by simpa [World.setCell] using h.size, fun i hi hne => (Below.heap_setCell w' ⟨g, k, none⟩ u i (by rintro rfl; exact hne rfl)).trans (h.block i hi hne)⟩
theorem write_end {w : World} {g N M k : Nat} {v : Value} (h : Hid (SetB w g N)) (K : Hid ((w8 (wd N)).set k v = w8 (wd M))) : WritePost g M w (.returned (.tuple #[])) (w.setCell ⟨g, k, none⟩ v).drew := by
  refine ⟨rfl, ?_, grown_drawn (grown_put (World.grownBy.refl w _) k _) 1⟩
  have := (Row.set_ h.out k v).drew
  rw [K.out] at this
  exact this

theorem set_or (N : Nat) (n : Int) : (w8 (wd N)).set (pl n) (.int .u64 ((wd N (pl n) ||| bt n : Nat) : Int)) = w8 (wd (N ||| one n)) := by
  rw [w8_set _ (pl_lt n)]
  apply w8_congr
  intro i hi
  rw [wd_or, wd_one]
  split
  · rename_i e; rw [e]
  · rw [Nat.or_zero]
theorem diff_zero (N : Nat) : diff N 0 = N := by simp [diff]
theorem set_diff (N : Nat) (n : Int) : (w8 (wd N)).set (pl n) (.int .u64 ((diff (wd N (pl n)) (bt n) : Nat) : Int)) = w8 (wd (diff N (one n))) := by
  rw [w8_set _ (pl_lt n)]
  apply w8_congr
  intro i hi
  rw [wd_diff, wd_one]
  split
  · rename_i e; rw [e]
  · rw [diff_zero]

end Go.Proofs.YthaabgiefpfeaaaDoor
end

section
/-
  Sets by value; what a method on whole sets keeps. No function of the program is named here.
-/
namespace Go.Proofs.YthaabgiefpfeaaaDoor
open Go.RowKit
/-- A set by value. -/
abbrev sv (f : Nat → Nat) : Value := .agg #[.int .u64 (f 0 : Nat), .int .u64 (f 1 : Nat), .int .u64 (f 2 : Nat), .int .u64 (f 3 : Nat), .int .u64 (f 4 : Nat), .int .u64 (f 5 : Nat), .int .u64 (f 6 : Nat), .int .u64 (f 7 : Nat)]
theorem index8 (f : Nat → Nat) {k : Nat} (hk : k < 8) (w : World) : (Instr.index 45 (sv f) (.int .i64 (k : Nat))).run Tryd.prog w = .ok (.int .u64 (f k : Nat)) w := by
  rcases lt8 hk with rfl | rfl | rfl | rfl | rfl | rfl | rfl | rfl <;> kernel_rfl
theorem SetB.cells {w : World} {g N : Nat} (h : SetB w g N) : w.cell? ⟨g, 0, none⟩ = some (.int .u64 (wd N 0 : Nat)) ∧ w.cell? ⟨g, 1, none⟩ = some (.int .u64 (wd N 1 : Nat)) ∧ w.cell? ⟨g, 2, none⟩ = some (.int .u64 (wd N 2 : Nat)) ∧ w.cell? ⟨g, 3, none⟩ = some (.int .u64 (wd N 3 : Nat)) ∧
    w.cell? ⟨g, 4, none⟩ = some (.int .u64 (wd N 4 : Nat)) ∧ w.cell? ⟨g, 5, none⟩ = some (.int .u64 (wd N 5 : Nat)) ∧ w.cell? ⟨g, 6, none⟩ = some (.int .u64 (wd N 6 : Nat)) ∧ w.cell? ⟨g, 7, none⟩ = some (.int .u64 (wd N 7 : Nat)) :=
  ⟨Row.cell h rfl, Row.cell h rfl, Row.cell h rfl, Row.cell h rfl, Row.cell h rfl, Row.cell h rfl, Row.cell h rfl, Row.cell h rfl⟩

/-- How many, in the first k words. -/
def cnt (N : Nat) : Nat → Nat
  | 0 => 0
  | k + 1 => cnt N k + ones (wd N k)
theorem cnt_le (N k : Nat) : cnt N k ≤ 127 * k := by
  induction k with
  | zero => exact Nat.le_refl _
  | succ k ih =>
    have := ones_lt (wd N k)
    show cnt N k + ones (wd N k) ≤ _
    omega
theorem cnt_zero {N : Nat} (h : els N = []) (k : Nat) (hk : k ≤ 8) : cnt N k = 0 := by
  induction k with
  | zero => rfl
  | succ k ih =>
    show cnt N k + ones (wd N k) = 0
    rw [ih (by omega), els_nil h k (by omega), ones_zero]
theorem cnt_eq {N : Nat} (h : cnt N 8 = 0) : els N = [] := by
  have key : ∀ k, k ≤ 8 → cnt N k = 0 := by
    intro k hk
    have : ∀ d, cnt N k ≤ cnt N (k + d) := by
      intro d
      induction d with
      | zero => exact Nat.le_refl _
      | succ d ih => exact Nat.le_trans ih (Nat.le_add_right _ _)
    have := this (8 - k)
    rw [show k + (8 - k) = 8 by omega, h] at this
    omega
  refine wd_all fun i hi => ones_eq (wd_lt N i) ?_
  have h1 := key (i + 1) (by omega)
  have h2 : cnt N (i + 1) = cnt N i + ones (wd N i) := rfl
  omega

/-- The first k words turned, by an operation on words. -/
def mixF (op : Nat → Nat → Nat) (N M k : Nat) : Nat → Nat := fun i => if i < k then op (wd N i) (wd M i) else wd N i
theorem mix_start (op : Nat → Nat → Nat) (N M : Nat) : w8 (mixF op N M 0) = w8 (wd N) := w8_congr fun i _ => by simp [mixF]
theorem mix_end (op : Nat → Nat → Nat) (N M : Nat) : w8 (mixF op N M 8) = w8 fun i => op (wd N i) (wd M i) := w8_congr fun i hi => by simp [mixF, hi]
theorem mix_at (op : Nat → Nat → Nat) (N M k : Nat) : mixF op N M k k = wd N k := by simp [mixF]
theorem mix_set (op : Nat → Nat → Nat) (N M : Nat) {k : Nat} (hk : k < 8) : (w8 (mixF op N M k)).set k (.int .u64 (op (wd N k) (wd M k) : Nat)) = w8 (mixF op N M (k + 1)) := by
  rw [w8_set _ hk]
  apply w8_congr
  intro i hi
  unfold mixF
  by_cases h : i = k
  · subst h; simp
  · rw [if_neg h]
    by_cases h' : i < k
    · rw [if_pos h', if_pos (by omega)]
    · rw [if_neg h', if_neg (by omega)]

/-- What the loops on words keep. -/
def MixRel (op : Nat → Nat → Nat) (g N M : Nat) (W : World) (i : Value) (wr : World) : Prop :=
  ∃ k : Nat, k ≤ 8 ∧ i = .int .i64 k ∧ Row wr g 47 (w8 (mixF op N M k)) ∧ W.grownBy wr (some g)
theorem MixRel.next {op : Nat → Nat → Nat} {g N M k : Nat} {W wr : World} {v : Value} (hk : k < 8) (hr : Hid (Row wr g 47 (w8 (mixF op N M k)))) (K : Hid ((w8 (mixF op N M k)).set k v = w8 (mixF op N M (k + 1)))) (hg : Hid (W.grownBy wr (some g))) :
    MixRel op g N M W (.int .i64 ((k : Int) + 1)) (wr.setCell ⟨g, k, none⟩ v).drew := by
  refine ⟨k + 1, by omega, by go_num, ?_, grown_drawn (grown_put hg.out k v) 1⟩
  have := (Row.set_ hr.out k v).drew
  rw [K.out] at this
  exact this

end Go.Proofs.YthaabgiefpfeaaaDoor
end
