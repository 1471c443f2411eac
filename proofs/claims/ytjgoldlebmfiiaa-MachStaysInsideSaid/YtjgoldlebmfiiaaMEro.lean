import Derived.Test.YtjgoldlebmfiiaaMKg
import Derived.Laws.AppendOwn
set_option linter.unusedVariables false
set_option linter.unusedSimpArgs false
section
/-
  Lists of error codes of a call's own. No function of the program is named here.
-/
namespace Go.Proofs.Ytjgoldlebmfiiaa
open Go.RowKit

theorem Try.info42 : (Try.prog.info? 42).map (fun i => (i.zero, i.size, i.bytes)) = some (some (.int .i64 0), 1, 8) := by kernel_rfl
/-- A list of error codes of the call's own. -/
def ErrsPost (zs : List Int) (w : World) (e : Ending) (w' : World) : Prop := ∃ (A : Option Addr) (c : Nat), e = .returned (.slice A zs.length c) ∧ Sees w' w'.heap.size A (cellsE zs) ∧ Below w.heap.size w w'
theorem three_new (w : World) (x y z : Value) (t : TypeId) (B : Nat) (hB : B ≤ w.heap.size) : (w.alloc (.cells #[x, y, z] t)).ownsRow B t 1 (.slice (some ⟨w.heap.size, 0, none⟩) 3 3) 3 [x, y, z] :=
  ⟨rfl, .inr ⟨w.heap.size, 3, #[x, y, z], rfl, hB, heap_alloc_new w _, by omega, by unfold maxLen; omega, rfl, rfl⟩⟩
theorem own_sees {w : World} {B : Nat} {t : TypeId} {v : Value} {n : Nat} {xs : List Value} (h : w.ownsRow B t 1 v n xs) : ∃ A c, v = .slice A n c ∧ Sees w w.heap.size A xs := by
  obtain ⟨A, c, rfl, _, _⟩ := own_form h
  exact ⟨A, c, rfl, Sees.own h⟩

theorem sees_grown (w : World) (xs : List Value) (t : TypeId) (r : Array Value) {k : Nat} (hk : k = w.heap.size) : Sees (w.alloc (.cells (xs.toArray ++ r) t)).drew (w.alloc (.cells (xs.toArray ++ r) t)).drew.heap.size (some ⟨k, 0, none⟩) xs := fun j u hj => by
  subst hk
  refine ⟨w.heap.size, 0, rfl, by show w.heap.size < (w.alloc _).heap.size; simp, ?_⟩
  show (w.alloc (.cells (xs.toArray ++ r) t)).cell? _ = _
  have h := (Row.new w t (xs ++ r.toList)).cell (k := 0 + j) (v := u) (by
    rw [Nat.zero_add]
    have hl : j < xs.length := by
      rcases Nat.lt_or_ge j xs.length with h1 | h1
      · exact h1
      · rw [List.getElem?_eq_none h1] at hj; cases hj
    rw [List.getElem?_append_left hl]; exact hj)
  have e : (xs ++ r.toList).toArray = xs.toArray ++ r := by simp
  rw [e] at h
  exact h
end Go.Proofs.Ytjgoldlebmfiiaa
end
