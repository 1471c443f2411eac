import Derived.Test.YtipjeihfhnilcaaMKrmove
import Derived.Test.YtipjeihfhnilcaaMKnew
import Derived.Test.YtipjeihfhnilcaaMKsame
import Derived.Laws.IdiomCopy
set_option linter.unusedVariables false
set_option linter.unusedSimpArgs false
section
/-
  What the laws on stacks use: a stack is kept over a store into a box; the stacks of the laws as mathematics; awake. Conditions: those of the types.
-/
namespace Go.Proofs.Ytipjeihfhnilcaa
open Go.RowKit
attribute [local go_sem ↓] Go.wp_at_zero Go.wp_at_succ

/-- A cell that holds no byte and no truth value. -/
def boxy : Value → Bool
  | .int .u8 _ => false
  | .bool _ => false
  | _ => true
theorem Sees.put {w : World} {B g j : Nat} {A : Option Addr} {xs : List Value} {u0 u : Value} (h : Sees w B A xs) (hc : w.cell? ⟨g, j, none⟩ = some u0) (hne : ∀ x ∈ xs, x ≠ u0) : Sees (w.setCell ⟨g, j, none⟩ u) B A xs := by
  intro k v hk
  obtain ⟨b, off, e, hb, hcell⟩ := h k v hk
  refine ⟨b, off, e, hb, ?_⟩
  by_cases hp : (⟨b, off + k, none⟩ : Addr) = ⟨g, j, none⟩
  · rw [hp] at hcell
    rw [hcell] at hc
    injection hc with hc
    exact absurd hc (hne v (List.mem_of_getElem? hk))
  · have := World.cell?_setCells_out g [u] j w ⟨b, off + k, none⟩ (fun h1 _ => by
      dsimp only at h1 ⊢
      subst h1
      rcases Nat.lt_trichotomy (off + k) j with h2 | h2 | h2
      · exact .inl h2
      · exact absurd (by rw [h2]) hp
      · exact .inr (by simp; omega))
    exact (show (w.setCell ⟨g, j, none⟩ u).cell? ⟨b, off + k, none⟩ = _ from this).trans hcell
theorem StkAt.put {w : World} {A1 A2 : Option Addr} {c1 c2 g j : Nat} {S : Sk} {u0 : Value} (h : StkAt w w.heap.size A1 c1 A2 c2 S) (hc : w.cell? ⟨g, j, none⟩ = some u0) (hu : boxy u0 = true) (u : Value) : StkAt (w.setCell ⟨g, j, none⟩ u) (w.setCell ⟨g, j, none⟩ u).heap.size A1 c1 A2 c2 S := by
  have e : (w.setCell ⟨g, j, none⟩ u).heap.size = w.heap.size := by simp [World.setCell]
  rw [e]
  refine ⟨h.ok, h.k1, h.k2, h.m1, h.m2, h.s1.put hc ?_, h.s2.put hc ?_⟩
  · intro x hx
    simp only [cellsU8, List.mem_map] at hx
    obtain ⟨z, _, rfl⟩ := hx
    rintro rfl
    cases hu
  · intro x hx
    simp only [cellsB, List.mem_map] at hx
    obtain ⟨z, _, rfl⟩ := hx
    rintro rfl
    cases hu

set_option maxHeartbeats 1000000 in
theorem awake9_any (w : World) : Calls Try.prog 7 #[] w fun e w' => e = .returned (.bool true) ∧ Below w.heap.size w w' := by
  have cn := stknew_any 40 16
  have hE : newE 40 16 = 0 := by decide
  have h1 : (newR 40 16).bs.length = 40 := by decide
  have h2 : (newR 40 16).sp = 32 := by decide
  obtain ⟨S, hS⟩ : ∃ S, newR 40 16 = S := ⟨_, rfl⟩
  rw [hE, hS] at cn
  rw [hS] at h1 h2
  clear hE hS
  go_enter Try.func7, Try.ntmps7
  go_wp2_with fail
  refine (cn _).mono ?_
  rintro e w1 ⟨A1, c1, A2, c2, rfl, hS, hb⟩
  have hn := hide hS.m1
  clear hS
  go_wp2_with fail
  go_ret
  exact ⟨by simp [h1, h2], hb.alloc hb.size _⟩
end Go.Proofs.Ytipjeihfhnilcaa
end
