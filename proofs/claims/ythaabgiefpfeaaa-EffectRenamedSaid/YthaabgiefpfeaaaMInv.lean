import Derived.Test.YthaabgiefpfeaaaMOwn
import Derived.Orders
set_option linter.unusedVariables false
set_option linter.unusedSimpArgs false
section
/-
  A region whose order is open, by an invariant: if each operation that may come up keeps it, it holds at the end, whatever the order. No function of the program is named here.
-/
namespace Go.Proofs.Ythaabgiefpfeaaa
open Go.RowKit

theorem countP_lt {α : Type} {p q : α → Bool} : ∀ {xs : List α} {i : α}, (∀ x ∈ xs, q x = true → p x = true) → i ∈ xs → p i = true → q i = false → xs.countP q < xs.countP p := by
  intro xs
  induction xs with
  | nil => intro i _ hi; cases hi
  | cons y r ih =>
    intro i h hi hp hq
    have hle : r.countP q ≤ r.countP p := List.countP_mono_left fun x hx => h x (List.mem_cons_of_mem _ hx)
    rw [List.countP_cons, List.countP_cons]
    rcases List.mem_cons.1 hi with rfl | hi
    · rw [hp, hq]; simp; omega
    · have := ih (fun x hx => h x (List.mem_cons_of_mem _ hx)) hi hp hq
      have hy := h y List.mem_cons_self
      cases e : q y with
      | false => simp; split <;> omega
      | true => rw [hy e]; simp; omega

theorem getD_set (l : Array Bool) (i j : Nat) : (l.setIfInBounds i true).getD j true = (decide (i = j) || l.getD j true) := by
  simp only [Array.getD_eq_getD_getElem?, Array.getElem?_setIfInBounds]
  by_cases e : i = j
  · subst e
    by_cases h : i < l.size <;> simp [h]
  · simp [e]

/-- How many operations have not come up. -/
def leftOf (n : Nat) (l : Array Bool) : Nat := (List.range n).countP fun i => !l.getD i true
theorem leftOf_set {ops : Array Oper} {md : Region.Mode} {l : Array Bool} {i : Nat} (hi : i ∈ Region.ready md ops l) : leftOf ops.size (l.setIfInBounds i true) < leftOf ops.size l := by
  unfold Region.ready at hi
  obtain ⟨h1, h2⟩ := List.mem_filter.1 hi
  simp only [Bool.and_eq_true, Bool.not_eq_true'] at h2
  refine countP_lt (i := i) (fun x _ hx => ?_) h1 (by simp [h2.1]) (by simp)
  simp only [getD_set, Bool.not_or, Bool.and_eq_true] at hx
  exact hx.2
theorem ready_none {ops : Array Oper} {md : Region.Mode} {l : Array Bool} (h : leftOf ops.size l = 0) : Region.ready md ops l = [] := by
  unfold Region.ready
  refine List.filter_eq_nil_iff.2 fun x hx => ?_
  have := List.countP_eq_zero.1 h x hx
  simp only [Bool.not_eq_true, Bool.not_eq_false'] at this
  simp [this]

theorem wpAny_inv {P : Program} {Q : Exit → Act → World → Prop} {ops : Array Oper} (I : Array Bool → Act → World → Prop)
    (hs : ∀ l a w, I l a w → ∀ i ∈ Region.ready .any ops l, ∀ K : Act → World → Prop, (∀ a' w', I (l.setIfInBounds i true) a' w' → K a' w') → wpOp P ops Q i K a w)
    (he : ∀ l a w, I l a w → Region.ready .any ops l = [] → Q .normal a w) : ∀ (fuel : Nat) (l : Array Bool) (a : Act) (w : World), I l a w → leftOf ops.size l ≤ fuel → wpAny P .any ops Q fuel l a w := by
  intro fuel
  induction fuel with
  | zero => exact fun l a w h hl => ⟨ready_none (by omega), he l a w h (ready_none (by omega))⟩
  | succ fuel ih =>
    intro l a w h hl
    refine ⟨he l a w h, fun i hi => hs l a w h i hi _ fun a' w' h' => ih _ _ _ h' ?_⟩
    have := leftOf_set hi
    omega

theorem wp_region_inv {P : Program} {id : Nat} {Q : Exit → Act → World → Prop} {a : Act} {w : World} {ops : Array Oper} (hm : P.follows .mixedOrders = true) (I : Array Bool → Act → World → Prop)
    (h0 : I (Array.replicate ops.size false) a w.drew)
    (hs : ∀ l a w, I l a w → ∀ i ∈ Region.ready .any ops l, ∀ K : Act → World → Prop, (∀ a' w', I (l.setIfInBounds i true) a' w' → K a' w') → wpOp P ops Q i K a w)
    (he : ∀ l a w, I l a w → Region.ready .any ops l = [] → Q .normal a w) : (Code.region id ops true).wp P Q a w :=
  wp_region_any hm (wpAny_inv I hs he _ _ _ _ h0 (Nat.le_trans List.countP_le_length (by simp)))

/-- An operation without a guard. -/
theorem wpOp_plain {P : Program} {Q : Exit → Act → World → Prop} {ops : Array Oper} {i : Nat} {o : Oper} {K : Act → World → Prop} {a : Act} {w : World} (hi : ops[i]? = some o) (hg : o.guard = none) (h : o.wp P a w K Q) : wpOp P ops Q i K a w := by
  unfold wpOp
  simp only [hi]
  rw [if_pos (by simp [Region.wanted, hg])]
  exact .inl h
/-- What may come up has not come up, and what it waits for has. -/
theorem ready_of {ops : Array Oper} {l : Array Bool} {i : Nat} (hi : i ∈ Region.ready .any ops l) : l.getD i true = false ∧ ∃ o, ops[i]? = some o ∧ o.after.all (fun e => !Region.binds .any e || l.getD e.on false) = true := by
  unfold Region.ready at hi
  obtain ⟨_, h2⟩ := List.mem_filter.1 hi
  simp only [Bool.and_eq_true, Bool.not_eq_true'] at h2
  cases ho : ops[i]? with
  | none => rw [ho] at h2; simp at h2
  | some o => rw [ho] at h2; exact ⟨h2.1, o, rfl, by simpa using h2.2⟩
theorem ready_lt {ops : Array Oper} {l : Array Bool} {i : Nat} (hi : i ∈ Region.ready .any ops l) : i < ops.size := by
  unfold Region.ready at hi
  exact List.mem_range.1 (List.mem_filter.1 hi).1
theorem ready_mk {ops : Array Oper} {l : Array Bool} {i : Nat} {o : Oper} (ho : ops[i]? = some o) (h : l.getD i true = false) (ha : o.after.all (fun e => !Region.binds .any e || l.getD e.on false) = true) : i ∈ Region.ready .any ops l := by
  unfold Region.ready
  refine List.mem_filter.2 ⟨List.mem_range.2 (Array.getElem?_eq_some_iff.1 ho).1, ?_⟩
  rw [ho]
  simp only [Option.map_some, Option.getD_some, h, ha, Bool.not_false, Bool.and_self]
theorem ready_no {ops : Array Oper} {l : Array Bool} {i : Nat} {o : Oper} (hr : Region.ready .any ops l = []) (ho : ops[i]? = some o) (h : l.getD i true = false) (ha : o.after.all (fun e => !Region.binds .any e || l.getD e.on false) = true) : False := by
  have := ready_mk ho h ha
  rw [hr] at this
  cases this
end Go.Proofs.Ythaabgiefpfeaaa
end
