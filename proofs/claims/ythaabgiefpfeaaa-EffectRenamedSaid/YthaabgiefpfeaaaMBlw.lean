import Derived.Test.YthaabgiefpfeaaaMBlists
set_option linter.unusedVariables false
set_option linter.unusedSimpArgs false
section
/-
  The laws of sets as lists. No function of the program is named here.
-/
namespace Go.Proofs.Ythaabgiefpfeaaa
open Go.RowKit
theorem meet_asc {a b : List Int} (h : Asc a) : Asc (meetL a b) := filter_asc _ h
theorem minus_asc {a b : List Int} (h : Asc a) : Asc (minusL a b) := filter_asc _ h
theorem remove_asc {a : List Int} {x : Int} (h : Asc a) : Asc (removeL a x) := filter_asc _ h
theorem mem_meet {a b : List Int} {z : Int} : z ∈ meetL a b ↔ z ∈ a ∧ z ∈ b := by simp [meetL]
theorem mem_minus {a b : List Int} {z : Int} : z ∈ minusL a b ↔ z ∈ a ∧ z ∉ b := by simp [minusL]
theorem mem_union {a b : List Int} (hb : Asc b) {z : Int} : z ∈ unionL a b ↔ z ∈ a ∨ z ∈ b := by
  rw [mem_unionL]
  constructor
  · rintro (h | h)
    · exact .inl h
    · exact .inr h.1
  · rintro (h | h)
    · exact .inl h
    · exact .inr ⟨h, hb.2 z h⟩
theorem absorb1 {x y : List Int} (hx : Asc x) (hy : Asc y) : meetL x (unionL x y) = x :=
  (meet_asc hx).ext hx fun z _ _ => by
    rw [mem_meet, mem_union hy]
    exact ⟨fun h => h.1, fun h => ⟨h, .inl h⟩⟩
theorem absorb2 {x y : List Int} (hx : Asc x) : unionL x (meetL x y) = x :=
  (unionL_asc hx).ext hx fun z _ _ => by
    rw [mem_union (meet_asc hx), mem_meet]
    exact ⟨fun h => h.elim id And.left, .inl⟩
theorem spread {x y z : List Int} (hx : Asc x) (hz : Asc z) : meetL x (unionL y z) = unionL (meetL x y) (meetL x z) :=
  (meet_asc hx).ext (unionL_asc (meet_asc hx)) fun v _ _ => by
    rw [mem_meet, mem_union hz, mem_union (meet_asc hx), mem_meet, mem_meet]
    constructor
    · rintro ⟨h, h1 | h1⟩
      · exact .inl ⟨h, h1⟩
      · exact .inr ⟨h, h1⟩
    · rintro (⟨h, h1⟩ | ⟨h, h1⟩)
      · exact ⟨h, .inl h1⟩
      · exact ⟨h, .inr h1⟩
theorem parts {x y : List Int} (hx : Asc x) : unionL (minusL x y) (meetL x y) = x :=
  (unionL_asc (minus_asc hx)).ext hx fun v _ _ => by
    rw [mem_union (meet_asc hx), mem_minus, mem_meet]
    constructor
    · rintro (h | h)
      · exact h.1
      · exact h.1
    · intro h
      by_cases hy : v ∈ y
      · exact .inr ⟨h, hy⟩
      · exact .inl ⟨h, hy⟩
theorem apart {x y : List Int} : meetL (minusL x y) y = [] := by
  rw [List.eq_nil_iff_forall_not_mem]
  intro v hv
  rw [mem_meet, mem_minus] at hv
  exact hv.1.2 hv.2
theorem morgan {x y z : List Int} (hx : Asc x) (hz : Asc z) : minusL x (unionL y z) = minusL (minusL x y) z :=
  (minus_asc hx).ext (minus_asc (minus_asc hx)) fun v _ _ => by
    rw [mem_minus, mem_union hz, mem_minus, mem_minus]
    constructor
    · rintro ⟨h, h1⟩
      exact ⟨⟨h, fun h2 => h1 (.inl h2)⟩, fun h2 => h1 (.inr h2)⟩
    · rintro ⟨⟨h, h1⟩, h2⟩
      exact ⟨h, fun h3 => h3.elim h1 h2⟩
theorem minus_nil {x y : List Int} : minusL x y = [] ↔ ∀ v ∈ x, v ∈ y := by
  rw [List.eq_nil_iff_forall_not_mem]
  constructor
  · intro h v hv
    by_cases hy : v ∈ y
    · exact hy
    · exact absurd (mem_minus.2 ⟨hv, hy⟩) (h v)
  · intro h v hv
    rw [mem_minus] at hv
    exact hv.2 (h v hv.1)
theorem within_union {x y : List Int} (hx : Asc x) (hy : Asc y) : decide (minusL x y = []) = decide (unionL x y = y) := by
  congr 1
  apply propext
  rw [minus_nil]
  constructor
  · intro h
    refine (unionL_asc hx).ext hy fun v _ _ => ?_
    rw [mem_union hy]
    exact ⟨fun h' => h'.elim (h v) id, .inr⟩
  · intro h v hv
    rw [← h, mem_union hy]
    exact .inl hv
theorem meet_within {a b : List Int} : decide (minusL (meetL a b) b = []) = true := by
  rw [decide_eq_true_iff, minus_nil]
  intro v hv
  exact (mem_meet.1 hv).2

end Go.Proofs.Ythaabgiefpfeaaa
end

section
/-
  What an instruction does to slots, as mathematics: what it reads, writes; what may be read ahead of it; its renaming; the laws of that. No function of the program is named here.
-/
namespace Go.Proofs.Ythaabgiefpfeaaa
open Go.RowKit

/-- The operation reads its operand B as a slot; writes its operand A as one. -/
def useB (o : Int) : Bool := decide (o = 15 ∨ o = 17)
def defB (o : Int) : Bool := decide (o = 16 ∨ o = 17)
def usL (o b : Int) : List Int := if useB o then [b] else []
def dfI (o a : Int) : Int := if defB o then a else 0
/-- What may be read ahead of the instruction. -/
def outL (o a : Int) (l : List Int) : List Int := if defB o then removeL l a else l
def inL (o a b : Int) (l : List Int) : List Int := unionL (outL o a l) (usL o b)
theorem asc_one {b : Int} (h0 : 0 ≤ b) (h1 : b < 512) : Asc [b] := ⟨by simp, fun z hz => by simp at hz; omega⟩
theorem usL_asc (o : Int) {b : Int} (h0 : 0 ≤ b) (h1 : b < 512) : Asc (usL o b) := by
  unfold usL
  split
  · exact asc_one h0 h1
  · exact Asc.nil
theorem outL_asc (o a : Int) {l : List Int} (h : Asc l) : Asc (outL o a l) := by
  unfold outL
  split
  · exact remove_asc h
  · exact h
theorem inL_asc (o a b : Int) {l : List Int} (h : Asc l) : Asc (inL o a b l) := unionL_asc (outL_asc o a h)
theorem mem_outL {o a z : Int} {l : List Int} : z ∈ outL o a l ↔ z ∈ l ∧ ¬ (defB o = true ∧ z = a) := by
  unfold outL
  split <;> rename_i h
  · simp [removeL, h]
  · simp [h]
theorem mem_inL {o a b z : Int} {l : List Int} (h0 : 0 ≤ b) (h1 : b < 512) : z ∈ inL o a b l ↔ (z ∈ l ∧ ¬ (defB o = true ∧ z = a)) ∨ z ∈ usL o b := by
  unfold inL
  rw [mem_union (usL_asc o h0 h1), mem_outL]
/-- Of a union it is the union. -/
theorem inL_union {o a b : Int} {l m : List Int} (h0 : 0 ≤ b) (h1 : b < 512) (hl : Asc l) (hm : Asc m) : inL o a b (unionL l m) = unionL (inL o a b l) (inL o a b m) :=
  (inL_asc o a b (unionL_asc hl)).ext (unionL_asc (inL_asc o a b hl)) fun z _ _ => by
    rw [mem_union (inL_asc o a b hm), mem_inL h0 h1, mem_inL h0 h1, mem_inL h0 h1, mem_union hm]
    constructor
    · rintro (⟨h | h, k⟩ | h)
      · exact .inl (.inl ⟨h, k⟩)
      · exact .inr (.inl ⟨h, k⟩)
      · exact .inl (.inr h)
    · rintro ((h | h) | (h | h))
      · exact .inl ⟨.inl h.1, h.2⟩
      · exact .inr h
      · exact .inl ⟨.inr h.1, h.2⟩
      · exact .inr h
/-- A smaller set gives a smaller one. -/
theorem inL_meet {o a b : Int} {l m : List Int} (h0 : 0 ≤ b) (h1 : b < 512) : minusL (inL o a b (meetL l m)) (inL o a b l) = [] := by
  rw [minus_nil]
  intro z hz
  rw [mem_inL h0 h1] at hz ⊢
  rcases hz with h | h
  · exact .inl ⟨(mem_meet.1 h.1).1, h.2⟩
  · exact .inr h
/-- A slot renamed by a list. -/
def plZ (to_ : List Int) (s : Int) : Int := if 0 ≤ s then to_.getD s.toNat s else s
def rnA (o a : Int) (to_ : List Int) : Int := if defB o then plZ to_ a else a
def rnB (o b : Int) (to_ : List Int) : Int := if useB o then plZ to_ b else b
theorem plZ_in {to_ : List Int} {s : Int} (h0 : 0 ≤ s) (h1 : s.toNat < to_.length) : plZ to_ s = to_[s.toNat] := by
  unfold plZ
  rw [if_pos h0, List.getD_eq_getElem?_getD, List.getElem?_eq_getElem h1]
  rfl
theorem plZ_out {to_ : List Int} {s : Int} (h : s < 0 ∨ (to_.length : Int) ≤ s) : plZ to_ s = s := by
  unfold plZ
  split
  · rw [List.getD_eq_getElem?_getD, List.getElem?_eq_none (by omega)]
    rfl
  · rfl
theorem plZ_nil (s : Int) : plZ [] s = s := plZ_out (by simp; omega)
theorem plZ_same (s : Int) : plZ [0, 1, 2, 3, 4, 5, 6, 7, 8] s = s := by
  by_cases h : 0 ≤ s ∧ s < 9
  · obtain ⟨k, rfl⟩ := Int.eq_ofNat_of_zero_le h.1
    have hk : k < 9 := by omega
    rcases k with _ | _ | _ | _ | _ | _ | _ | _ | _ | k <;> first | rfl | omega
  · exact plZ_out (by simp; omega)
theorem rnA_nil (o a : Int) : rnA o a [] = a := by simp [rnA, plZ_nil]
theorem rnB_nil (o b : Int) : rnB o b [] = b := by simp [rnB, plZ_nil]
theorem rnA_same (o a : Int) : rnA o a [0, 1, 2, 3, 4, 5, 6, 7, 8] = a := by simp only [rnA, plZ_same, ite_self]
theorem rnB_same (o b : Int) : rnB o b [0, 1, 2, 3, 4, 5, 6, 7, 8] = b := by simp only [rnB, plZ_same, ite_self]
end Go.Proofs.Ythaabgiefpfeaaa
end
