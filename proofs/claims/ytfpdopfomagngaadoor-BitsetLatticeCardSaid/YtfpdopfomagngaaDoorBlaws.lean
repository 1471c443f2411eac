/-
  The contracts of bitset's and the reference's functions at sets, both told in the same words; the laws of sets as lists. Conditions: the arguments are sets; the table of TrailingZeros64 lies as its initialiser lays it.
-/
import Derived.Test.YtfpdopfomagngaaDoorBdraw
import Derived.Test.YtfpdopfomagngaaDoorMod
namespace Go.Proofs.YtfpdopfomagngaaDoor
open Go.RowKit

theorem meet_asc {a b : List Int} (h : Asc a) : Asc (meetL a b) := filter_asc _ h
theorem minus_asc {a b : List Int} (h : Asc a) : Asc (minusL a b) := filter_asc _ h
theorem remove_asc {a : List Int} {x : Int} (h : Asc a) : Asc (removeL a x) := filter_asc _ h
theorem mem_meet {a b : List Int} {z : Int} : z ∈ meetL a b ↔ z ∈ a ∧ z ∈ b := by simp [meetL]
theorem mem_minus {a b : List Int} {z : Int} : z ∈ minusL a b ↔ z ∈ a ∧ z ∉ b := by simp [minusL]
theorem mem_union {a b : List Int} (hb : Asc b) {z : Int} : z ∈ unionL a b ↔ z ∈ a ∨ z ∈ b := by
  rw [mem_unionL]
  constructor
  · rintro (h | h)
    · exact .inl h
    · exact .inr h.1
  · rintro (h | h)
    · exact .inl h
    · exact .inr ⟨h, hb.2 z h⟩
theorem absorb1 {x y : List Int} (hx : Asc x) (hy : Asc y) : meetL x (unionL x y) = x :=
  (meet_asc hx).ext hx fun z _ _ => by
    rw [mem_meet, mem_union hy]
    exact ⟨fun h => h.1, fun h => ⟨h, .inl h⟩⟩
theorem absorb2 {x y : List Int} (hx : Asc x) : unionL x (meetL x y) = x :=
  (unionL_asc hx).ext hx fun z _ _ => by
    rw [mem_union (meet_asc hx), mem_meet]
    exact ⟨fun h => h.elim id And.left, .inl⟩
theorem spread {x y z : List Int} (hx : Asc x) (hz : Asc z) : meetL x (unionL y z) = unionL (meetL x y) (meetL x z) :=
  (meet_asc hx).ext (unionL_asc (meet_asc hx)) fun v _ _ => by
    rw [mem_meet, mem_union hz, mem_union (meet_asc hx), mem_meet, mem_meet]
    constructor
    · rintro ⟨h, h1 | h1⟩
      · exact .inl ⟨h, h1⟩
      · exact .inr ⟨h, h1⟩
    · rintro (⟨h, h1⟩ | ⟨h, h1⟩)
      · exact ⟨h, .inl h1⟩
      · exact ⟨h, .inr h1⟩
theorem parts {x y : List Int} (hx : Asc x) : unionL (minusL x y) (meetL x y) = x :=
  (unionL_asc (minus_asc hx)).ext hx fun v _ _ => by
    rw [mem_union (meet_asc hx), mem_minus, mem_meet]
    constructor
    · rintro (h | h)
      · exact h.1
      · exact h.1
    · intro h
      by_cases hy : v ∈ y
      · exact .inr ⟨h, hy⟩
      · exact .inl ⟨h, hy⟩
theorem apart {x y : List Int} : meetL (minusL x y) y = [] := by
  rw [List.eq_nil_iff_forall_not_mem]
  intro v hv
  rw [mem_meet, mem_minus] at hv
  exact hv.1.2 hv.2
theorem morgan {x y z : List Int} (hx : Asc x) (hz : Asc z) : minusL x (unionL y z) = minusL (minusL x y) z :=
  (minus_asc hx).ext (minus_asc (minus_asc hx)) fun v _ _ => by
    rw [mem_minus, mem_union hz, mem_minus, mem_minus]
    constructor
    · rintro ⟨h, h1⟩
      exact ⟨⟨h, fun h2 => h1 (.inl h2)⟩, fun h2 => h1 (.inr h2)⟩
    · rintro ⟨⟨h, h1⟩, h2⟩
      exact ⟨h, fun h3 => h3.elim h1 h2⟩
theorem minus_nil {x y : List Int} : minusL x y = [] ↔ ∀ v ∈ x, v ∈ y := by
  rw [List.eq_nil_iff_forall_not_mem]
  constructor
  · intro h v hv
    by_cases hy : v ∈ y
    · exact hy
    · exact absurd (mem_minus.2 ⟨hv, hy⟩) (h v)
  · intro h v hv
    rw [mem_minus] at hv
    exact hv.2 (h v hv.1)
theorem within_union {x y : List Int} (hx : Asc x) (hy : Asc y) : decide (minusL x y = []) = decide (unionL x y = y) := by
  congr 1
  apply propext
  rw [minus_nil]
  constructor
  · intro h
    refine (unionL_asc hx).ext hy fun v _ _ => ?_
    rw [mem_union hy]
    exact ⟨fun h' => h'.elim (h v) id, .inr⟩
  · intro h v hv
    rw [← h, mem_union hy]
    exact .inl hv
theorem meet_within {a b : List Int} : decide (minusL (meetL a b) b = []) = true := by
  rw [decide_eq_true_iff, minus_nil]
  intro v hv
  exact (mem_meet.1 hv).2

section
variable {A A' : Option Addr} {n n' : Nat} {a b r : List Int} {w : World}
theorem t_union (c c' : Nat) (h : Hid (Lst w A n a)) (h' : Hid (Lst w A' n' b)) (ha : Hid (Asc a)) (hb : Hid (Asc b)) (hT : Hid (Tab w)) (hr : Hid (unionL a b = r)) : Calls Tryd.prog 24 #[.slice A n c, .slice A' n' c'] w (OutPost r w) := by
  have := top_union_any A n c a A' n' c' b w h h' hT
  rwa [els_union ha.out hb.out, hr.out] at this
theorem t_meet (c c' : Nat) (h : Hid (Lst w A n a)) (h' : Hid (Lst w A' n' b)) (ha : Hid (Asc a)) (hT : Hid (Tab w)) (hr : Hid (meetL a b = r)) : Calls Tryd.prog 26 #[.slice A n c, .slice A' n' c'] w (OutPost r w) := by
  have := top_meet_any A n c a A' n' c' b w h h' hT
  rwa [els_meet ha.out, hr.out] at this
theorem t_minus (c c' : Nat) (h : Hid (Lst w A n a)) (h' : Hid (Lst w A' n' b)) (ha : Hid (Asc a)) (hT : Hid (Tab w)) (hr : Hid (minusL a b = r)) : Calls Tryd.prog 28 #[.slice A n c, .slice A' n' c'] w (OutPost r w) := by
  have := top_minus_any A n c a A' n' c' b w h h' hT
  rwa [els_minus ha.out, hr.out] at this
theorem t_within (c c' : Nat) {v : Bool} (h : Hid (Lst w A n a)) (h' : Hid (Lst w A' n' b)) (ha : Hid (Asc a)) (hr : Hid (decide (minusL a b = []) = v)) : Calls Tryd.prog 30 #[.slice A n c, .slice A' n' c'] w fun e w' => e = .returned (.bool v) ∧ Below w.heap.size w w' := by
  have := top_within_any A n c a A' n' c' b w h h'
  rwa [els_minus ha.out, hr.out] at this
theorem t_add (c : Nat) {x : Int} (h : Hid (Lst w A n a)) (ha : Hid (Asc a)) (x0 : -9223372036854775808 ≤ x) (x1 : x ≤ 9223372036854775807) (hT : Hid (Tab w)) (hr : Hid (addL a x = r)) : Calls Tryd.prog 20 #[.slice A n c, .int .i64 x] w (OutPost r w) := by
  have := top_add_any A n c a x w h x0 x1 hT
  rwa [els_add ha.out, hr.out] at this
theorem t_remove (c : Nat) {x : Int} (h : Hid (Lst w A n a)) (ha : Hid (Asc a)) (x0 : -9223372036854775808 ≤ x) (x1 : x ≤ 9223372036854775807) (hT : Hid (Tab w)) (hr : Hid (removeL a x = r)) : Calls Tryd.prog 22 #[.slice A n c, .int .i64 x] w (OutPost r w) := by
  have := top_remove_any A n c a x w h x0 x1 hT
  rwa [els_remove ha.out, hr.out] at this
theorem t_has (c : Nat) {x : Int} {v : Bool} (h : Hid (Lst w A n a)) (ha : Hid (Asc a)) (x0 : -9223372036854775808 ≤ x) (x1 : x ≤ 9223372036854775807) (hr : Hid (hasB a x = v)) : Calls Tryd.prog 18 #[.slice A n c, .int .i64 x] w fun e w' => e = .returned (.bool v) ∧ Below w.heap.size w w' := by
  have := top_has_any A n c a x w h x0 x1
  rwa [has_asc ha.out, hr.out] at this
theorem t_of (c : Nat) (h : Hid (Lst w A n a)) (hT : Hid (Tab w)) (hr : Hid (unionL [] a = r)) : Calls Tryd.prog 9 #[.slice A n c] w (OutPost r w) := by
  have := top_of_any A n c a w h hT
  rwa [els_of, hr.out] at this
theorem t_check (c : Nat) {v : Bool} (h : Hid (Lst w A n a)) (hT : Hid (Tab w)) (hr : Hid (ascB a = v)) : Calls Tryd.prog 12 #[.slice A n c] w fun e w' => e = .returned (.bool v) ∧ Below w.heap.size w w' := by
  have := top_check_any A n c a w h hT
  rwa [hr.out] at this
theorem few (h : Hid (Lst w A n a)) (ha : Hid (Asc a)) : n ≤ 512 := by
  have := ha.out.length
  have := h.out.len
  omega
theorem s_union (c c' : Nat) (h : Hid (Lst w A n a)) (h' : Hid (Lst w A' n' b)) (hA : Hid (A = none → c = 0)) (ha : Hid (Asc a)) (hb : Hid (Asc b)) (hr : Hid (unionL a b = r)) : Calls Tryd.prog 25 #[.slice A n c, .slice A' n' c'] w (OutPost r w) := by
  have := runion_any A n c a A' n' c' b w h h' hA ha (by have := few h' hb; omega)
  rwa [hr.out] at this
theorem s_meet (c c' : Nat) (h : Hid (Lst w A n a)) (h' : Hid (Lst w A' n' b)) (ha : Hid (Asc a)) (hr : Hid (meetL a b = r)) : Calls Tryd.prog 27 #[.slice A n c, .slice A' n' c'] w (OutPost r w) := by
  have := rmeet_any A n c a A' n' c' b w h h' (by have := few h ha; omega)
  rwa [hr.out] at this
theorem s_minus (c c' : Nat) (h : Hid (Lst w A n a)) (h' : Hid (Lst w A' n' b)) (ha : Hid (Asc a)) (hr : Hid (minusL a b = r)) : Calls Tryd.prog 29 #[.slice A n c, .slice A' n' c'] w (OutPost r w) := by
  have := rminus_any A n c a A' n' c' b w h h' (by have := few h ha; omega)
  rwa [hr.out] at this
theorem s_within (c c' : Nat) {v : Bool} (h : Hid (Lst w A n a)) (h' : Hid (Lst w A' n' b)) (ha : Hid (Asc a)) (hr : Hid (decide (minusL a b = []) = v)) : Calls Tryd.prog 31 #[.slice A n c, .slice A' n' c'] w fun e w' => e = .returned (.bool v) ∧ Below w.heap.size w w' := by
  have := rwithin_any A n c a A' n' c' b w h h' (by have := few h ha; omega)
  rwa [hr.out] at this
theorem s_add (c : Nat) {x : Int} (h : Hid (Lst w A n a)) (ha : Hid (Asc a)) (hr : Hid (addL a x = r)) : Calls Tryd.prog 21 #[.slice A n c, .int .i64 x] w (OutPost r w) := by
  have := radd_any A n c a x w h (by have := few h ha; omega)
  rwa [hr.out] at this
theorem s_remove (c : Nat) {x : Int} (h : Hid (Lst w A n a)) (ha : Hid (Asc a)) (hr : Hid (removeL a x = r)) : Calls Tryd.prog 23 #[.slice A n c, .int .i64 x] w (OutPost r w) := by
  have := rremove_any A n c a x w h (by have := few h ha; omega)
  rwa [hr.out] at this
theorem s_has (c : Nat) {x : Int} {v : Bool} (h : Hid (Lst w A n a)) (hr : Hid (hasB a x = v)) : Calls Tryd.prog 19 #[.slice A n c, .int .i64 x] w fun e w' => e = .returned (.bool v) ∧ Below w.heap.size w w' :=
  (rhas_any A n c a x w h).mono fun e w' ⟨he, hw⟩ => ⟨by rw [he, hr.out], by rw [← hw]; exact Below.refl _ _⟩
theorem s_of (c : Nat) (h : Hid (Lst w A n a)) (hm : n ≤ 1099511627776) (hr : Hid (unionL [] a = r)) : Calls Tryd.prog 11 #[.slice A n c] w (OutPost r w) := by
  have := rof_any A n c a w h hm
  rwa [hr.out] at this
theorem s_check (c : Nat) {v : Bool} (h : Hid (Lst w A n a)) (hr : Hid (ascB a = v)) : Calls Tryd.prog 13 #[.slice A n c] w fun e w' => e = .returned (.bool v) ∧ Below w.heap.size w w' := by
  have := rcheck_any A n c a w h
  rwa [hr.out] at this
theorem s_same (c c' : Nat) {v : Bool} (h : Hid (Lst w A n a)) (h' : Hid (Lst w A' n' b)) (hr : Hid (decide (a = b) = v)) : Calls Tryd.prog 10 #[.slice A n c, .slice A' n' c'] w fun e w' => e = .returned (.bool v) ∧ Below w.heap.size w w' :=
  (same_any A n c a A' n' c' b w h h').mono fun e w' ⟨he, k, hk⟩ => ⟨by rw [he, hr.out], by rw [hk]; exact below_draws (Below.refl _ _) k⟩
end
/-- What a list that comes back gives. -/
theorem OutPost.open {r : List Int} {w w' : World} {e : Ending} (h : OutPost r w e w') (ha : Hid (Asc r)) : ∃ A c, e = .returned (.slice A r.length c) ∧ Hid (Lst w' A r.length r) ∧ Hid (A = none → c = 0) ∧ Below w.heap.size w w' := by
  obtain ⟨A, c, rfl, hL⟩ := h.rel
  obtain ⟨_, _, e, hA, _⟩ := own_form hL.1
  injection e with e1 _ e3
  subst e1 e3
  exact ⟨A, c, rfl, hide (hL.lst (by have := ha.out.length; omega) (asc_rng ha.out)), hide hA, hL.2⟩
end Go.Proofs.YtfpdopfomagngaaDoor
