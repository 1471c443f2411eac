import Derived.Test.YthaabgiefpfeaaaMLsam
import Derived.Test.YthaabgiefpfeaaaMPmem
import Derived.Maps.AppendAt
set_option linter.unusedVariables false
set_option linter.unusedSimpArgs false
section
/-
  What the loops of the reference's functions on sets keep. No function of the program is named here.
-/
namespace Go.Proofs.Ythaabgiefpfeaaa
open Go.RowKit
theorem IntRel.lst {w wr : World} {l : List Int} {A : Option Addr} {c : Nat} (h : IntRel w l (.slice A l.length c) wr) (hl : l.length ≤ 9223372036854775807) (hz : ∀ z ∈ l, -9223372036854775808 ≤ z ∧ z ≤ 9223372036854775807) : Lst wr A l.length l :=
  ⟨rfl, hl, Sees.own h.1, hz⟩
theorem asc_rng {l : List Int} (h : Asc l) : ∀ z ∈ l, -9223372036854775808 ≤ z ∧ z ≤ 9223372036854775807 := fun z hz => by have := h.2 z hz; omega
theorem OutPost.rel {l : List Int} {w w' : World} {e : Ending} (h : OutPost l w e w') : ∃ A c, e = .returned (.slice A l.length c) ∧ IntRel w l (.slice A l.length c) w' := by
  obtain ⟨A, c, he, ho, hb⟩ := h
  exact ⟨A, c, he, ho, hb⟩
theorem IntRel.post {w w' : World} {l : List Int} {A : Option Addr} {c : Nat} (h : IntRel w l (.slice A l.length c) w') : OutPost l w (.returned (.slice A l.length c)) w' := ⟨A, c, rfl, h.1, h.2⟩
/-- What a loop that filters keeps. -/
def FilRel (w : World) (p : Int → Bool) (zs : List Int) (n : Nat) (v i : Value) (wr : World) : Prop :=
  ∃ (k : Nat) (l : List Int), k ≤ n ∧ i = .int .i64 k ∧ l = (zs.take k).filter p ∧ IntRel w l v wr
/-- What a loop that adds keeps. -/
def UniRel (w : World) (bas zs : List Int) (n : Nat) (v i : Value) (wr : World) : Prop :=
  ∃ (k : Nat) (l : List Int) (A : Option Addr) (c : Nat), k ≤ n ∧ i = .int .i64 k ∧ v = .slice A l.length c ∧ l = unionL bas (zs.take k) ∧ Asc l ∧ IntRel w l v wr
theorem FilRel.len {zs l : List Int} {p : Int → Bool} {k : Nat} (h : l = (zs.take k).filter p) : l.length ≤ k := by
  rw [h]
  exact Nat.le_trans (List.length_filter_le _ _) (List.length_take_le _ _)

section
variable {A A' : Option Addr} {n n' : Nat} {a b r : List Int} {w : World}
theorem few (h : Hid (Lst w A n a)) (ha : Hid (Asc a)) : n ≤ 512 := by
  have := ha.out.length
  have := h.out.len
  omega
end
/-- What a list that comes back gives. -/
theorem OutPost.open {r : List Int} {w w' : World} {e : Ending} (h : OutPost r w e w') (ha : Hid (Asc r)) : ∃ A c, e = .returned (.slice A r.length c) ∧ Hid (Lst w' A r.length r) ∧ Hid (A = none → c = 0) ∧ Below w.heap.size w w' := by
  obtain ⟨A, c, rfl, hL⟩ := h.rel
  obtain ⟨_, _, e, hA, _⟩ := own_form hL.1
  injection e with e1 _ e3
  subst e1 e3
  exact ⟨A, c, rfl, hide (hL.lst (by have := ha.out.length; omega) (asc_rng ha.out)), hide hA, hL.2⟩
end Go.Proofs.Ythaabgiefpfeaaa
end

section
/-
  The reference's Same on sets.
-/
namespace Go.Proofs.Ythaabgiefpfeaaa
open Go.RowKit
section
variable {A A' : Option Addr} {n n' : Nat} {a b r : List Int} {w : World}
theorem s_same (c c' : Nat) {v : Bool} (h : Hid (Lst w A n a)) (h' : Hid (Lst w A' n' b)) (hr : Hid (decide (a = b) = v)) : Calls Try.prog 8 #[.slice A n c, .slice A' n' c'] w fun e w' => e = .returned (.bool v) ∧ Below w.heap.size w w' :=
  (lsame_any A n c a A' n' c' b w h h').mono fun e w' ⟨he, k, hk⟩ => ⟨by rw [he, hr.out], by rw [hk]; exact below_draws (Below.refl _ _) k⟩
end
end Go.Proofs.Ythaabgiefpfeaaa
end
