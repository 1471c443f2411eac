import Derived.Test.YthaabgiefpfeaaaDoorMLsam
import Derived.Test.YthaabgiefpfeaaaDoorMDraw
import Derived.Test.YthaabgiefpfeaaaDoorMBref
import Derived.Test.YthaabgiefpfeaaaDoorMOwn
import Derived.Orders
set_option linter.unusedVariables false
set_option linter.unusedSimpArgs false
section
/-
  Sets that are drawn: what a draw leaves, what its loop keeps; a literal of three ints. No function of the program is named here.
-/
namespace Go.Proofs.YthaabgiefpfeaaaDoor
open Go.RowKit

theorem lst_new (w : World) (x y z : Int) (hx : -9223372036854775808 ≤ x ∧ x ≤ 9223372036854775807) (hy : -9223372036854775808 ≤ y ∧ y ≤ 9223372036854775807) (hz : -9223372036854775808 ≤ z ∧ z ≤ 9223372036854775807) :
    Lst (w.alloc (.cells #[.int .i64 x, .int .i64 y, .int .i64 z] 3)) (some ⟨w.heap.size, 0, none⟩) 3 [x, y, z] := by
  refine ⟨rfl, by omega, fun k u hu => ⟨w.heap.size, 0, rfl, by simp, ?_⟩, fun v hv => ?_⟩
  · rw [Nat.zero_add]
    exact (Row.new w 3 (cellsI [x, y, z])).cell hu
  · simp at hv
    rcases hv with rfl | rfl | rfl <;> assumption

/-- What a draw of a set leaves. -/
def SetPost (g : Nat) (w : World) (e : Ending) (w' : World) : Prop :=
  ∃ (A : Option Addr) (c : Nat) (l : List Int), e = .returned (.slice A l.length c) ∧ (A = none → c = 0) ∧ w'.ownsRow w.heap.size 3 1 (.slice A l.length c) l.length (cellsI l) ∧ Asc l ∧ Codes w' g ∧ w.grownBy w' (some g)
/-- What the loop keeps. -/
def SetRel (g : Nat) (w : World) (v i : Value) (wr : World) : Prop :=
  ∃ (k : Nat) (A : Option Addr) (c : Nat) (l : List Int), k ≤ 20 ∧ i = .int .i64 k ∧ v = .slice A l.length c ∧ (A = none → c = 0) ∧ wr.ownsRow w.heap.size 3 1 (.slice A l.length c) l.length (cellsI l) ∧ Asc l ∧ Codes wr g ∧ w.grownBy wr (some g)
theorem own_apart {wr : World} {base t size n g : Nat} {lv : Value} {xs : List Value} (ho : wr.ownsRow base t size lv n xs) (hg : g < base) : lv.ownBlock = none ∨ lv.ownBlock ≠ some g := by
  cases e : lv.ownBlock with
  | none => exact .inl rfl
  | some k => exact .inr fun h => by have := (ho.lt k e).1; injection h with h; omega
theorem own_over {wr w2 : World} {base t size n g : Nat} {lv : Value} {xs : List Value} (ho : wr.ownsRow base t size lv n xs) (hg : g < base) (hG : wr.grownBy w2 (some g)) : w2.ownsRow base t size lv n xs := ho.kept hG (own_apart ho hg)
theorem SetRel.next {g k : Nat} {w w2 w3 : World} {l : List Int} {y : Int} {A : Option Addr} {c : Nat} (hk : k ≤ 20) (hG : w.grownBy w2 (some g)) (hA : Asc l) (hC : Codes w2 g) (hL : IntRel w2 (addL l y) (.slice A (addL l y).length c) w3) : SetRel g w (.slice A (addL l y).length c) (.int .i64 k) w3 := by
  obtain ⟨_, _, e, hA', _⟩ := own_form hL.1
  injection e with e1 _ e3
  subst e1 e3
  exact ⟨k, A, c, _, hk, rfl, rfl, hA', own_lower hL.1 hG.size, addL_asc hA, hC.below hL.2, hG.trans (grown_below hL.2 _)⟩

end Go.Proofs.YthaabgiefpfeaaaDoor
end

section
/-
  The reference's Add on sets.
-/
namespace Go.Proofs.YthaabgiefpfeaaaDoor
open Go.RowKit
section
variable {A A' : Option Addr} {n n' : Nat} {a b r : List Int} {w : World}
theorem s_add (c : Nat) {x : Int} (h : Hid (Lst w A n a)) (ha : Hid (Asc a)) (hr : Hid (addL a x = r)) : Calls Tryd.prog 17 #[.slice A n c, .int .i64 x] w (OutPost r w) := by
  have := radd_any A n c a x w h (by have := few h ha; omega)
  rwa [hr.out] at this
end
end Go.Proofs.YthaabgiefpfeaaaDoor
end

section
/-
  The contract of spillframelaw15.set: a set that is drawn. Condition: a list of choices behind the pointer.
-/
namespace Go.Proofs.YthaabgiefpfeaaaDoor
open Go.RowKit

theorem addL_len {l : List Int} (h : Asc l) : l.length ≤ 512 := h.length
set_option maxHeartbeats 2000000 in
theorem set15_any (g : Nat) (w : World) (h : Hid (Codes w g)) : Calls Tryd.prog 8 #[.pointer (some ⟨g, 0, none⟩)] w (SetPost g w) := by
  have hgw := h.out.lt
  go_enter Tryd.func8, Tryd.ntmps8
  go_wp2_with fail
  refine (next_any g 8 w h (by omega) (by omega)).mono ?_
  rintro e w1 ⟨v, rfl, v0, v1, hC1, hG1, hz⟩
  clear hz
  obtain ⟨k, rfl⟩ := Int.eq_ofNat_of_zero_le v0
  have HR : Hid (SetRel g w (.slice none 0 0) (.int .i64 k) w1) := hide ⟨k, none, 0, [], by omega, rfl, rfl, fun _ => rfl, ⟨by simp [cellsI], .inl ⟨rfl, rfl⟩⟩, .nil, hC1, hG1⟩
  clear hC1 hG1 v0 v1
  go_wp2_with fail
  go_loopw [3, 4] (fun v i wr => Hid (SetRel g w v i wr)) (fun _ i _ => (intOf i).toNat)
  case atStart => exact HR
  case round =>
    clear HR
    obtain ⟨k, A, c, l, hk, rfl, rfl, hA, ho, hasc, hC, hG⟩ := hrel.out
    have HA := hide hA
    have HO := hide ho
    have HAs := hide hasc
    have HC := hide hC
    have HG := hide hG
    have hl1 := hasc.length
    clear hrel hA ho hasc hC hG
    by_cases hlt : 0 < k
    · obtain ⟨j, rfl⟩ : ∃ j, k = j + 1 := ⟨k - 1, by omega⟩
      have hd : decide ((0 : Int) < ((j + 1 : Nat) : Int)) = true := decide_eq_true (by omega)
      have hd2 : (0 : Int) < ((j + 1 : Nat) : Int) := by omega
      go_wp2_with fail
      refine (next_any g 9 wr HC (by omega) (by omega)).mono ?_
      rintro e w3 ⟨y, rfl, y0, y1, hC3, hG3, hz⟩
      clear hz
      have HC3 := hide hC3
      have HG3 := hide (HG.out.trans hG3)
      have HO3 := hide (own_over HO.out hgw hG3)
      clear hC3 hG3 HO HC HG
      go_wp2_with fail
      refine (radd_any A l.length c l y w3 (hide ⟨rfl, by omega, Sees.own HO3.out, asc_rng HAs.out⟩) (by omega)).mono ?_
      rintro e w5 hP
      obtain ⟨A5, c5, rfl, hL5⟩ := hP.rel
      have R : Hid (SetRel g w (.slice A5 (addL l y).length c5) (.int .i64 (j : Nat)) w5) := hide (SetRel.next (by omega) HG3.out HAs.out HC3.out hL5)
      clear hP hL5
      go_wp2_with fail
      go_roundw
      case rel => first | exact R | (have e : ((j + 1 : Nat) : Int) - 1 = (j : Int) := by omega
                                     simpa [e] using R)
      case measure => simp [intOf]
    · obtain rfl : k = 0 := by omega
      rw [show ((0 : Nat) : Int) = 0 from rfl]
      go_wp2_with fail
      go_ret
      exact ⟨A, c, l, rfl, HA.out, HO.out, HAs.out, HC.out, HG.out⟩
end Go.Proofs.YthaabgiefpfeaaaDoor
end

section
/-
  A region whose order is open, by an invariant: if each operation that may come up keeps it, it holds at the end, whatever the order. No function of the program is named here.
-/
namespace Go.Proofs.YthaabgiefpfeaaaDoor
open Go.RowKit

theorem countP_lt {α : Type} {p q : α → Bool} : ∀ {xs : List α} {i : α}, (∀ x ∈ xs, q x = true → p x = true) → i ∈ xs → p i = true → q i = false → xs.countP q < xs.countP p := by
  intro xs
  induction xs with
  | nil => intro i _ hi; cases hi
  | cons y r ih =>
    intro i h hi hp hq
    have hle : r.countP q ≤ r.countP p := List.countP_mono_left fun x hx => h x (List.mem_cons_of_mem _ hx)
    rw [List.countP_cons, List.countP_cons]
    rcases List.mem_cons.1 hi with rfl | hi
    · rw [hp, hq]; simp; omega
    · have := ih (fun x hx => h x (List.mem_cons_of_mem _ hx)) hi hp hq
      have hy := h y List.mem_cons_self
      cases e : q y with
      | false => simp; split <;> omega
      | true => rw [hy e]; simp; omega

theorem getD_set (l : Array Bool) (i j : Nat) : (l.setIfInBounds i true).getD j true = (decide (i = j) || l.getD j true) := by
  simp only [Array.getD_eq_getD_getElem?, Array.getElem?_setIfInBounds]
  by_cases e : i = j
  · subst e
    by_cases h : i < l.size <;> simp [h]
  · simp [e]

/-- How many operations have not come up. -/
def leftOf (n : Nat) (l : Array Bool) : Nat := (List.range n).countP fun i => !l.getD i true
theorem leftOf_set {ops : Array Oper} {md : Region.Mode} {l : Array Bool} {i : Nat} (hi : i ∈ Region.ready md ops l) : leftOf ops.size (l.setIfInBounds i true) < leftOf ops.size l := by
  unfold Region.ready at hi
  obtain ⟨h1, h2⟩ := List.mem_filter.1 hi
  simp only [Bool.and_eq_true, Bool.not_eq_true'] at h2
  refine countP_lt (i := i) (fun x _ hx => ?_) h1 (by simp [h2.1]) (by simp)
  simp only [getD_set, Bool.not_or, Bool.and_eq_true] at hx
  exact hx.2
theorem ready_none {ops : Array Oper} {md : Region.Mode} {l : Array Bool} (h : leftOf ops.size l = 0) : Region.ready md ops l = [] := by
  unfold Region.ready
  refine List.filter_eq_nil_iff.2 fun x hx => ?_
  have := List.countP_eq_zero.1 h x hx
  simp only [Bool.not_eq_true, Bool.not_eq_false'] at this
  simp [this]

theorem wpAny_inv {P : Program} {Q : Exit → Act → World → Prop} {ops : Array Oper} (I : Array Bool → Act → World → Prop)
    (hs : ∀ l a w, I l a w → ∀ i ∈ Region.ready .any ops l, ∀ K : Act → World → Prop, (∀ a' w', I (l.setIfInBounds i true) a' w' → K a' w') → wpOp P ops Q i K a w)
    (he : ∀ l a w, I l a w → Region.ready .any ops l = [] → Q .normal a w) : ∀ (fuel : Nat) (l : Array Bool) (a : Act) (w : World), I l a w → leftOf ops.size l ≤ fuel → wpAny P .any ops Q fuel l a w := by
  intro fuel
  induction fuel with
  | zero => exact fun l a w h hl => ⟨ready_none (by omega), he l a w h (ready_none (by omega))⟩
  | succ fuel ih =>
    intro l a w h hl
    refine ⟨he l a w h, fun i hi => hs l a w h i hi _ fun a' w' h' => ih _ _ _ h' ?_⟩
    have := leftOf_set hi
    omega

theorem wp_region_inv {P : Program} {id : Nat} {Q : Exit → Act → World → Prop} {a : Act} {w : World} {ops : Array Oper} (hm : P.follows .mixedOrders = true) (I : Array Bool → Act → World → Prop)
    (h0 : I (Array.replicate ops.size false) a w.drew)
    (hs : ∀ l a w, I l a w → ∀ i ∈ Region.ready .any ops l, ∀ K : Act → World → Prop, (∀ a' w', I (l.setIfInBounds i true) a' w' → K a' w') → wpOp P ops Q i K a w)
    (he : ∀ l a w, I l a w → Region.ready .any ops l = [] → Q .normal a w) : (Code.region id ops true).wp P Q a w :=
  wp_region_any hm (wpAny_inv I hs he _ _ _ _ h0 (Nat.le_trans List.countP_le_length (by simp)))

/-- An operation without a guard. -/
theorem wpOp_plain {P : Program} {Q : Exit → Act → World → Prop} {ops : Array Oper} {i : Nat} {o : Oper} {K : Act → World → Prop} {a : Act} {w : World} (hi : ops[i]? = some o) (hg : o.guard = none) (h : o.wp P a w K Q) : wpOp P ops Q i K a w := by
  unfold wpOp
  simp only [hi]
  rw [if_pos (by simp [Region.wanted, hg])]
  exact .inl h
/-- What may come up has not come up, and what it waits for has. -/
theorem ready_of {ops : Array Oper} {l : Array Bool} {i : Nat} (hi : i ∈ Region.ready .any ops l) : l.getD i true = false ∧ ∃ o, ops[i]? = some o ∧ o.after.all (fun e => !Region.binds .any e || l.getD e.on false) = true := by
  unfold Region.ready at hi
  obtain ⟨_, h2⟩ := List.mem_filter.1 hi
  simp only [Bool.and_eq_true, Bool.not_eq_true'] at h2
  cases ho : ops[i]? with
  | none => rw [ho] at h2; simp at h2
  | some o => rw [ho] at h2; exact ⟨h2.1, o, rfl, by simpa using h2.2⟩
theorem ready_lt {ops : Array Oper} {l : Array Bool} {i : Nat} (hi : i ∈ Region.ready .any ops l) : i < ops.size := by
  unfold Region.ready at hi
  exact List.mem_range.1 (List.mem_filter.1 hi).1
theorem ready_mk {ops : Array Oper} {l : Array Bool} {i : Nat} {o : Oper} (ho : ops[i]? = some o) (h : l.getD i true = false) (ha : o.after.all (fun e => !Region.binds .any e || l.getD e.on false) = true) : i ∈ Region.ready .any ops l := by
  unfold Region.ready
  refine List.mem_filter.2 ⟨List.mem_range.2 (Array.getElem?_eq_some_iff.1 ho).1, ?_⟩
  rw [ho]
  simp only [Option.map_some, Option.getD_some, h, ha, Bool.not_false, Bool.and_self]
theorem ready_no {ops : Array Oper} {l : Array Bool} {i : Nat} {o : Oper} (hr : Region.ready .any ops l = []) (ho : ops[i]? = some o) (h : l.getD i true = false) (ha : o.after.all (fun e => !Region.binds .any e || l.getD e.on false) = true) : False := by
  have := ready_mk ho h ha
  rw [hr] at this
  cases this
end Go.Proofs.YthaabgiefpfeaaaDoor
end
