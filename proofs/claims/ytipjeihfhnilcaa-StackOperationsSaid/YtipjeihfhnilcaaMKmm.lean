import Derived.Test.YtipjeihfhnilcaaMKmem
import Derived.Test.YtipjeihfhnilcaaMVbytem
import Derived.Test.YtipjeihfhnilcaaMEpow
set_option linter.unusedVariables false
set_option linter.unusedSimpArgs false
section
/-
  A stack that is turned in place (chapter 9): three cells of a block, and two rows of the call's own. No function of the program is named here.
-/
namespace Go.Proofs.Ytipjeihfhnilcaa
open Go.RowKit

/-- Only the block g, and rows of bytes and of truth values from block base on, may have turned. -/
structure MKp (w w' : World) (g base : Nat) : Prop where
  os : w'.os = w.os
  tape : w'.tape = w.tape
  output : w'.output = w.output
  size : w.heap.size ≤ w'.heap.size
  blk : ∀ k, k < w.heap.size → k ≠ g → (base ≤ k → ∀ cs t fr, w.heap[k]? = some (.cells cs t fr) → t ≠ 5 ∧ t ≠ 4) → w'.heap[k]? = w.heap[k]?
section
variable {w w' w'' : World} {g base : Nat}
theorem MKp.refl (w : World) (g base : Nat) : MKp w w g base := ⟨rfl, rfl, rfl, Nat.le_refl _, fun _ _ _ _ => rfl⟩
theorem MKp.trans (h : MKp w w' g base) (h' : MKp w' w'' g base) : MKp w w'' g base :=
  ⟨h'.os.trans h.os, h'.tape.trans h.tape, h'.output.trans h.output, Nat.le_trans h.size h'.size, fun k hk h1 h2 => by
    have e := h.blk k hk h1 h2
    exact (h'.blk k (Nat.lt_of_lt_of_le hk h.size) h1 (fun hb cs t fr => by rw [e]; exact h2 hb cs t fr)).trans e⟩
theorem MKp.of_below (h : Below w.heap.size w w') (g base : Nat) : MKp w w' g base := ⟨h.os, h.tape, h.output, h.size, fun k hk _ _ => h.block k hk⟩
theorem MKp.set (w : World) (g base k : Nat) (u : Value) : MKp w (w.setCell ⟨g, k, none⟩ u) g base :=
  have h := grown_one w g k u
  ⟨h.os, h.tape, h.output, h.size, fun j hj h1 _ => h.block j hj (fun e => h1 (by injection e))⟩
theorem MKp.of_row {j n c : Nat} {e : TypeId} {xs : List Value} (h : w.grownBy w' (some j)) (ho : w.ownsRow base e 1 (.slice (some ⟨j, 0, none⟩) n c) n xs) (he : e = 5 ∨ e = 4) (g : Nat) : MKp w w' g base :=
  ⟨h.os, h.tape, h.output, h.size, fun k hk _ h2 => h.block k hk (fun hkj => by
    have hkj : j = k := by first | exact Option.some.inj hkj | exact (Option.some.inj hkj).symm
    subst hkj
    obtain ⟨cur, hh, _, _, _, _, hb⟩ := own_heap ho
    have := h2 hb _ _ _ hh
    rcases he with he | he
    · exact this.1 he
    · exact this.2 he)⟩
theorem MKp.row {j t : Nat} {cs : List Value} (h : MKp w w' g base) (r : Row w j t cs) (h1 : j ≠ g) (h2 : j < base ∨ (t ≠ 5 ∧ t ≠ 4)) : Row w' j t cs := by
  unfold Row
  rw [h.blk j r.lt h1 (fun hb cs' t' fr e => by
    unfold Row at r
    rw [r] at e
    injection e with e
    injection e with _ e2
    rcases h2 with h2 | h2
    · omega
    · rw [← e2]; exact h2)]
  exact r
theorem MKp.below {B : Nat} (h : MKp w w' g base) (hB : B ≤ w.heap.size) (h1 : B ≤ g) (h2 : B ≤ base) : Below B w w' :=
  ⟨h.os, h.tape, h.output, h.size, fun k hk => h.blk k (by omega) (by omega) (fun e => by omega)⟩
/-- A row of another type. -/
theorem MKp.own {e : TypeId} {size n : Nat} {v : Value} {xs : List Value} {b2 : Nat} (h : MKp w w' g base) (ho : w.ownsRow b2 e size v n xs) (he : e ≠ 5 ∧ e ≠ 4) (hg : v.ownBlock ≠ some g) : w'.ownsRow b2 e size v n xs := by
  refine ⟨ho.1, ?_⟩
  rcases ho.2 with h2 | ⟨j, cap, cur, rfl, hb, hh, hr⟩
  · exact .inl h2
  · refine .inr ⟨j, cap, cur, rfl, hb, ?_, hr⟩
    rw [h.blk j (Array.getElem?_eq_some_iff.1 hh).1 (fun e => hg (by rw [e]; rfl)) (fun _ cs t fr e2 => by
      rw [hh] at e2
      injection e2 with e2
      injection e2 with _ e3
      rw [← e3]; exact he)]
    exact hh
end
/-- The stack S in memory: cells o, o + 1, o + 2 of block g of type T, and its two rows. -/
structure MemAt (w : World) (g o base : Nat) (T : TypeId) (cs : List Value) (A1 : Option Addr) (c1 : Nat) (A2 : Option Addr) (c2 : Nat) (S : Sk) : Prop where
  row : Row w g T cs
  k0 : cs[o]? = some (.slice A1 S.bs.length c1)
  k1 : cs[o + 1]? = some (.slice A2 S.bs.length c2)
  k2 : cs[o + 2]? = some (.int .i64 (S.sp : Int))
  own : StkOwn w base A1 c1 A2 c2 S 5 4
  gb : base ≤ g
  t1 : T ≠ 5
  t2 : T ≠ 4
section
variable {w w' : World} {g o base : Nat} {T : TypeId} {cs : List Value} {A1 A2 : Option Addr} {c1 c2 : Nat} {S : Sk}
theorem MemAt.bl (h : MemAt w g o base T cs A1 c1 A2 c2 S) : base ≤ w.heap.size := by have := h.row.lt; have := h.gb; omega
theorem MemAt.call (h : MemAt w g o base T cs A1 c1 A2 c2 S) (hb : Below w.heap.size w w') : MemAt w' g o base T cs A1 c1 A2 c2 S := ⟨h.row.call hb, h.k0, h.k1, h.k2, h.own.below hb, h.gb, h.t1, h.t2⟩
theorem MemAt.drewN (h : MemAt w g o base T cs A1 c1 A2 c2 S) (n : Nat) : MemAt (w.drewN n) g o base T cs A1 c1 A2 c2 S := h.call (below_draws (Below.refl _ _) n)
theorem own_offR {e : TypeId} {size n : Nat} {v : Value} {xs : List Value} (ho : w.ownsRow base e size v n xs) (r : Row w g T cs) (ht : T ≠ e) : v.ownBlock = none ∨ v.ownBlock ≠ some g := by
  rcases ho.2 with ⟨rfl, _⟩ | ⟨j, cap, cur, rfl, _, hh, _⟩
  · exact .inl rfl
  · refine .inr fun he => ?_
    injection he with he
    simp only at he
    unfold Row at r
    rw [he, r] at hh
    injection hh with hh
    injection hh with _ e3
    exact ht e3
/-- The SP is stored. -/
theorem MemAt.setSp (h : MemAt w g o base T cs A1 c1 A2 c2 S) {S' : Sk} (hb : S'.bs = S.bs) (hu : S'.us = S.us) (hok : S'.Ok) : MemAt (w.setCell ⟨g, o + 2, none⟩ (.int .i64 (S'.sp : Int))) g o base T (cs.set (o + 2) (.int .i64 (S'.sp : Int))) A1 c1 A2 c2 S' := by
  have hl : o + 2 < cs.length := (List.getElem?_eq_some_iff.1 h.k2).1
  have hg := grown_one w g (o + 2) (.int .i64 (S'.sp : Int))
  refine ⟨h.row.set_ _ _, ?_, ?_, ?_, ⟨hok, ?_, ?_⟩, h.gb, h.t1, h.t2⟩
  · rw [List.getElem?_set_ne (by omega), hb]; exact h.k0
  · rw [List.getElem?_set_ne (by omega), hb]; exact h.k1
  · rw [List.getElem?_set_self hl]
  · rw [hb]; exact h.own.o1.kept hg (own_offR h.own.o1 h.row h.t1)
  · rw [hb, hu]; exact h.own.o2.kept hg (own_offR h.own.o2 h.row h.t2)
end
end Go.Proofs.Ytipjeihfhnilcaa
end

section
/-
  Plain mathematics of truncation, pairs and high words. No function of the program is named here.
-/
namespace Go.Proofs.Ytipjeihfhnilcaa
open Go.RowKit

/-- The low words of two numbers; the high word of a number. -/
def pairV (X Y : Nat) : Nat := X % 18446744073709551616 + 18446744073709551616 * (Y % 18446744073709551616)
def highV (X : Nat) : Nat := X / 18446744073709551616 % 18446744073709551616
theorem pair_lo (X Y : Nat) : lo X = lo (pairV X Y) := by unfold lo pairV; omega
theorem pair_hi (X Y : Nat) : lo Y = hi (pairV X Y) := by unfold lo hi pairV; omega
theorem high_lo (X : Nat) : hi X = lo (highV X) := by unfold lo hi highV; omega
theorem high_hi (X : Nat) : hi (highV X) = 0 := by unfold hi highV; omega
theorem pair_high (X : Nat) (hX : X < two128) : pairV X (highV X) = X := by unfold pairV highV; unfold two128 at hX; omega

/-- The lowest bytes of a number. -/
def truncV (X : Nat) (n : Int) : Nat := X % 2 ^ (8 * szN n)
theorem truncV_lt (X : Nat) (n : Int) : truncV X n < two128 := trunc_lt X _ (szN_le n)
end Go.Proofs.Ytipjeihfhnilcaa
end

section
/-
  The contracts of extent.bound and Add. Conditions: those of the types.
-/
namespace Go.Proofs.Ytipjeihfhnilcaa
open Go.RowKit

theorem bound_any (n : Int) (w : World) : Calls Try.prog 95 #[.int .i64 n] w fun e w' => e = .returned (.bool (bndB n)) ∧ w = w' := by
  go_enter Try.func95, Try.ntmps95
  by_cases h : 0 ≤ n
  · go_wp2
    go_ret
    exact ⟨ret_bool (by simp [bndB, h]), rfl⟩
  · go_wp2
    go_ret
    exact ⟨ret_bool (by simp [bndB]; omega), rfl⟩

set_option maxHeartbeats 400000 in
theorem add_any (x y : Int) (w : World) : Calls Try.prog 86 #[.int .i64 x, .int .i64 y] w fun e w' => e = .returned (.tuple #[.int .i64 (addV x y), .int .i64 (addE x y)]) ∧ w = w' := by
  have cx := bound_any x
  have cy := bound_any y
  cases hx : bndB x with
  | false =>
    obtain ⟨hv, he⟩ := add_bad (x := x) (y := y) (by rw [hx]; rfl)
    rw [hx] at cx
    have Hv := hide hv
    have He := hide he
    clear hx hv he
    go_enter Try.func86, Try.ntmps86
    go_wp2_with (go_at_call 95; refine (cx _).mono ?_; rintro e w' ⟨rfl, rfl⟩)
    go_ret2
    exact ⟨ret_two Hv.out.symm He.out.symm, rfl⟩
  | true =>
    cases hy : bndB y with
    | false =>
      obtain ⟨hv, he⟩ := add_bad (x := x) (y := y) (by rw [hx, hy]; rfl)
      rw [hx] at cx
      rw [hy] at cy
      have Hv := hide hv
      have He := hide he
      clear hx hy hv he
      go_enter Try.func86, Try.ntmps86
      go_wp2_with fail
      refine (cx _).mono ?_
      rintro e w' ⟨rfl, rfl⟩
      go_wp2_with fail
      refine (cy _).mono ?_
      rintro e w' ⟨rfl, rfl⟩
      go_wp2_with fail
      go_ret2
      exact ⟨ret_two Hv.out.symm He.out.symm, rfl⟩
    | true =>
      obtain ⟨x0, x1⟩ := bndB_iff.1 hx
      obtain ⟨y0, y1⟩ := bndB_iff.1 hy
      rw [hx] at cx
      rw [hy] at cy
      by_cases hs : x + y ≤ 2147483647
      · obtain ⟨hv, he⟩ := add_ok hx hy hs
        have Hv := hide hv
        have He := hide he
        clear hx hy hv he
        have hg : ¬ (2147483647 - y < x) := by omega
        go_enter Try.func86, Try.ntmps86
        go_wp2_with fail
        refine (cx _).mono ?_
        rintro e w' ⟨rfl, rfl⟩
        go_wp2_with fail
        refine (cy _).mono ?_
        rintro e w' ⟨rfl, rfl⟩
        go_wp2_with fail
        go_ret2
        exact ⟨ret_two Hv.out.symm He.out.symm, rfl⟩
      · obtain ⟨hv, he⟩ := add_great hx hy (by omega)
        have Hv := hide hv
        have He := hide he
        clear hx hy hv he
        have hg : 2147483647 - y < x := by omega
        go_enter Try.func86, Try.ntmps86
        go_wp2_with fail
        refine (cx _).mono ?_
        rintro e w' ⟨rfl, rfl⟩
        go_wp2_with fail
        refine (cy _).mono ?_
        rintro e w' ⟨rfl, rfl⟩
        go_wp2_with fail
        go_ret2
        exact ⟨ret_two Hv.out.symm He.out.symm, rfl⟩
end Go.Proofs.Ytipjeihfhnilcaa
end
