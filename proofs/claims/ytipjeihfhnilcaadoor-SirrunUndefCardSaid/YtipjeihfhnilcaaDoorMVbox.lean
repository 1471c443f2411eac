import Derived.Test.YtipjeihfhnilcaaDoorMKit
import Derived.Test.YtipjeihfhnilcaaDoorMBoxes
import Derived.Test.YtipjeihfhnilcaaDoorMEpw
import Derived.Test.YtipjeihfhnilcaaDoorMDraw
import Derived.Laws.Rows
import Derived.Maps.AppendAt
set_option linter.unusedVariables false
set_option linter.unusedSimpArgs false
section
/-
  Words for the block that holds one value of 128 bits: 'Box w g V': block g holds just the two words of V. No function of the program is named here.
-/
namespace Go.Proofs.YtipjeihfhnilcaaDoor
open Go.RowKit

/-- A value of 128 bits as Go has it. -/
abbrev vv (V : Nat) : Value := .agg #[.int .u64 (lo V), .int .u64 (hi V)]

/-- Block g is just the two words of V, not frozen. -/
def Box (w : World) (g V : Nat) : Prop := w.heap[g]? = some (.cells #[.int .u64 (lo V), .int .u64 (hi V)] 33 (0, 0))

section
variable {w w' : World} {g V : Nat}
theorem Box.lt (h : Box w g V) : g < w.heap.size := by
  rcases Nat.lt_or_ge g w.heap.size with hlt | hge
  · exact hlt
  · unfold Box at h; rw [Array.getElem?_eq_none hge] at h; cases h
theorem Box.c0 (h : Box w g V) : w.cell? ⟨g, 0, none⟩ = some (.int .u64 (lo V)) := cell_of_row w g 0 _ _ (0, 0) h
theorem Box.c1 (h : Box w g V) : w.cell? ⟨g, 1, none⟩ = some (.int .u64 (hi V)) := cell_of_row w g 1 _ _ (0, 0) h
theorem Box.z (h : Box w g V) (i : Nat) : w.frozen? ⟨g, i, none⟩ = false := by
  unfold Box at h
  simp [World.frozen?, h]
theorem Box.facts (h : Box w g V) : w.cell? ⟨g, 0, none⟩ = some (.int .u64 (lo V)) ∧ w.cell? ⟨g, 1, none⟩ = some (.int .u64 (hi V)) ∧ w.frozen? ⟨g, 0, none⟩ = false ∧ w.frozen? ⟨g, 1, none⟩ = false :=
  ⟨h.c0, h.c1, h.z 0, h.z 1⟩
theorem Box.new (w : World) (V : Nat) : Box (w.alloc (.cells #[.int .u64 (lo V), .int .u64 (hi V)] 33)) w.heap.size V := heap_alloc_new w _
theorem Box.drew (h : Box w g V) : Box w.drew g V := h
theorem Box.drewN (h : Box w g V) (n : Nat) : Box (w.drewN n) g V := h
theorem Box.alloc (h : Box w g V) (o : Obj) : Box (w.alloc o) g V := (Below.heap_alloc w o g h.lt).trans h
theorem Box.far (h : Box w g V) {p : Addr} (hp : g ≠ p.block) (u : Value) : Box (w.setCell p u) g V := (Below.heap_setCell w p u g hp).trans h
theorem Box.below {B : Nat} (h : Box w g V) (hb : Below B w w') (hg : g < B) : Box w' g V := (hb.block g hg).trans h
theorem Box.call (h : Box w g V) (hb : Below w.heap.size w w') : Box w' g V := h.below hb h.lt
theorem Box.set_ (h : Box w g V) (V' : Nat) : Box ((w.setCell ⟨g, 0, none⟩ (.int .u64 (lo V'))).setCell ⟨g, 1, none⟩ (.int .u64 (hi V'))) g V' := by
  unfold Box at h ⊢
  simp [World.setCell, Array.getElem?_modify, h]
theorem Box.set0 (h : Box w g V) (V' : Nat) (e : hi V = hi V') : Box (w.setCell ⟨g, 0, none⟩ (.int .u64 (lo V'))) g V' := by
  unfold Box at h ⊢
  simp [World.setCell, Array.getElem?_modify, h, e]
theorem Box.far2 (h : Box w g V) {g' : Nat} (hp : g ≠ g') (u u' : Value) : Box ((w.setCell ⟨g', 0, none⟩ u).setCell ⟨g', 1, none⟩ u') g V := (h.far (p := ⟨g', 0, none⟩) hp u).far (p := ⟨g', 1, none⟩) hp u'
theorem Box.at_ {g' : Nat} (h : Box w g V) (e : g = g') : Box w g' V := e ▸ h
theorem Box.congr {V' : Nat} (h : Box w g V) (e : V % two128 = V' % two128) : Box w g V' := by
  unfold Box at h ⊢
  rw [← (vv_congr e).1, ← (vv_congr e).2]; exact h
theorem Box.same {V' : Nat} (h : Box w g V) (e : V = V') : Box w g V' := e ▸ h
end

/-- After a store of a value at block g: what lies below B is as it was, if g is not. -/
theorem below_set {B g : Nat} {w w' : World} (h : Below B w w') (hg : B ≤ g) (u u' : Value) : Below B w ((w'.setCell ⟨g, 0, none⟩ u).setCell ⟨g, 1, none⟩ u') :=
  (h.setCell (p := ⟨g, 0, none⟩) hg u).setCell (p := ⟨g, 1, none⟩) hg u'
/-- A contract's world at a great enough block number. -/
theorem size_set (w : World) (p : Addr) (u : Value) : (w.setCell p u).heap.size = w.heap.size := by simp [World.setCell]
end Go.Proofs.YtipjeihfhnilcaaDoor
end

section
/-
  What an operation on two values must give, as numbers; equality of two values as Go asks it. No function of the program is named here.
-/
namespace Go.Proofs.YtipjeihfhnilcaaDoor
open Go.RowKit

/-- The result of an operation, and whether there is one. -/
def opRes (op : Int) (X Y : Nat) : Nat :=
  if op = 2 then (X + Y) % two128 else if op = 3 then (X + two128 - Y) % two128 else if op = 4 then X * Y % two128 else if op = 5 then X / Y else
  if op = 6 then X &&& Y else if op = 7 then X ||| Y else if op = 8 then X ^^^ Y else if op = 9 then bn (decide (X < Y)) else if op = 10 then bn (decide (X = Y)) else 0
def opOk (op : Int) (Y : Nat) : Bool := decide (2 ≤ op ∧ op ≤ 10 ∧ ¬ (op = 5 ∧ Y = 0))

theorem opRes_lt (op : Int) (X Y : Nat) (hX : X < two128) (hY : Y < two128) : opRes op X Y < two128 := by
  have h2 : (1 : Nat) < two128 := by decide
  have hb : ∀ b, bn b < two128 := fun b => by unfold bn; split <;> omega
  have hx := hX
  have hy := hY
  rw [two128_eq] at hx hy
  unfold opRes
  repeat' split
  all_goals first
    | exact Nat.mod_lt _ two128_pos
    | exact Nat.lt_of_le_of_lt (Nat.div_le_self _ _) hX
    | exact hb _
    | exact two128_pos
    | (rw [two128_eq]; exact Nat.and_lt_two_pow _ hy)
    | (rw [two128_eq]; exact Nat.or_lt_two_pow hx hy)
    | (rw [two128_eq]; exact Nat.xor_lt_two_pow hx hy)

theorem and_lo (X Y : Nat) : bits .and .u64 (lo X) (lo Y) = lo (X &&& Y) := by
  unfold lo
  rw [u64_and_nat _ _ (by omega) (by omega), show (18446744073709551616 : Nat) = 2 ^ 64 by decide, Nat.and_mod_two_pow]
theorem or_lo (X Y : Nat) : bits .or .u64 (lo X) (lo Y) = lo (X ||| Y) := by
  unfold lo
  rw [u64_or_nat _ _ (by omega) (by omega), show (18446744073709551616 : Nat) = 2 ^ 64 by decide, Nat.or_mod_two_pow]
theorem xor_lo (X Y : Nat) : bits .xor .u64 (lo X) (lo Y) = lo (X ^^^ Y) := by
  unfold lo
  rw [u64_xor_nat _ _ (by omega) (by omega), show (18446744073709551616 : Nat) = 2 ^ 64 by decide, Nat.xor_mod_two_pow]
theorem hi_lo (X : Nat) : hi X = lo (X >>> 64) := by
  unfold hi lo; rw [Nat.shiftRight_eq_div_pow]
theorem and_hi (X Y : Nat) : bits .and .u64 (hi X) (hi Y) = hi (X &&& Y) := by
  rw [hi_lo, hi_lo, hi_lo, and_lo, Nat.shiftRight_and_distrib]
theorem or_hi (X Y : Nat) : bits .or .u64 (hi X) (hi Y) = hi (X ||| Y) := by
  rw [hi_lo, hi_lo, hi_lo, or_lo, Nat.shiftRight_or_distrib]
theorem xor_hi (X Y : Nat) : bits .xor .u64 (hi X) (hi Y) = hi (X ^^^ Y) := by
  rw [hi_lo, hi_lo, hi_lo, xor_lo, Nat.shiftRight_xor_distrib]
end Go.Proofs.YtipjeihfhnilcaaDoor
end

section
/-
  What a call may turn beside new blocks: one block, and one row that it grows. No function of the program is named here.
-/
namespace Go.Proofs.YtipjeihfhnilcaaDoor
open Go.RowKit

theorem grown_put1 (w : World) (g k : Nat) (u : Value) : w.grownBy (w.setCell ⟨g, k, none⟩ u) (some g) := ⟨rfl, rfl, rfl, by simp [World.setCell], fun i _ hi => Below.heap_setCell w ⟨g, k, none⟩ u i (fun e => hi (by rw [e]))⟩
/-- Only the block Bx, and the row v, may have turned; v' is the row now. -/
structure JKp (w w' : World) (Bx : Nat) (v v' : Value) : Prop where
  os : w'.os = w.os
  tape : w'.tape = w.tape
  output : w'.output = w.output
  size : w.heap.size ≤ w'.heap.size
  blk : ∀ k, k < w.heap.size → k ≠ Bx → v.ownBlock ≠ some k → w'.heap[k]? = w.heap[k]?
  own : ∀ k, v'.ownBlock = some k → v.ownBlock = some k ∨ w.heap.size ≤ k
section
variable {w w' w'' : World} {Bx : Nat} {v v' v'' : Value}
theorem JKp.refl (w : World) (Bx : Nat) (v : Value) : JKp w w Bx v v := ⟨rfl, rfl, rfl, Nat.le_refl _, fun _ _ _ _ => rfl, fun _ h => .inl h⟩
theorem JKp.trans (h : JKp w w' Bx v v') (h' : JKp w' w'' Bx v' v'') : JKp w w'' Bx v v'' :=
  ⟨h'.os.trans h.os, h'.tape.trans h.tape, h'.output.trans h.output, Nat.le_trans h.size h'.size, fun k hk h1 h2 => (h'.blk k (Nat.lt_of_lt_of_le hk h.size) h1 (fun e => by
    rcases h.own k e with e | e
    · exact h2 e
    · omega)).trans (h.blk k hk h1 h2), fun k hk => by
    rcases h'.own k hk with e | e
    · exact h.own k e
    · exact .inr (Nat.le_trans h.size e)⟩
theorem JKp.row {g t : Nat} {cs : List Value} (h : JKp w w' Bx v v') (r : Row w g t cs) (h1 : g ≠ Bx) (h2 : v.ownBlock ≠ some g) : Row w' g t cs := by
  unfold Row
  rw [h.blk g r.lt h1 h2]
  exact r
theorem JKp.below {B : Nat} (h : JKp w w' Bx v v') (hB : B ≤ w.heap.size) (h1 : B ≤ Bx) (h2 : ∀ k, v.ownBlock = some k → B ≤ k) : Below B w w' :=
  ⟨h.os, h.tape, h.output, h.size, fun k hk => h.blk k (by omega) (by omega) (fun e => by have := h2 k e; omega)⟩
theorem JKp.of_below (h : Below w.heap.size w w') (Bx : Nat) (v : Value) : JKp w w' Bx v v := ⟨h.os, h.tape, h.output, h.size, fun k hk _ _ => h.block k hk, fun _ e => .inl e⟩
theorem JKp.of_row (h : w.grownBy w' v.ownBlock) (ho : ∀ k, v'.ownBlock = some k → v.ownBlock = some k ∨ w.heap.size ≤ k) (Bx : Nat) : JKp w w' Bx v v' := ⟨h.os, h.tape, h.output, h.size, fun k hk _ h2 => h.block k hk (fun e => h2 e.symm), ho⟩
theorem JKp.set (w : World) (Bx k : Nat) (v u : Value) : JKp w (w.setCell ⟨Bx, k, none⟩ u) Bx v v :=
  have h := grown_put1 w Bx k u
  ⟨h.os, h.tape, h.output, h.size, fun j hj h1 _ => h.block j hj (fun e => h1 (by injection e)), fun _ e => .inl e⟩
end
end Go.Proofs.YtipjeihfhnilcaaDoor
end

section
/-
  Cells of values, rows of a call's own, numbers that are still to be read (chapters 8 and 12). No function of the program is named here.
-/
namespace Go.Proofs.YtipjeihfhnilcaaDoor
open Go.RowKit

/-- The cells of values. -/
def vcell (V : Nat) : List Value := [.int .u64 (lo V), .int .u64 (hi V)]
def vcells (l : List Nat) : List Value := l.flatMap vcell
theorem vcell_len (V : Nat) : (vcell V).length = 2 := rfl
theorem vcells_len (l : List Nat) : (vcells l).length = l.length * 2 := flat_len vcell_len l
theorem vcells_app (l m : List Nat) : vcells (l ++ m) = vcells l ++ vcells m := by simp [vcells]
theorem vcells_oneCell (l : List Nat) : ∀ v ∈ vcells l, v.oneCell' = true := by
  intro v hv
  simp only [vcells, List.mem_flatMap] at hv
  obtain ⟨x, _, hv⟩ := hv
  simp [vcell] at hv
  rcases hv with rfl | rfl <;> rfl
theorem vcells_at {l : List Nat} {k V : Nat} (h : l[k]? = some V) : (vcells l)[k * 2]? = some (.int .u64 (lo V)) ∧ (vcells l)[k * 2 + 1]? = some (.int .u64 (hi V)) :=
  ⟨flat_at vcell_len l k V h 0 (by omega), flat_at vcell_len l k V h 1 (by omega)⟩
/-- Numbers that are still to be read. -/
def ucells (l : List Nat) : List Value := l.map fun (v : Nat) => .int .u64 (v : Int)
def InAt (w : World) (B : Nat) (v : Value) (l : List Nat) : Prop :=
  ∃ A n c, v = .slice A n c ∧ l.length = n ∧ n ≤ c ∧ c ≤ 9223372036854775807 ∧ (A = none → c = 0) ∧ Sees w B A (ucells l)
section
variable {w w' : World} {base : Nat}
theorem InAt.below {B : Nat} {v : Value} {l : List Nat} (h : InAt w B v l) (hb : Below B w w') : InAt w' B v l := by
  obtain ⟨A, n, c, h1, h2, h3, h4, h5, h6⟩ := h
  exact ⟨A, n, c, h1, h2, h3, h4, h5, h6.below hb⟩
/-- A row of another type lies elsewhere. -/
theorem own_offT {base e size n : Nat} {v : Value} {xs : List Value} {g : Nat} {cs : Array Value} {t : TypeId} {fr : Nat × Nat} (h : w.ownsRow base e size v n xs) (hg : w.heap[g]? = some (.cells cs t fr)) (ht : t ≠ e) : v.ownBlock = none ∨ v.ownBlock ≠ some g := by
  rcases h.2 with ⟨rfl, _⟩ | ⟨g', cap, cur, rfl, _, hh, _⟩
  · exact .inl rfl
  · refine .inr fun he => ?_
    injection he with he
    simp only at he
    rw [he, hg] at hh
    injection hh with hh
    injection hh with _ e3
    exact ht e3
theorem own_shape {w : World} {e size n : Nat} {v : Value} {xs : List Value} (h : w.ownsRow base e size v n xs) : ∃ A c, v = .slice A n c := by
  rcases h.2 with ⟨rfl, rfl⟩ | ⟨k, cap, cur, rfl, _⟩
  · exact ⟨_, _, rfl⟩
  · exact ⟨_, _, rfl⟩
theorem InAt.more {w : World} {B B' : Nat} {v : Value} {l : List Nat} (h : InAt w B v l) (hB : B ≤ B') : InAt w B' v l := by
  obtain ⟨A, n, c, h1, h2, h3, h4, h5, h6⟩ := h
  exact ⟨A, n, c, h1, h2, h3, h4, h5, h6.more hB⟩
theorem own_zbase {w : World} {base base' : Nat} {e : TypeId} {size n : Nat} {v : Value} {xs : List Value} (h : w.ownsRow base e size v n xs) (hb : base' ≤ base) : w.ownsRow base' e size v n xs := by
  refine ⟨h.1, ?_⟩
  rcases h.2 with h2 | ⟨g, cap, cur, hv, hg, hh, hr⟩
  · exact .inl h2
  · exact .inr ⟨g, cap, cur, hv, by omega, hh, hr⟩
theorem own_oneCell {w : World} {base : Nat} {e : TypeId} {size n : Nat} {v : Value} {xs : List Value} (h : w.ownsRow base e size v n xs) : v.oneCell' = true := by
  rcases h.2 with ⟨rfl, _⟩ | ⟨k, cap, cur, rfl, _⟩ <;> rfl
theorem in_oneCell {w : World} {B : Nat} {v : Value} {l : List Nat} (h : InAt w B v l) : v.oneCell' = true := by
  obtain ⟨A, n, c, rfl, _⟩ := h; rfl
end
theorem own_shrink {w : World} {base e size k c : Nat} {A : Option Addr} {xs : List Value} (h : w.ownsRow base e size (.slice A (k + 1) c) (k + 1) xs) : w.ownsRow base e size (.slice A k c) k (xs.take (k * size)) := by
  have hl := h.1
  rcases h.2 with ⟨e1, h0⟩ | ⟨G, cap, cur, hv, hb, hh, hn, hm, hs, ht⟩
  · omega
  · injection hv with h1 h2 h3
    subst h1 h3
    refine ⟨by rw [List.length_take, hl, Nat.min_eq_left (Nat.mul_le_mul_right _ (by omega))], .inr ⟨G, c, cur, rfl, hb, hh, by omega, hm, hs, ?_⟩⟩
    rw [← ht, List.take_take, Nat.min_eq_left (Nat.mul_le_mul_right _ (by omega))]
theorem vcells_set (V : Nat) : ∀ (l : List Nat) (i : Nat), i < l.length → ((vcells l).set (i * 2) (.int .u64 (lo V))).set (i * 2 + 1) (.int .u64 (hi V)) = vcells (l.set i V)
  | [], i, h => by simp at h
  | U :: r, 0, _ => rfl
  | U :: r, i + 1, h => by
    have e : vcells (U :: r) = .int .u64 (lo U) :: .int .u64 (hi U) :: vcells r := rfl
    rw [e, show (i + 1) * 2 = i * 2 + 1 + 1 by omega, show i * 2 + 1 + 1 + 1 = (i * 2 + 1) + 1 + 1 by omega]
    simp only [List.set_cons_succ]
    rw [vcells_set V r i (by simpa using h)]
    rfl
theorem vcell_oneCell (V : Nat) : ∀ u ∈ vcell V, u.oneCell' = true := by
  intro u hu
  simp [vcell] at hu
  rcases hu with rfl | rfl <;> rfl
theorem lo_small {v : Int} (h : 0 ≤ v ∧ v ≤ 18446744073709551615) : v = lo v.toNat ∧ (0 : Int) = hi v.toNat := by
  unfold lo hi
  omega
theorem put_grown (w : World) (g k : Nat) (u : Value) : w.grownBy (w.setCell ⟨g, k, none⟩ u) (some g) := ⟨rfl, rfl, rfl, by simp [World.setCell], fun i _ hi => Below.heap_setCell w ⟨g, k, none⟩ u i (fun e => hi (by rw [e]))⟩
theorem put_grown2 (w : World) (g k k2 : Nat) (u u2 : Value) : w.grownBy ((w.setCell ⟨g, k, none⟩ u).setCell ⟨g, k2, none⟩ u2) (some g) := World.grownBy.trans (put_grown w g k u) (put_grown _ g k2 u2)
end Go.Proofs.YtipjeihfhnilcaaDoor
end
