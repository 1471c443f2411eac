import Derived.Test.YtipjeihfhnilcaaMDraw
import Derived.Test.YtipjeihfhnilcaaMKlawm
import Derived.Deep.DeepFit
set_option linter.unusedVariables false
set_option linter.unusedSimpArgs false
section
/-
  The contract of spillframedraw's Word. Conditions: the receiver is a list of choices.
-/
namespace Go.Proofs.Ytipjeihfhnilcaa
open Go.RowKit

/-- A word of 64 bits. -/
def isW (v : Int) : Prop := 0 ≤ v ∧ v ≤ 18446744073709551615
theorem wrap_isW (z : Int) : isW (IntKind.u64.wrap z) := by
  simp only [isW, IntKind.wrap, IntKind.signed, IntKind.bits]
  simp
  omega
def WordPost (g : Nat) (w : World) (e : Ending) (w' : World) : Prop := ∃ v : Int, e = .returned (.int .u64 v) ∧ isW v ∧ Codes w' g ∧ w.grownBy w' (some g) ∧ w'.heap.size = w.heap.size

set_option maxHeartbeats 1000000 in
theorem cword_any (g : Nat) (w : World) (h : Hid (Codes w g)) : Calls Try.prog 42 #[.pointer (some ⟨g, 0, none⟩)] w (WordPost g w) := by
  have c := next_any g
  go_enter Try.func42, Try.ntmps42
  go_wp2_with fail
  refine (c 6 _ h (by omega) (by omega)).mono ?_
  rintro e w1 ⟨v, rfl, v0, v1, hC, hG, hz⟩
  have HC := hide hC
  have HG := hide hG
  have HZ := hide hz
  clear hC hG hz
  rcases (show v = 0 ∨ v = 1 ∨ v = 2 ∨ 3 ≤ v by omega) with rfl | rfl | rfl | hv
  · go_wp2_with fail
    refine (c 3 _ HC (by omega) (by omega)).mono ?_
    rintro e w2 ⟨u, rfl, u0, u1, hC2, hG2, hz2⟩
    have HC2 := hide hC2
    have HG2 := hide (HG.out.trans hG2)
    have HZ2 := hide (hz2.trans HZ.out)
    clear hC2 hG2 hz2
    go_wp2_with fail
    go_ret
    exact ⟨_, rfl, ⟨by omega, by omega⟩, HC2.out, HG2.out, HZ2.out⟩
  · go_wp2_with fail
    refine (c 64 _ HC (by omega) (by omega)).mono ?_
    rintro e w2 ⟨u, rfl, u0, u1, hC2, hG2, hz2⟩
    have HC2 := hide hC2
    have HG2 := hide (HG.out.trans hG2)
    have HZ2 := hide (hz2.trans HZ.out)
    clear hC2 hG2 hz2
    go_wp2_with fail
    go_ret
    exact ⟨_, rfl, wrap_isW _, HC2.out, HG2.out, HZ2.out⟩
  · go_wp2_with fail
    go_ret
    exact ⟨0, rfl, ⟨by omega, by omega⟩, HC.out, HG.out, HZ.out⟩
  · have b0 : (v == 0) = false := by simp; omega
    have b1 : (v == 1) = false := by simp; omega
    have b2 : (v == 2) = false := by simp; omega
    go_wp2_with fail
    refine (c 256 _ HC (by omega) (by omega)).mono ?_
    rintro e w2 ⟨u, rfl, u0, u1, hC2, hG2, hz2⟩
    have HC2 := hide hC2
    have HG2 := hide (HG.out.trans hG2)
    have HZ2 := hide (hz2.trans HZ.out)
    clear hC2 hG2 hz2
    go_wp2_with fail
    go_ret
    exact ⟨u, rfl, ⟨by omega, by omega⟩, HC2.out, HG2.out, HZ2.out⟩
end Go.Proofs.Ytipjeihfhnilcaa
end

section
/-
  Stacks, boxes and lists of choices beside each other: what a choice and a store keep; the contract of spillframedraw's Value. Conditions: those of the types.
-/
namespace Go.Proofs.Ytipjeihfhnilcaa
open Go.RowKit
attribute [local go_sem ↓] Go.wp_at_zero Go.wp_at_succ

theorem Codes.row {w : World} {g : Nat} (h : Codes w g) : ∃ (a b : Value), Row w g 65 [a, b] ∧ boxy a = true ∧ boxy b = true := by
  obtain ⟨A, n, c, zs, i, r, _⟩ := h
  exact ⟨_, _, r, rfl, rfl⟩
theorem Sees.but {w w' : World} {g B t : Nat} {A : Option Addr} {xs : List Value} {a b : Value} (h : Sees w B A xs) (hg : w.grownBy w' (some g)) (hB : B ≤ w.heap.size) (hr : Row w g t [a, b]) (ha : boxy a = true) (hb : boxy b = true) (hx : ∀ x ∈ xs, boxy x = false) : Sees w' B A xs := by
  intro k v hk
  obtain ⟨bl, off, e, hbl, hc⟩ := h k v hk
  refine ⟨bl, off, e, hbl, ?_⟩
  by_cases hgb : bl = g
  · exfalso
    subst hgb
    have hv := hx v (List.mem_of_getElem? hk)
    rcases Nat.lt_or_ge (off + k) 2 with h2 | h2
    · rcases (show off + k = 0 ∨ off + k = 1 by omega) with h3 | h3
      · rw [h3] at hc
        rw [hr.cell (k := 0) rfl] at hc
        injection hc with hc
        rw [← hc, ha] at hv; cases hv
      · rw [h3] at hc
        rw [hr.cell (k := 1) rfl] at hc
        injection hc with hc
        rw [← hc, hb] at hv; cases hv
    · unfold Row at hr
      simp only [World.cell?, hr] at hc
      rw [Array.getElem?_eq_none (by simp; omega)] at hc
      cases hc
  · exact (World.cell?_of_block (hg.block bl (by omega) (fun e => hgb (by injection e)))).trans hc
theorem cellsU8_boxy (l : List Int) : ∀ x ∈ cellsU8 l, boxy x = false := by
  intro x hx
  simp only [cellsU8, List.mem_map] at hx
  obtain ⟨z, _, rfl⟩ := hx
  rfl
theorem cellsB_boxy (l : List Bool) : ∀ x ∈ cellsB l, boxy x = false := by
  intro x hx
  simp only [cellsB, List.mem_map] at hx
  obtain ⟨z, _, rfl⟩ := hx
  rfl
/-- A choice keeps every stack. -/
theorem StkAt.next {w w' : World} {A1 A2 : Option Addr} {c1 c2 g : Nat} {S : Sk} (h : StkAt w w.heap.size A1 c1 A2 c2 S) (hC : Codes w g) (hg : w.grownBy w' (some g)) : StkAt w' w'.heap.size A1 c1 A2 c2 S := by
  obtain ⟨a, b, hr, ha, hb⟩ := hC.row
  exact ⟨h.ok, h.k1, h.k2, h.m1, h.m2, (h.s1.but hg (Nat.le_refl _) hr ha hb (cellsU8_boxy _)).more hg.size, (h.s2.but hg (Nat.le_refl _) hr ha hb (cellsB_boxy _)).more hg.size⟩
theorem Row.next {w w' : World} {g k t : Nat} {cs : List Value} (h : Row w k t cs) (hC : Codes w g) (ht : t ≠ 65) (hg : w.grownBy w' (some g)) : Row w' k t cs := by
  obtain ⟨a, b, hr, _, _⟩ := hC.row
  exact h.grown hg (fun e => by injection e with e; exact h.ne_ hr ht e)
/-- A store into a box keeps the list of choices. -/
theorem Codes.put {w : World} {g k j : Nat} {u0 : Value} {t : Nat} {cs : List Value} (h : Codes w g) (hr : Row w k t cs) (ht : t ≠ 65) (hc : w.cell? ⟨k, j, none⟩ = some u0) (hu : boxy u0 = true) (u : Value) : Codes (w.setCell ⟨k, j, none⟩ u) g := by
  obtain ⟨A, n, c, zs, i, r, s, h1, h2, h3, h4⟩ := h
  refine ⟨A, n, c, zs, i, r.far (p := ⟨k, j, none⟩) (fun e => hr.ne_ r ht e.symm) u, s.put hc ?_, h1, h2, h3, h4⟩
  intro x hx e
  have := cellsU8_boxy _ x hx
  rw [e, hu] at this
  cases this

def ValPost (g : Nat) (w : World) (e : Ending) (w' : World) : Prop := ∃ X : Nat, e = .returned (vv X) ∧ X < two128 ∧ Codes w' g ∧ w.grownBy w' (some g)
theorem Codes.below_ {w w' : World} {g : Nat} (h : Codes w g) (hb : Below w.heap.size w w') : Codes w' g := h.below hb

set_option maxHeartbeats 2000000 in
theorem value_any (g : Nat) (w : World) (h : Hid (Codes w g)) : Calls Try.prog 16 #[.pointer (some ⟨g, 0, none⟩)] w (ValPost g w) := by
  have hgl := h.out.lt
  have cw := fun W (HC : Hid (Codes W g)) => cword_any g W HC
  have cn := fun W (HC : Hid (Codes W g)) => next_any g 2 W HC (by omega) (by omega)
  obtain ⟨W0, hW0⟩ : ∃ W, w.alloc (.cells #[.int .u64 0, .int .u64 0] 39) = W := ⟨_, rfl⟩
  have HW0 := hide hW0
  have RZ := hide (show Row W0 w.heap.size 39 [.int .u64 0, .int .u64 0] by rw [← hW0]; exact Row.new w _ _)
  have C0 := hide (show Codes W0 g by rw [← hW0]; exact h.out.alloc _)
  have G0 := hide (show w.grownBy W0 (some g) by rw [← hW0]; exact grown_below (below1 w _) _)
  clear hW0
  go_enter Try.func16, Try.ntmps16
  go_upto_region 1 with (fail)
  rw [HW0.out]
  go_wp2_with fail
  go_fit (cw _ C0)
  rintro e w1 ⟨v0, rfl, ⟨l0, l1⟩, hC1, hg1, hz1⟩
  have RZ1 := hide (RZ.out.next C0.out (by decide) hg1)
  have G1 := hide (G0.out.trans hg1)
  have C1 := hide hC1
  clear hC1 hg1 hz1
  go_upto_region 2 with (fail)
  obtain ⟨W2, hW2⟩ : ∃ W, w1.alloc (.cells #[.int .u64 v0, .int .u64 0] 39) = W := ⟨_, rfl⟩
  have HW2 := hide hW2
  have RZ2 := hide (show Row W2 w.heap.size 39 [.int .u64 0, .int .u64 0] by rw [← hW2]; exact RZ1.out.alloc _)
  have RY2 := hide (show Row W2 w1.heap.size 39 [.int .u64 v0, .int .u64 0] by rw [← hW2]; exact Row.new w1 _ _)
  have C2 := hide (show Codes W2 g by rw [← hW2]; exact C1.out.alloc _)
  have G2 := hide (show w.grownBy W2 (some g) by rw [← hW2]; exact G1.out.trans (grown_below (below1 w1 _) _))
  have hzy := hide (show w.heap.size < w1.heap.size from RZ1.out.lt)
  clear hW2
  rw [HW2.out]
  go_wp2_with fail
  go_fit (cn _ C2)
  rintro e w3 ⟨b, rfl, b0, b1, hC3, hg3, hz3⟩
  have RZ3 := hide (RZ2.out.next C2.out (by decide) hg3)
  have RY3 := hide (RY2.out.next C2.out (by decide) hg3)
  have G3 := hide (G2.out.trans hg3)
  have C3 := hide hC3
  clear hC3 hg3 hz3 RZ RZ1 RZ2 RY2 C0 C1 C2 G0 G1 G2
  have fin : ∀ (W : World) (x y : Int), 0 ≤ x → x ≤ 18446744073709551615 → 0 ≤ y → y ≤ 18446744073709551615 → Codes W g → w.grownBy W (some g) → ValPost g w (.returned (.agg #[.int .u64 x, .int .u64 y])) W := by
    intro W x y x0 x1 y0 y1 hC hG
    exact ⟨num x y, by unfold vv; rw [lo_num x0 x1 y0 y1, hi_num x0 x1 y0 y1], num_lt x1 y1, hC, hG⟩
  have store : ∀ (W : World) (x y : Int), w.grownBy W (some g) → Codes W g → Row W w.heap.size 39 [.int .u64 0, .int .u64 0] → Codes ((W.setCell ⟨w.heap.size, 0, none⟩ (.int .u64 x)).setCell ⟨w.heap.size, 1, none⟩ (.int .u64 y)) g ∧ w.grownBy ((W.setCell ⟨w.heap.size, 0, none⟩ (.int .u64 x)).setCell ⟨w.heap.size, 1, none⟩ (.int .u64 y)) (some g) ∧ Row ((W.setCell ⟨w.heap.size, 0, none⟩ (.int .u64 x)).setCell ⟨w.heap.size, 1, none⟩ (.int .u64 y)) w.heap.size 39 [.int .u64 x, .int .u64 y] := by
    intro W x y hG hC hR
    refine ⟨(hC.put hR (by decide) (hR.cell (k := 0) rfl) rfl _).put (hR.set_ 0 _) (by decide) ((hR.set_ 0 _).cell (k := 1) rfl) rfl _, ?_, (hR.set_ 0 _).set_ 1 _⟩
    refine ⟨hG.os, hG.tape, hG.output, by simpa [World.setCell] using hG.size, fun i hi hne => ?_⟩
    rw [Below.heap_setCell _ _ _ _ (by simp; omega), Below.heap_setCell _ _ _ _ (by simp; omega)]
    exact hG.block i hi hne
  have Fin := hide fin
  have Sto := hide store
  clear fin store
  by_cases h1 : b = 1
  · subst h1
    go_wp2_with fail
    go_fit (cw _ C3)
    rintro e w4 ⟨v1, rfl, ⟨m0, m1⟩, hC4, hg4, hz4⟩
    have RZ4 := hide (RZ3.out.next C3.out (by decide) hg4)
    have RY4 := hide (RY3.out.next C3.out (by decide) hg4)
    have G4 := hide (G3.out.trans hg4)
    have C4 := hide hC4
    clear hC4 hg4 hz4
    have y0 := RY4.out.cell (k := 0) rfl
    have y1 := RY4.out.cell (k := 1) rfl
    have q1 := RY4.out.free 1
    go_upto_region 4 with (fail)
    obtain ⟨W5, hW5⟩ : ∃ W, w4.setCell ⟨w1.heap.size, 1, none⟩ (.int .u64 v1) = W := ⟨_, rfl⟩
    have HW5 := hide hW5
    have RZ5 := hide (show Row W5 w.heap.size 39 [.int .u64 0, .int .u64 0] by rw [← hW5]; exact RZ4.out.far (p := ⟨w1.heap.size, 1, none⟩) (by have := hzy.out; simp; omega) _)
    have RY5 := hide (show Row W5 w1.heap.size 39 [.int .u64 v0, .int .u64 v1] by rw [← hW5]; exact RY4.out.set_ 1 _)
    have C5 := hide (show Codes W5 g by rw [← hW5]; exact C4.out.put RY4.out (by decide) y1 rfl _)
    have G5 := hide (show w.grownBy W5 (some g) by
      rw [← hW5]
      exact ⟨G4.out.os, G4.out.tape, G4.out.output, by simpa [World.setCell] using G4.out.size, fun i hi hne => (Below.heap_setCell _ _ _ _ (by have := hzy.out; simp; omega)).trans (G4.out.block i hi hne)⟩)
    clear hW5 y0 y1 q1
    rw [HW5.out]
    have y0 := RY5.out.cell (k := 0) rfl
    have y1 := RY5.out.cell (k := 1) rfl
    have z0 := RZ5.out.cell (k := 0) rfl
    have z1 := RZ5.out.cell (k := 1) rfl
    have p0 := RZ5.out.free 0
    have p1 := RZ5.out.free 1
    obtain ⟨s1, s2, s3⟩ := Sto.out W5 v0 v1 G5.out C5.out RZ5.out
    go_wp2_with fail
    have z0 := s3.cell (k := 0) rfl
    have z1 := s3.cell (k := 1) rfl
    exact bodyPost_ret (v := .agg #[.int .u64 v0, .int .u64 v1]) (by simp [results, Try.results16, go_sem, z0, z1]) rfl (Fin.out _ _ _ l0 l1 m0 m1 s1 s2)
  · have hb : (b == 1) = false := by simpa using h1
    have y0 := RY3.out.cell (k := 0) rfl
    have y1 := RY3.out.cell (k := 1) rfl
    have z0 := RZ3.out.cell (k := 0) rfl
    have z1 := RZ3.out.cell (k := 1) rfl
    have p0 := RZ3.out.free 0
    have p1 := RZ3.out.free 1
    obtain ⟨s1, s2, s3⟩ := Sto.out w3 v0 0 G3.out C3.out RZ3.out
    go_wp2_with fail
    have z0 := s3.cell (k := 0) rfl
    have z1 := s3.cell (k := 1) rfl
    exact bodyPost_ret (v := .agg #[.int .u64 v0, .int .u64 0]) (by simp [results, Try.results16, go_sem, z0, z1]) rfl (Fin.out _ _ _ l0 l1 (by omega) (by omega) s1 s2)
end Go.Proofs.Ytipjeihfhnilcaa
end
