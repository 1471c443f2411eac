import Derived.Test.YtipjeihfhnilcaaMDcw
set_option linter.unusedVariables false
set_option linter.unusedSimpArgs false
section
/-
  spillframedraw's Next, Word and Value with a bound on how many choices are left: at most r before, at most r behind; Next takes one away if one is left. Conditions: those of the types.
-/
namespace Go.Proofs.Ytipjeihfhnilcaa
open Go.RowKit
attribute [local go_sem ↓] Go.wp_at_zero Go.wp_at_succ

/-- Block g holds a list of choices and a place in it, at most r of them are left; the list lies below g. -/
def CodesM (r0 : Nat) (w : World) (g : Nat) : Prop :=
  ∃ (A : Option Addr) (n c : Nat) (zs : List Int) (i : Nat), Row w g 65 [.slice A n c, .int .i64 (i : Int)] ∧ Sees w g A (cellsU8 zs) ∧ zs.length = n ∧ n ≤ 9223372036854775807 ∧ (∀ z ∈ zs, 0 ≤ z ∧ z ≤ 255) ∧ i ≤ n ∧ n - i ≤ r0
theorem CodesM.codes {r0 : Nat} {w : World} {g : Nat} (h : CodesM r0 w g) : Codes w g := by
  obtain ⟨A, n, c, zs, i, r, s, h1, h2, h3, h4, _⟩ := h
  exact ⟨A, n, c, zs, i, r, s, h1, h2, h3, h4⟩
theorem Codes.some_left {w : World} {g : Nat} (h : Codes w g) : ∃ r0, CodesM r0 w g := by
  obtain ⟨A, n, c, zs, i, r, s, h1, h2, h3, h4⟩ := h
  exact ⟨n - i, A, n, c, zs, i, r, s, h1, h2, h3, h4, Nat.le_refl _⟩
theorem CodesM.weak {r0 r1 : Nat} {w : World} {g : Nat} (h : CodesM r0 w g) (hr : r0 ≤ r1) : CodesM r1 w g := by
  obtain ⟨A, n, c, zs, i, r, s, h1, h2, h3, h4, h5⟩ := h
  exact ⟨A, n, c, zs, i, r, s, h1, h2, h3, h4, Nat.le_trans h5 hr⟩
theorem CodesM.lt {r0 : Nat} {w : World} {g : Nat} (h : CodesM r0 w g) : g < w.heap.size := by
  obtain ⟨A, n, c, zs, i, r, _⟩ := h
  exact r.lt
theorem CodesM.below {r0 : Nat} {w w' : World} {g : Nat} (h : CodesM r0 w g) (hb : Below w.heap.size w w') : CodesM r0 w' g := by
  have hl := h.lt
  obtain ⟨A, n, c, zs, i, r, s, h⟩ := h
  exact ⟨A, n, c, zs, i, r.call hb, s.keep fun p hp => hb.cell (by omega), h⟩
theorem CodesM.kept {r0 : Nat} {w w' : World} {g : Nat} {row : Option Nat} (h : CodesM r0 w g) (hg : w.grownBy w' row) (hr : ∀ k, row = some k → g < k) : CodesM r0 w' g := by
  have hl := h.lt
  obtain ⟨A, n, c, zs, i, r, s, h⟩ := h
  refine ⟨A, n, c, zs, i, r.grown hg (fun e => ?_), s.keep fun p hp => ?_, h⟩
  · have := hr g e.symm
    omega
  · exact World.cell?_of_block (hg.block p.block (by omega) (fun e => by have := hr p.block e.symm; omega))
theorem CodesM.drewN {r0 : Nat} {w : World} {g : Nat} (h : CodesM r0 w g) (n : Nat) : CodesM r0 (w.drewN n) g := by
  obtain ⟨A, n', c, zs, i, r, s, h⟩ := h
  exact ⟨A, n', c, zs, i, r.drewN n, s.draws n, h⟩
theorem CodesM.drew {r0 : Nat} {w : World} {g : Nat} (h : CodesM r0 w g) : CodesM r0 w.drew g := h.drewN 1
theorem CodesM.alloc {r0 : Nat} {w : World} {g : Nat} (h : CodesM r0 w g) (o : Obj) : CodesM r0 (w.alloc o) g := h.below (below1 w o)
theorem CodesM.row {r0 : Nat} {w : World} {g : Nat} (h : CodesM r0 w g) : ∃ (a b : Value), Row w g 65 [a, b] ∧ boxy a = true ∧ boxy b = true := by
  obtain ⟨A, n, c, zs, i, r, _⟩ := h
  exact ⟨_, _, r, rfl, rfl⟩
theorem CodesM.put {r0 : Nat} {w : World} {g k j : Nat} {u0 : Value} {t : Nat} {cs : List Value} (h : CodesM r0 w g) (hr : Row w k t cs) (ht : t ≠ 65) (hc : w.cell? ⟨k, j, none⟩ = some u0) (hu : boxy u0 = true) (u : Value) : CodesM r0 (w.setCell ⟨k, j, none⟩ u) g := by
  obtain ⟨A, n, c, zs, i, r, s, h1, h2, h3, h4⟩ := h
  refine ⟨A, n, c, zs, i, r.far (p := ⟨k, j, none⟩) (fun e => hr.ne_ r ht e.symm) u, s.put hc ?_, h1, h2, h3, h4⟩
  intro x hx e
  have := cellsU8_boxy _ x hx
  rw [e, hu] at this
  cases this

def NextPostM (r0 : Nat) (g : Nat) (k : Int) (w : World) (e : Ending) (w' : World) : Prop := ∃ v : Int, e = .returned (.int .i64 v) ∧ 0 ≤ v ∧ v < k ∧ CodesM r0 w' g ∧ w.grownBy w' (some g) ∧ w'.heap.size = w.heap.size

set_option maxHeartbeats 800000 in
theorem next_m {r0 : Nat} (g : Nat) (k : Int) (w : World) (h : Hid (CodesM r0 w g)) (hk : 1 ≤ k) (hk1 : k ≤ 4294967296) : Calls Try.prog 9 #[.pointer (some ⟨g, 0, none⟩), .int .i64 k] w (NextPostM (r0 - 1) g k w) := by
  obtain ⟨A, n, c, zs, i, r, s, hn, hm, hz, hi, hrem⟩ := h.out
  have hr := hide r
  have hR := hide (show ¬ i < n → CodesM (r0 - 1) w g from fun hh => ⟨A, n, c, zs, i, r, s, hn, hm, hz, hi, by omega⟩)
  by_cases hlt : i < n
  · have cl := left_any g A n c i w hr true (decide_eq_true (by omega))
    obtain ⟨b, off, v, rfl, hbg, hcell, v0, v1, _⟩ := byte_at s (by omega : i < zs.length) hz
    have hs := hide s
    have Hn := hide hn
    have Hz := hide hz
    have x0 : 0 ≤ v * k := Int.mul_nonneg v0 (by omega)
    have x1 : v * k ≤ 255 * k := Int.mul_le_mul_of_nonneg_right v1 (by omega)
    have c0 := r.cell (k := 0) rfl
    have c1 := r.cell (k := 1) rfl
    have z1 := r.free 1
    have hi0 : (0 : Int) ≤ (i : Int) := by omega
    have hi1 : (i : Int) < (n : Int) := by omega
    clear s hz hn r
    go_enter Try.func9, Try.ntmps9
    go_wp2_with fail
    refine cl.mono ?_
    rintro e w' ⟨rfl, q, rfl⟩
    go_wp2_with fail
    go_quiet (fail)
    go_wp2_with fail
    go_ret
    refine ⟨_, rfl, by omega, by omega, ?_, ?_, by simp [World.setCell]⟩
    · refine ⟨some ⟨b, off, none⟩, n, c, zs, i + 1, ?_, ?_, Hn.out, hm, Hz.out, by omega, by omega⟩
      · exact ((hr.out.drewN _).set_ 1 _)
      · exact (hs.out.draws _).keep fun p hp => World.cell?_setCell_other _ _ _ _ (fun e => by subst e; simp at hp)
    · exact grown_set (grown_draws (World.grownBy.refl w _) _) 1 _
  · have cl := left_any g A n c i w hr false (decide_eq_false (by omega))
    clear s hn hz
    go_enter Try.func9, Try.ntmps9
    go_wp2_with fail
    refine cl.mono ?_
    rintro e w' ⟨rfl, q, rfl⟩
    go_wp2_with fail
    go_ret
    exact ⟨0, rfl, by omega, by omega, (hR.out hlt).drewN q, grown_draws (World.grownBy.refl w _) q, rfl⟩
theorem next_w {r0 : Nat} (g : Nat) (k : Int) (w : World) (h : Hid (CodesM r0 w g)) (hk : 1 ≤ k) (hk1 : k ≤ 4294967296) : Calls Try.prog 9 #[.pointer (some ⟨g, 0, none⟩), .int .i64 k] w (NextPostM r0 g k w) :=
  (next_m g k w h hk hk1).mono fun _ _ ⟨v, h1, h2, h3, h4, h5⟩ => ⟨v, h1, h2, h3, h4.weak (Nat.sub_le _ _), h5⟩
def WordPostM (r0 : Nat) (g : Nat) (w : World) (e : Ending) (w' : World) : Prop := ∃ v : Int, e = .returned (.int .u64 v) ∧ isW v ∧ CodesM r0 w' g ∧ w.grownBy w' (some g) ∧ w'.heap.size = w.heap.size

set_option maxHeartbeats 1000000 in
theorem cword_m {r0 : Nat} (g : Nat) (w : World) (h : Hid (CodesM r0 w g)) : Calls Try.prog 42 #[.pointer (some ⟨g, 0, none⟩)] w (WordPostM r0 g w) := by
  have c := fun k W (h : Hid (CodesM r0 W g)) h1 h2 => next_w (r0 := r0) g k W h h1 h2
  go_enter Try.func42, Try.ntmps42
  go_wp2_with fail
  refine (c 6 _ h (by omega) (by omega)).mono ?_
  rintro e w1 ⟨v, rfl, v0, v1, hC, hG, hz⟩
  have HC := hide hC
  have HG := hide hG
  have HZ := hide hz
  clear hC hG hz
  rcases (show v = 0 ∨ v = 1 ∨ v = 2 ∨ 3 ≤ v by omega) with rfl | rfl | rfl | hv
  · go_wp2_with fail
    refine (c 3 _ HC (by omega) (by omega)).mono ?_
    rintro e w2 ⟨u, rfl, u0, u1, hC2, hG2, hz2⟩
    have HC2 := hide hC2
    have HG2 := hide (HG.out.trans hG2)
    have HZ2 := hide (hz2.trans HZ.out)
    clear hC2 hG2 hz2
    go_wp2_with fail
    go_ret
    exact ⟨_, rfl, ⟨by omega, by omega⟩, HC2.out, HG2.out, HZ2.out⟩
  · go_wp2_with fail
    refine (c 64 _ HC (by omega) (by omega)).mono ?_
    rintro e w2 ⟨u, rfl, u0, u1, hC2, hG2, hz2⟩
    have HC2 := hide hC2
    have HG2 := hide (HG.out.trans hG2)
    have HZ2 := hide (hz2.trans HZ.out)
    clear hC2 hG2 hz2
    go_wp2_with fail
    go_ret
    exact ⟨_, rfl, wrap_isW _, HC2.out, HG2.out, HZ2.out⟩
  · go_wp2_with fail
    go_ret
    exact ⟨0, rfl, ⟨by omega, by omega⟩, HC.out, HG.out, HZ.out⟩
  · have b0 : (v == 0) = false := by simp; omega
    have b1 : (v == 1) = false := by simp; omega
    have b2 : (v == 2) = false := by simp; omega
    go_wp2_with fail
    refine (c 256 _ HC (by omega) (by omega)).mono ?_
    rintro e w2 ⟨u, rfl, u0, u1, hC2, hG2, hz2⟩
    have HC2 := hide hC2
    have HG2 := hide (HG.out.trans hG2)
    have HZ2 := hide (hz2.trans HZ.out)
    clear hC2 hG2 hz2
    go_wp2_with fail
    go_ret
    exact ⟨u, rfl, ⟨by omega, by omega⟩, HC2.out, HG2.out, HZ2.out⟩
def ValPostM (r0 : Nat) (g : Nat) (w : World) (e : Ending) (w' : World) : Prop := ∃ X : Nat, e = .returned (vv X) ∧ X < two128 ∧ CodesM r0 w' g ∧ w.grownBy w' (some g)
theorem CodesM.below_ {r0 : Nat} {w w' : World} {g : Nat} (h : CodesM r0 w g) (hb : Below w.heap.size w w') : CodesM r0 w' g := h.below hb

set_option maxHeartbeats 2000000 in
theorem value_m {r0 : Nat} (g : Nat) (w : World) (h : Hid (CodesM r0 w g)) : Calls Try.prog 16 #[.pointer (some ⟨g, 0, none⟩)] w (ValPostM r0 g w) := by
  have hgl := h.out.lt
  have cw := fun W (HC : Hid (CodesM r0 W g)) => cword_m g W HC
  have cn := fun W (HC : Hid (CodesM r0 W g)) => next_w (r0 := r0) g 2 W HC (by omega) (by omega)
  obtain ⟨W0, hW0⟩ : ∃ W, w.alloc (.cells #[.int .u64 0, .int .u64 0] 39) = W := ⟨_, rfl⟩
  have HW0 := hide hW0
  have RZ := hide (show Row W0 w.heap.size 39 [.int .u64 0, .int .u64 0] by rw [← hW0]; exact Row.new w _ _)
  have C0 := hide (show CodesM r0 W0 g by rw [← hW0]; exact h.out.alloc _)
  have G0 := hide (show w.grownBy W0 (some g) by rw [← hW0]; exact grown_below (below1 w _) _)
  clear hW0
  go_enter Try.func16, Try.ntmps16
  go_upto_region 1 with (fail)
  rw [HW0.out]
  go_wp2_with fail
  go_fit (cw _ C0)
  rintro e w1 ⟨v0, rfl, ⟨l0, l1⟩, hC1, hg1, hz1⟩
  have RZ1 := hide (RZ.out.next C0.out.codes (by decide) hg1)
  have G1 := hide (G0.out.trans hg1)
  have C1 := hide hC1
  clear hC1 hg1 hz1
  go_upto_region 2 with (fail)
  obtain ⟨W2, hW2⟩ : ∃ W, w1.alloc (.cells #[.int .u64 v0, .int .u64 0] 39) = W := ⟨_, rfl⟩
  have HW2 := hide hW2
  have RZ2 := hide (show Row W2 w.heap.size 39 [.int .u64 0, .int .u64 0] by rw [← hW2]; exact RZ1.out.alloc _)
  have RY2 := hide (show Row W2 w1.heap.size 39 [.int .u64 v0, .int .u64 0] by rw [← hW2]; exact Row.new w1 _ _)
  have C2 := hide (show CodesM r0 W2 g by rw [← hW2]; exact C1.out.alloc _)
  have G2 := hide (show w.grownBy W2 (some g) by rw [← hW2]; exact G1.out.trans (grown_below (below1 w1 _) _))
  have hzy := hide (show w.heap.size < w1.heap.size from RZ1.out.lt)
  clear hW2
  rw [HW2.out]
  go_wp2_with fail
  go_fit (cn _ C2)
  rintro e w3 ⟨b, rfl, b0, b1, hC3, hg3, hz3⟩
  have RZ3 := hide (RZ2.out.next C2.out.codes (by decide) hg3)
  have RY3 := hide (RY2.out.next C2.out.codes (by decide) hg3)
  have G3 := hide (G2.out.trans hg3)
  have C3 := hide hC3
  clear hC3 hg3 hz3 RZ RZ1 RZ2 RY2 C0 C1 C2 G0 G1 G2
  have fin : ∀ (W : World) (x y : Int), 0 ≤ x → x ≤ 18446744073709551615 → 0 ≤ y → y ≤ 18446744073709551615 → CodesM r0 W g → w.grownBy W (some g) → ValPostM r0 g w (.returned (.agg #[.int .u64 x, .int .u64 y])) W := by
    intro W x y x0 x1 y0 y1 hC hG
    exact ⟨num x y, by unfold vv; rw [lo_num x0 x1 y0 y1, hi_num x0 x1 y0 y1], num_lt x1 y1, hC, hG⟩
  have store : ∀ (W : World) (x y : Int), w.grownBy W (some g) → CodesM r0 W g → Row W w.heap.size 39 [.int .u64 0, .int .u64 0] → CodesM r0 ((W.setCell ⟨w.heap.size, 0, none⟩ (.int .u64 x)).setCell ⟨w.heap.size, 1, none⟩ (.int .u64 y)) g ∧ w.grownBy ((W.setCell ⟨w.heap.size, 0, none⟩ (.int .u64 x)).setCell ⟨w.heap.size, 1, none⟩ (.int .u64 y)) (some g) ∧ Row ((W.setCell ⟨w.heap.size, 0, none⟩ (.int .u64 x)).setCell ⟨w.heap.size, 1, none⟩ (.int .u64 y)) w.heap.size 39 [.int .u64 x, .int .u64 y] := by
    intro W x y hG hC hR
    refine ⟨(hC.put hR (by decide) (hR.cell (k := 0) rfl) rfl _).put (hR.set_ 0 _) (by decide) ((hR.set_ 0 _).cell (k := 1) rfl) rfl _, ?_, (hR.set_ 0 _).set_ 1 _⟩
    refine ⟨hG.os, hG.tape, hG.output, by simpa [World.setCell] using hG.size, fun i hi hne => ?_⟩
    rw [Below.heap_setCell _ _ _ _ (by simp; omega), Below.heap_setCell _ _ _ _ (by simp; omega)]
    exact hG.block i hi hne
  have Fin := hide fin
  have Sto := hide store
  clear fin store
  by_cases h1 : b = 1
  · subst h1
    go_wp2_with fail
    go_fit (cw _ C3)
    rintro e w4 ⟨v1, rfl, ⟨m0, m1⟩, hC4, hg4, hz4⟩
    have RZ4 := hide (RZ3.out.next C3.out.codes (by decide) hg4)
    have RY4 := hide (RY3.out.next C3.out.codes (by decide) hg4)
    have G4 := hide (G3.out.trans hg4)
    have C4 := hide hC4
    clear hC4 hg4 hz4
    have y0 := RY4.out.cell (k := 0) rfl
    have y1 := RY4.out.cell (k := 1) rfl
    have q1 := RY4.out.free 1
    go_upto_region 4 with (fail)
    obtain ⟨W5, hW5⟩ : ∃ W, w4.setCell ⟨w1.heap.size, 1, none⟩ (.int .u64 v1) = W := ⟨_, rfl⟩
    have HW5 := hide hW5
    have RZ5 := hide (show Row W5 w.heap.size 39 [.int .u64 0, .int .u64 0] by rw [← hW5]; exact RZ4.out.far (p := ⟨w1.heap.size, 1, none⟩) (by have := hzy.out; simp; omega) _)
    have RY5 := hide (show Row W5 w1.heap.size 39 [.int .u64 v0, .int .u64 v1] by rw [← hW5]; exact RY4.out.set_ 1 _)
    have C5 := hide (show CodesM r0 W5 g by rw [← hW5]; exact C4.out.put RY4.out (by decide) y1 rfl _)
    have G5 := hide (show w.grownBy W5 (some g) by
      rw [← hW5]
      exact ⟨G4.out.os, G4.out.tape, G4.out.output, by simpa [World.setCell] using G4.out.size, fun i hi hne => (Below.heap_setCell _ _ _ _ (by have := hzy.out; simp; omega)).trans (G4.out.block i hi hne)⟩)
    clear hW5 y0 y1 q1
    rw [HW5.out]
    have y0 := RY5.out.cell (k := 0) rfl
    have y1 := RY5.out.cell (k := 1) rfl
    have z0 := RZ5.out.cell (k := 0) rfl
    have z1 := RZ5.out.cell (k := 1) rfl
    have p0 := RZ5.out.free 0
    have p1 := RZ5.out.free 1
    obtain ⟨s1, s2, s3⟩ := Sto.out W5 v0 v1 G5.out C5.out RZ5.out
    go_wp2_with fail
    have z0 := s3.cell (k := 0) rfl
    have z1 := s3.cell (k := 1) rfl
    exact bodyPost_ret (v := .agg #[.int .u64 v0, .int .u64 v1]) (by simp [results, Try.results16, go_sem, z0, z1]) rfl (Fin.out _ _ _ l0 l1 m0 m1 s1 s2)
  · have hb : (b == 1) = false := by simpa using h1
    have y0 := RY3.out.cell (k := 0) rfl
    have y1 := RY3.out.cell (k := 1) rfl
    have z0 := RZ3.out.cell (k := 0) rfl
    have z1 := RZ3.out.cell (k := 1) rfl
    have p0 := RZ3.out.free 0
    have p1 := RZ3.out.free 1
    obtain ⟨s1, s2, s3⟩ := Sto.out w3 v0 0 G3.out C3.out RZ3.out
    go_wp2_with fail
    have z0 := s3.cell (k := 0) rfl
    have z1 := s3.cell (k := 1) rfl
    exact bodyPost_ret (v := .agg #[.int .u64 v0, .int .u64 0]) (by simp [results, Try.results16, go_sem, z0, z1]) rfl (Fin.out _ _ _ l0 l1 (by omega) (by omega) s1 s2)
end Go.Proofs.Ytipjeihfhnilcaa
end
