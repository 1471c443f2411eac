import Derived.Test.YtlkcjjalkdlicaaDoorMZlea
set_option linter.unusedVariables false
set_option linter.unusedSimpArgs false
section
/-
  The contracts of the machine's transfer, operation by operation (chapter 8). Conditions: those of the types.
-/
namespace Go.Proofs.YtlkcjjalkdlicaaDoor
open Go.RowKit

section
variable {g base : Nat} {vi vt vf vs : Value} {zs : List Zn} {s : Mch}
theorem TopAt.drewN {w : World} {G c k : Nat} {z : Zn} {ys : List Zn} (h : TopAt w vs zs G c k z ys) (n : Nat) : TopAt (w.drewN n) vs zs G c k z ys := ⟨h.v, h.eqz, h.len, h.fn, h.pc, h.sl, h.ar, h.fr, h.most⟩
theorem topOf {w : World} {G c k : Nat} {z : Zn} {ys : List Zn} (h : MRaw w g base vi vt vf (.slice (some ⟨G, 0, none⟩) (k + 1) c) (ys ++ [z]) s) (hk : ys.length = k) (hm : k ≤ 1000000) : TopAt w (.slice (some ⟨G, 0, none⟩) (k + 1) c) (ys ++ [z]) G c k z ys := by
  have hz : (ys ++ [z])[ys.length]? = some z := by simp
  obtain ⟨a0, a1, a2, a3⟩ := acells_at hz
  rw [hk] at a0 a1 a2 a3
  have hc : ∀ j u, (acells (ys ++ [z]))[j]? = some u → w.cell? ⟨G, j, none⟩ = some u := fun j u hj => by
    have := h.st.cells (g := G) rfl j u hj
    rwa [show (⟨G, 0, none⟩ : Addr).add j = ⟨G, j, none⟩ by unfold Addr.add; split <;> simp_all] at this
  refine ⟨rfl, rfl, hk, hc _ _ a0, hc _ _ a1, hc _ _ a2, hc _ _ a3, fun j => ?_, hm⟩
  rcases h.st.2 with ⟨e1, _⟩ | ⟨G', cap, cur, hv, _, hh, _⟩
  · cases e1
  · injection hv with hv
    injection hv with hv
    injection hv with hv
    subst hv
    simp [World.frozen?, hh]
theorem topBlk {w : World} {G c k : Nat} {zs : List Zn} (h : MRaw w g base vi vt vf (.slice (some ⟨G, 0, none⟩) (k + 1) c) zs s) : base ≤ G ∧ G < w.heap.size ∧ G ≠ g := by
  have hl := h.st.lt G rfl
  refine ⟨hl.1, hl.2, fun e => ?_⟩
  rcases own_off h.st h.row (by decide) with h1 | h1
  · cases h1
  · exact h1 (by rw [← e]; rfl)
theorem code_set {w : World} (h : MRaw w g base vi vt vf vs zs s) (m : Int) : MRaw (w.setCell ⟨g, 18, none⟩ (.int .u64 m)) g base vi vt vf vs zs { s with code := m } :=
  h.store 18 (.int .u64 m) (s' := { s with code := m }) (mcells_set h.r8 2 _) h.inp rfl rfl (Nat.le_refl _) h.r8

set_option maxHeartbeats 4000000 in
theorem transfer_20 {G c k : Nat} {z : Zn} {ys : List Zn} (n : Nat) (w : World) (hnn : n ≤ 1000000) (hk : ys.length = k) (hkm : k ≤ 1000000) (h : Hid (MRaw w g base vi vt vf (.slice (some ⟨G, 0, none⟩) (k + 1) c) (ys ++ [z]) s)) :
    Calls Tryd.prog 82 #[.pointer (some ⟨g, 0, none⟩), iv 20 (n : Int) 0 0 0] w fun e w' => e = .returned (.tuple #[]) ∧ (∃ vs' zs', MRaw w' g base vi vt vf vs' zs' (s.jump n)) ∧ Below base w w' := by
  have hgl := h.out.gl
  have hGs := (topBlk h.out).2.1
  have hGg := (topBlk h.out).2.2
  go_enter Tryd.func82, Tryd.ntmps82
  obtain ⟨X, hX⟩ : ∃ X, w.heap.size = X := ⟨_, rfl⟩
  obtain ⟨W1, hW1⟩ : ∃ W1, w.alloc (.cells #[.int .i64 20, .int .i64 (n : Int), .int .i64 0, .int .i64 0, .int .u64 0] 65) = W1 := ⟨_, rfl⟩
  have R1 := hide (show Row W1 X 65 [.int .i64 20, .int .i64 (n : Int), .int .i64 0, .int .i64 0, .int .u64 0] by rw [← hW1, ← hX]; exact Row.new w _ _)
  have H1 := hide (show MRaw W1 g base vi vt vf (.slice (some ⟨G, 0, none⟩) (k + 1) c) (ys ++ [z]) s by rw [← hW1]; exact h.out.alloc _)
  have B1 := hide (show Below base w W1 by rw [← hW1]; exact (Below.refl _ _).alloc h.out.bl _)
  have hgX : g ≠ X := by omega
  have HX := hide hX
  have HW1 := hide hW1
  clear hX hW1
  go_upto_region 1 with (fail)
  rw [HW1.out, HX.out]
  have x0 := R1.out.cell (k := 0) rfl
  have x1 := R1.out.cell (k := 1) rfl
  have HbG := hide (topBlk h.out).1
  have hXG : X ≠ G := by have := HX.out; omega
  have hGX : G ≠ X := hXG.symm
  have x1 := R1.out.cell (k := 1) rfl
  have T1 := hide (topOf H1.out hk hkm)
  have p0 := T1.out.pc
  have p1 := T1.out.fr (k * 4 + 1)
  have cl := fun q => last_any (W1.drewN q) (hide ((H1.out).drewN q)) (hide ((T1.out).drewN q))
  have FIN := hide (fun q => (H1.out.drewN q).pcSet hk n)
  go_upto_region 3 with (first | go_region)
  go_region_held3 (fun w' => w'.cell? ⟨X, 1, none⟩ = some (.int .i64 (n : Int))) (first | exact x1 | go_keep)
    (first | (go_at_call 80; refine (cl _).mono ?_; rintro e w5 ⟨rfl, q, rfl⟩))
  all_goals
    go_wp2_with fail
    go_end0
    exact ⟨rfl, ⟨_, _, (FIN.out _).1⟩, B1.out.trans ((below_draws (Below.refl base W1) _).setCell (p := ⟨G, k * 4 + 1, none⟩) HbG.out _)⟩
set_option maxHeartbeats 4000000 in
theorem transfer_21 {G c k : Nat} {z : Zn} {ys : List Zn} (a n V : Nat) (w : World) (hnn : n ≤ 1000000) (ha : a < 8) (hV : Hid (s.regs.getD a 0 = V)) (hV0 : ¬ V % 18446744073709551616 = 0) (hk : ys.length = k) (hkm : k ≤ 1000000) (h : Hid (MRaw w g base vi vt vf (.slice (some ⟨G, 0, none⟩) (k + 1) c) (ys ++ [z]) s)) :
    Calls Tryd.prog 82 #[.pointer (some ⟨g, 0, none⟩), iv 21 (a : Int) (n : Int) 0 0] w fun e w' => e = .returned (.tuple #[]) ∧ (∃ vs' zs', MRaw w' g base vi vt vf vs' zs' (s.jump n)) ∧ Below base w w' := by
  have hgl := h.out.gl
  have hGs := (topBlk h.out).2.1
  have hGg := (topBlk h.out).2.2
  go_enter Tryd.func82, Tryd.ntmps82
  obtain ⟨X, hX⟩ : ∃ X, w.heap.size = X := ⟨_, rfl⟩
  obtain ⟨W1, hW1⟩ : ∃ W1, w.alloc (.cells #[.int .i64 21, .int .i64 (a : Int), .int .i64 (n : Int), .int .i64 0, .int .u64 0] 65) = W1 := ⟨_, rfl⟩
  have R1 := hide (show Row W1 X 65 [.int .i64 21, .int .i64 (a : Int), .int .i64 (n : Int), .int .i64 0, .int .u64 0] by rw [← hW1, ← hX]; exact Row.new w _ _)
  have H1 := hide (show MRaw W1 g base vi vt vf (.slice (some ⟨G, 0, none⟩) (k + 1) c) (ys ++ [z]) s by rw [← hW1]; exact h.out.alloc _)
  have B1 := hide (show Below base w W1 by rw [← hW1]; exact (Below.refl _ _).alloc h.out.bl _)
  have hgX : g ≠ X := by omega
  have HX := hide hX
  have HW1 := hide hW1
  clear hX hW1
  go_upto_region 1 with (fail)
  rw [HW1.out, HX.out]
  have x0 := R1.out.cell (k := 0) rfl
  have x1 := R1.out.cell (k := 1) rfl
  have x1 := R1.out.cell (k := 1) rfl
  obtain ⟨q0, q1⟩ := H1.out.reg ha
  rw [hV.out] at q0 q1
  have ha0 : (0 : Int) ≤ (a : Int) := by omega
  have ha1 : (a : Int) < 8 := by omega
  have hvl : ¬ lo V = 0 := by unfold lo; omega
  have hvb : (lo V == 0) = false := by rw [beq_eq_false_iff_ne]; exact hvl
  have HbG := hide (topBlk h.out).1
  have hXG : X ≠ G := by have := HX.out; omega
  have hGX : G ≠ X := hXG.symm
  have x2 := R1.out.cell (k := 2) rfl
  have T1 := hide (topOf H1.out hk hkm)
  have p0 := T1.out.pc
  have p1 := T1.out.fr (k * 4 + 1)
  have cl := fun q => last_any (W1.drew.drewN q) (hide ((H1.out.drewN 1).drewN q)) (hide ((T1.out.drewN 1).drewN q))
  have FIN := hide (fun q => (H1.out.drewN q).pcSet hk n)
  go_upto_region 6 with (first | go_region)
  go_region_held3 (fun w' => w'.cell? ⟨X, 2, none⟩ = some (.int .i64 (n : Int))) (first | exact x2 | go_keep)
    (first | (go_at_call 80; refine (cl _).mono ?_; rintro e w5 ⟨rfl, q, rfl⟩))
  all_goals
    go_wp2_with fail
    go_end0
    exact ⟨rfl, ⟨_, _, (FIN.out _).1⟩, B1.out.trans ((below_draws (Below.refl base W1) _).setCell (p := ⟨G, k * 4 + 1, none⟩) HbG.out _)⟩
set_option maxHeartbeats 4000000 in
theorem transfer_21b (a n V : Nat) (w : World) (ha : a < 8) (hV : Hid (s.regs.getD a 0 = V)) (hV0 : V % 18446744073709551616 = 0) (h : Hid (MRaw w g base vi vt vf vs zs s)) :
    Calls Tryd.prog 82 #[.pointer (some ⟨g, 0, none⟩), iv 21 (a : Int) (n : Int) 0 0] w fun e w' => e = .returned (.tuple #[]) ∧ (∃ vs' zs', MRaw w' g base vi vt vf vs' zs' (s)) ∧ Below base w w' := by
  have hgl := h.out.gl
  go_enter Tryd.func82, Tryd.ntmps82
  obtain ⟨X, hX⟩ : ∃ X, w.heap.size = X := ⟨_, rfl⟩
  obtain ⟨W1, hW1⟩ : ∃ W1, w.alloc (.cells #[.int .i64 21, .int .i64 (a : Int), .int .i64 (n : Int), .int .i64 0, .int .u64 0] 65) = W1 := ⟨_, rfl⟩
  have R1 := hide (show Row W1 X 65 [.int .i64 21, .int .i64 (a : Int), .int .i64 (n : Int), .int .i64 0, .int .u64 0] by rw [← hW1, ← hX]; exact Row.new w _ _)
  have H1 := hide (show MRaw W1 g base vi vt vf vs zs s by rw [← hW1]; exact h.out.alloc _)
  have B1 := hide (show Below base w W1 by rw [← hW1]; exact (Below.refl _ _).alloc h.out.bl _)
  have hgX : g ≠ X := by omega
  have HX := hide hX
  have HW1 := hide hW1
  clear hX hW1
  go_upto_region 1 with (fail)
  rw [HW1.out, HX.out]
  have x0 := R1.out.cell (k := 0) rfl
  have x1 := R1.out.cell (k := 1) rfl
  obtain ⟨q0, q1⟩ := H1.out.reg ha
  rw [hV.out] at q0 q1
  have ha0 : (0 : Int) ≤ (a : Int) := by omega
  have ha1 : (a : Int) < 8 := by omega
  have hvl : lo V = 0 := by unfold lo; omega
  rw [hvl] at q0
  clear hvl
  go_wp2_with (first | go_region)
  go_end0
  exact ⟨rfl, ⟨_, _, H1.out.drewN 1⟩, below_draws B1.out 1⟩
set_option maxHeartbeats 4000000 in
theorem transfer_22 (n : Nat) (w : World) (hnn : n ≤ 1000000) (hl : Hid (s.st.length ≤ 1000000)) (hd : Hid (s.depth ≤ 1000000)) (h : Hid (MRaw w g base vi vt vf vs zs s)) :
    Calls Tryd.prog 82 #[.pointer (some ⟨g, 0, none⟩), iv 22 (n : Int) 0 0 0] w fun e w' => e = .returned (.tuple #[]) ∧ (∃ vs' zs', MRaw w' g base vi vt vf vs' zs' (s.enter n)) ∧ Below base w w' := by
  have hgl := h.out.gl
  go_enter Tryd.func82, Tryd.ntmps82
  obtain ⟨X, hX⟩ : ∃ X, w.heap.size = X := ⟨_, rfl⟩
  obtain ⟨W1, hW1⟩ : ∃ W1, w.alloc (.cells #[.int .i64 22, .int .i64 (n : Int), .int .i64 0, .int .i64 0, .int .u64 0] 65) = W1 := ⟨_, rfl⟩
  have R1 := hide (show Row W1 X 65 [.int .i64 22, .int .i64 (n : Int), .int .i64 0, .int .i64 0, .int .u64 0] by rw [← hW1, ← hX]; exact Row.new w _ _)
  have H1 := hide (show MRaw W1 g base vi vt vf vs zs s by rw [← hW1]; exact h.out.alloc _)
  have B1 := hide (show Below base w W1 by rw [← hW1]; exact (Below.refl _ _).alloc h.out.bl _)
  have hgX : g ≠ X := by omega
  have HX := hide hX
  have HW1 := hide hW1
  clear hX hW1
  go_upto_region 1 with (fail)
  rw [HW1.out, HX.out]
  have x0 := R1.out.cell (k := 0) rfl
  have x1 := R1.out.cell (k := 1) rfl
  have ce := enter_any n W1 hnn hl hd H1
  go_wp2_with fail
  refine ce.mono ?_
  rintro e w5 ⟨rfl, ⟨vs5, zs5, h5⟩, hb5⟩
  have H5 := hide h5
  have B5 := hide (B1.out.trans hb5)
  clear ce h5 hb5
  go_wp2_with fail
  go_end0
  exact ⟨rfl, ⟨_, _, H5.out⟩, B5.out⟩
set_option maxHeartbeats 4000000 in
theorem transfer_23  (w : World) (hn : Hid (1 ≤ s.st.length)) (hl : Hid (s.st.length ≤ 1000000)) (h : Hid (MRaw w g base vi vt vf vs zs s)) :
    Calls Tryd.prog 82 #[.pointer (some ⟨g, 0, none⟩), iv 23 0 0 0 0] w fun e w' => e = .returned (.tuple #[]) ∧ (∃ vs' zs', MRaw w' g base vi vt vf vs' zs' (s.leave)) ∧ Below base w w' := by
  have hgl := h.out.gl
  go_enter Tryd.func82, Tryd.ntmps82
  obtain ⟨X, hX⟩ : ∃ X, w.heap.size = X := ⟨_, rfl⟩
  obtain ⟨W1, hW1⟩ : ∃ W1, w.alloc (.cells #[.int .i64 23, .int .i64 0, .int .i64 0, .int .i64 0, .int .u64 0] 65) = W1 := ⟨_, rfl⟩
  have R1 := hide (show Row W1 X 65 [.int .i64 23, .int .i64 0, .int .i64 0, .int .i64 0, .int .u64 0] by rw [← hW1, ← hX]; exact Row.new w _ _)
  have H1 := hide (show MRaw W1 g base vi vt vf vs zs s by rw [← hW1]; exact h.out.alloc _)
  have B1 := hide (show Below base w W1 by rw [← hW1]; exact (Below.refl _ _).alloc h.out.bl _)
  have hgX : g ≠ X := by omega
  have HX := hide hX
  have HW1 := hide hW1
  clear hX hW1
  go_upto_region 1 with (fail)
  rw [HW1.out, HX.out]
  have x0 := R1.out.cell (k := 0) rfl
  have x1 := R1.out.cell (k := 1) rfl
  have ce := leave_any W1 hn hl H1
  go_wp2_with fail
  refine ce.mono ?_
  rintro e w5 ⟨rfl, ⟨vs5, zs5, h5⟩, hb5⟩
  have H5 := hide h5
  have B5 := hide (B1.out.trans hb5)
  clear ce h5 hb5
  go_wp2_with fail
  go_end0
  exact ⟨rfl, ⟨_, _, H5.out⟩, B5.out⟩
set_option maxHeartbeats 4000000 in
theorem transfer_24 (m : Int) (w : World)  (h : Hid (MRaw w g base vi vt vf vs zs s)) :
    Calls Tryd.prog 82 #[.pointer (some ⟨g, 0, none⟩), iv 24 0 0 0 m] w fun e w' => e = .returned (.tuple #[]) ∧ (∃ vs' zs', MRaw w' g base vi vt vf vs' zs' (({ s with code := m } : Mch).stop 1)) ∧ Below base w w' := by
  have hgl := h.out.gl
  go_enter Tryd.func82, Tryd.ntmps82
  obtain ⟨X, hX⟩ : ∃ X, w.heap.size = X := ⟨_, rfl⟩
  obtain ⟨W1, hW1⟩ : ∃ W1, w.alloc (.cells #[.int .i64 24, .int .i64 0, .int .i64 0, .int .i64 0, .int .u64 m] 65) = W1 := ⟨_, rfl⟩
  have R1 := hide (show Row W1 X 65 [.int .i64 24, .int .i64 0, .int .i64 0, .int .i64 0, .int .u64 m] by rw [← hW1, ← hX]; exact Row.new w _ _)
  have H1 := hide (show MRaw W1 g base vi vt vf vs zs s by rw [← hW1]; exact h.out.alloc _)
  have B1 := hide (show Below base w W1 by rw [← hW1]; exact (Below.refl _ _).alloc h.out.bl _)
  have hgX : g ≠ X := by omega
  have HX := hide hX
  have HW1 := hide hW1
  clear hX hW1
  go_upto_region 1 with (fail)
  rw [HW1.out, HX.out]
  have x0 := R1.out.cell (k := 0) rfl
  have x1 := R1.out.cell (k := 1) rfl
  have x4 := R1.out.cell (k := 4) rfl
  have r0 := H1.out.far 2 rfl
  have r1 := H1.out.row.free 18
  obtain ⟨W2, hW2⟩ : ∃ W2, W1.setCell ⟨g, 18, none⟩ (.int .u64 m) = W2 := ⟨_, rfl⟩
  have H2 := hide (show MRaw W2 g base vi vt vf vs zs { s with code := m } by rw [← hW2]; exact code_set H1.out m)
  have B2 := hide (show Below base w W2 by rw [← hW2]; exact B1.out.trans ((Below.refl _ _).setCell (p := ⟨g, 18, none⟩) h.out.gb _))
  have HW2 := hide hW2
  clear hW2
  go_upto_region 13 with (fail)
  rw [HW2.out]
  have ce := cend_any 1 W2 H2
  go_wp2_with fail
  refine ce.mono ?_
  rintro e w7 ⟨rfl, h7, hg7⟩
  have H7 := hide h7
  have B7 := hide (B2.out.trans (H2.out.gB hg7))
  clear ce h7 hg7
  go_wp2_with fail
  go_end0
  exact ⟨rfl, ⟨_, _, H7.out⟩, B7.out⟩
end
end Go.Proofs.YtlkcjjalkdlicaaDoor
end
