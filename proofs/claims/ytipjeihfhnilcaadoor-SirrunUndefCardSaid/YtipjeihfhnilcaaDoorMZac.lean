import Derived.Test.YtipjeihfhnilcaaDoorMZent
set_option linter.unusedVariables false
set_option linter.unusedSimpArgs false
section
/-
  The contracts of the machine's access, operation by operation (chapter 8). Conditions: those of the types.
-/
namespace Go.Proofs.YtipjeihfhnilcaaDoor
open Go.RowKit

section
variable {g base fu : Nat} {vi vt vf vs : Value} {zs : List Zn} {s : Mch}

set_option maxHeartbeats 4000000 in
theorem access_15 {G c k : Nat} {z : Zn} {ys : List Zn} (a b : Nat) (w : World) (ha : a < 8) (hb : b ≤ 1000000) (hk : ys.length = k) (hkm : k ≤ 1000000) (h : Hid (MRaw w g base fu vi vt vf (.slice (some ⟨G, 0, none⟩) (k + 1) c) (ys ++ [z]) s)) :
    Calls Tryd.prog 40 #[.pointer (some ⟨g, 0, none⟩), iv 15 (a : Int) (b : Int) 0 0] w fun e w' => e = .returned (.tuple #[]) ∧ (∃ vs' zs', MRaw w' g base fu vi vt vf vs' zs' ((s.read (z.1.sl (b : Int))).setR (a : Int) ((z.1.sl (b : Int)).getD 0))) ∧ Below base w w' := by
  have hgl := h.out.gl
  have hGs := (topBlk h.out).2.1
  have hGg := (topBlk h.out).2.2
  go_enter Tryd.func40, Tryd.ntmps40
  obtain ⟨X, hX⟩ : ∃ X, w.heap.size = X := ⟨_, rfl⟩
  obtain ⟨W1, hW1⟩ : ∃ W1, w.alloc (.cells #[.int .i64 15, .int .i64 (a : Int), .int .i64 (b : Int), .int .i64 0, .int .u64 0] 48) = W1 := ⟨_, rfl⟩
  have R1 := hide (show Row W1 X 48 [.int .i64 15, .int .i64 (a : Int), .int .i64 (b : Int), .int .i64 0, .int .u64 0] by rw [← hW1, ← hX]; exact Row.new w _ _)
  have H1 := hide (show MRaw W1 g base fu vi vt vf (.slice (some ⟨G, 0, none⟩) (k + 1) c) (ys ++ [z]) s by rw [← hW1]; exact h.out.alloc _)
  have B1 := hide (show Below base w W1 by rw [← hW1]; exact (Below.refl _ _).alloc h.out.bl _)
  have hgX : g ≠ X := by omega
  have HX := hide hX
  have HW1 := hide hW1
  clear hX hW1
  go_upto_region 1 with (fail)
  rw [HW1.out, HX.out]
  have x0 := R1.out.cell (k := 0) rfl
  have x1 := R1.out.cell (k := 1) rfl
  have HbG := hide (topBlk h.out).1
  have hXG : X ≠ G := by have := HX.out; omega
  have hGX : G ≠ X := hXG.symm
  have hXg : X ≠ g := hgX.symm
  have hgG : g ≠ G := hGg.symm
  have T1 := hide (topOf H1.out hk hkm)
  have cl := last_any W1 H1 T1
  go_wp2_with fail
  refine cl.mono ?_
  rintro e w' ⟨rfl, nq, rfl⟩
  obtain ⟨W2, hW2⟩ : ∃ W2, W1.drewN nq = W2 := ⟨_, rfl⟩
  have R2 := hide (show Row W2 X 48 _ by rw [← hW2]; exact R1.out.drewN nq)
  have H2 := hide (show MRaw W2 g base fu vi vt vf (.slice (some ⟨G, 0, none⟩) (k + 1) c) (ys ++ [z]) s by rw [← hW2]; exact H1.out.drewN nq)
  have B2 := hide (show Below base w W2 by rw [← hW2]; exact below_draws B1.out nq)
  have T2 := hide (topOf H2.out hk hkm)
  have W12 := hide (show ∀ zs K, MapsK W1 zs K → MapsK W2 zs K from fun zs K hq => by rw [← hW2]; exact hq.drewN nq)
  rw [hW2]
  clear hW2 cl T1 H1 R1 B1 x1
  have x0 := R2.out.cell (k := 0) rfl
  have x1 := R2.out.cell (k := 1) rfl
  have x2 := R2.out.cell (k := 2) rfl
  have t2 := T2.out.sl
  have hm := hide (H2.out.maps z (by simp)).1
  have cd := fun q => defined_any z.2.1 _ z.1.sl (b : Int) (W2.drewN q) (by omega) (hide (hm.out.drewN q)) (hide (H2.out.drewN q))
  obtain ⟨O, hO⟩ : ∃ O, z.1.sl (b : Int) = O := ⟨_, rfl⟩
  rw [hO] at cd
  have HO := hide hO
  have ha0 : (0 : Int) ≤ (a : Int) := by omega
  have ha1 : (a : Int) < 8 := by omega
  clear hO
  go_upto_region 4 with (fail)
  go_region_held3 (fun w' => w'.cell? ⟨X, 1, none⟩ = some (.int .i64 (a : Int)) ∧ w'.cell? ⟨X, 2, none⟩ = some (.int .i64 (b : Int)) ∧ w'.cell? ⟨G, k * 4 + 2, none⟩ = some (.map (some z.2.1))) (first | go_keep | exact ⟨m1, m2, m3⟩ | exact ⟨n1, n2, n3⟩)
    (first
      | (go_at_call 51; refine (cd _).mono ?_; rintro e w5 ⟨rfl, h5, k5⟩; have H5 := hide h5; have B5 := hide (B2.out.trans (Below.trans (below_draws (Below.refl _ _) _) ((H2.out.drewN _).belowC k5))); have r5 := hide (k5.row (R2.out.drewN _) hXg (.inr (by decide))); have m1 := r5.out.cell (k := 1) rfl; have m2 := r5.out.cell (k := 2) rfl; have m3 := (topOf h5 hk hkm).sl; clear h5 k5)
      | (go_at_call 50; refine (coSet_any (a : Int) _ w5 (hide H5.out.core)).mono ?_; rintro e w6 ⟨rfl, h6, k6⟩; have H6 := hide (H5.out.cored h6 (k6.weak H5.out.core.tr) (show (s.read O).steps ≤ ((s.read O).co.setR (a : Int) (O.getD 0)).steps from Nat.le_of_eq (Co.setR_keeps (s.read O).co (a : Int) (O.getD 0)).2.2.2.2.2.1.symm)); have B6 := hide (B5.out.trans (H5.out.belowC (k6.weak H5.out.core.tr))); have n6 := (k6.weak (base := base) H5.out.core.tr).row r5.out hXg (.inr (by decide)); have n1 := n6.cell (k := 1) rfl; have n2 := n6.cell (k := 2) rfl; have n3 := (topOf H6.out hk hkm).sl; clear h6 k6 n6))
  all_goals
    go_wp2_with fail
    go_end0
    rw [HO.out]
    exact ⟨rfl, ⟨_, _, by rw [← co_setR _ (by omega)]; exact H6.out⟩, B6.out⟩
set_option maxHeartbeats 4000000 in
theorem access_17 {G c k : Nat} {z : Zn} {ys : List Zn} (a b : Nat) (w : World) (ha : a ≤ 1000000) (hb : b ≤ 1000000) (K : Nat) (hK : Hid (MapsK w (ys ++ [z]) K)) (hKs : K + 1 ≤ s.steps) (hK2 : K ≤ 1000000) (hk : ys.length = k) (hkm : k ≤ 1000000) (h : Hid (MRaw w g base fu vi vt vf (.slice (some ⟨G, 0, none⟩) (k + 1) c) (ys ++ [z]) s)) :
    Calls Tryd.prog 40 #[.pointer (some ⟨g, 0, none⟩), iv 17 (a : Int) (b : Int) 0 0] w fun e w' => e = .returned (.tuple #[]) ∧ (∃ vs' zs', MRaw w' g base fu vi vt vf vs' zs' ((s.read (z.1.sl (b : Int))).setTop { z.1 with sl := updC z.1.sl (a : Int) ((z.1.sl (b : Int)).getD 0) })) ∧ Below base w w' := by
  have hgl := h.out.gl
  have hGs := (topBlk h.out).2.1
  have hGg := (topBlk h.out).2.2
  go_enter Tryd.func40, Tryd.ntmps40
  obtain ⟨X, hX⟩ : ∃ X, w.heap.size = X := ⟨_, rfl⟩
  obtain ⟨W1, hW1⟩ : ∃ W1, w.alloc (.cells #[.int .i64 17, .int .i64 (a : Int), .int .i64 (b : Int), .int .i64 0, .int .u64 0] 48) = W1 := ⟨_, rfl⟩
  have R1 := hide (show Row W1 X 48 [.int .i64 17, .int .i64 (a : Int), .int .i64 (b : Int), .int .i64 0, .int .u64 0] by rw [← hW1, ← hX]; exact Row.new w _ _)
  have H1 := hide (show MRaw W1 g base fu vi vt vf (.slice (some ⟨G, 0, none⟩) (k + 1) c) (ys ++ [z]) s by rw [← hW1]; exact h.out.alloc _)
  have B1 := hide (show Below base w W1 by rw [← hW1]; exact (Below.refl _ _).alloc h.out.bl _)
  have hgX : g ≠ X := by omega
  have HX := hide hX
  have HW1 := hide hW1
  clear hX hW1
  go_upto_region 1 with (fail)
  rw [HW1.out, HX.out]
  have x0 := R1.out.cell (k := 0) rfl
  have x1 := R1.out.cell (k := 1) rfl
  have HbG := hide (topBlk h.out).1
  have hXG : X ≠ G := by have := HX.out; omega
  have hGX : G ≠ X := hXG.symm
  have hXg : X ≠ g := hgX.symm
  have hgG : g ≠ G := hGg.symm
  have T1 := hide (topOf H1.out hk hkm)
  have cl := last_any W1 H1 T1
  go_wp2_with fail
  refine cl.mono ?_
  rintro e w' ⟨rfl, nq, rfl⟩
  obtain ⟨W2, hW2⟩ : ∃ W2, W1.drewN nq = W2 := ⟨_, rfl⟩
  have R2 := hide (show Row W2 X 48 _ by rw [← hW2]; exact R1.out.drewN nq)
  have H2 := hide (show MRaw W2 g base fu vi vt vf (.slice (some ⟨G, 0, none⟩) (k + 1) c) (ys ++ [z]) s by rw [← hW2]; exact H1.out.drewN nq)
  have B2 := hide (show Below base w W2 by rw [← hW2]; exact below_draws B1.out nq)
  have T2 := hide (topOf H2.out hk hkm)
  have W12 := hide (show ∀ zs K, MapsK W1 zs K → MapsK W2 zs K from fun zs K hq => by rw [← hW2]; exact hq.drewN nq)
  rw [hW2]
  clear hW2 cl T1 H1 R1 B1 x1
  have x0 := R2.out.cell (k := 0) rfl
  have x1 := R2.out.cell (k := 1) rfl
  have x2 := R2.out.cell (k := 2) rfl
  have hKW := hide (show MapsK W2 (ys ++ [z]) K from W12.out _ _ (by rw [← HW1.out]; exact hK.out.call (below1 w _)))
  have t2 := T2.out.sl
  have hm := hide (H2.out.maps z (by simp)).1
  have cd := fun q => defined_any z.2.1 _ z.1.sl (b : Int) (W2.drewN q) (by omega) (hide (hm.out.drewN q)) (hide (H2.out.drewN q))
  have hKm := hide (show K < maxLen by unfold maxLen; omega)
  have hKg := hide (show z.2.1 ≠ g from fun e => (hKW.out z (by simp)).1.not_row H2.out.row e)
  have hMem := hide (show z ∈ ys ++ [z] by simp)
  have hTw := hide (show some z.2.2 ≠ some z.2.1 from fun e => H2.out.two (by injection e with e; exact e.symm))
  have hAb := hide (show -9223372036854775808 ≤ (a : Int) ∧ (a : Int) ≤ 9223372036854775807 by omega)
  obtain ⟨O, hO⟩ : ∃ O, z.1.sl (b : Int) = O := ⟨_, rfl⟩
  rw [hO] at cd
  have HO := hide hO
  have hXb : X ≠ z.2.1 := fun e => (hm.out.not_row R2.out) e.symm
  have hGb : G ≠ z.2.1 := fun e => by obtain ⟨_, _, _, cs, hh⟩ := H2.out.pcSet hk 0; exact hm.out.not_row hh e.symm
  clear hO
  go_upto_region 8 with (fail)
  go_region_held3 (fun w' => w'.cell? ⟨X, 1, none⟩ = some (.int .i64 (a : Int)) ∧ w'.cell? ⟨X, 2, none⟩ = some (.int .i64 (b : Int)) ∧ w'.cell? ⟨G, k * 4 + 2, none⟩ = some (.map (some z.2.1))) (first | exact ⟨n1, n2, n3⟩ | exact ⟨m1, m2, m3⟩ | go_keep)
    (first | (go_at_call 51; refine (cd _).mono ?_; rintro e w5 ⟨rfl, h5, k5⟩; have r5 := k5.row (R2.out.drewN _) hXg (.inr (by decide)); have m1 := r5.cell (k := 1) rfl; have m2 := r5.cell (k := 2) rfl; have m3 := (topOf h5 hk hkm).sl; have ck := ((hKW.out z hMem.out).1.drewN _).keptC k5 hKg.out; obtain ⟨w8, hrun, hc8, hg8⟩ := ck.store (a : Int) hAb.out (O.getD 0) hKm.out; have FIN := hide (h5.mapSet (w' := w8) (b := z.2.1) ({ z.1 with sl := updC z.1.sl (a : Int) (O.getD 0) }, z.2) (.inl rfl) rfl rfl rfl hg8 (hc8.mono (by rw [(read_steps s O).1]; exact hKs)) ((h5.maps z hMem.out).2.kept hg8 hTw.out)); have n1 := (r5.grown hg8 (fun e => hXb (by injection e))).cell (k := 1) rfl; have n2 := (r5.grown hg8 (fun e => hXb (by injection e))).cell (k := 2) rfl; have n3 := hg8.cell m3 (fun e => hGb (by injection e)); have B5 := hide (B2.out.trans (Below.trans (below_draws (Below.refl _ _) _) ((H2.out.drewN _).belowC k5))); clear r5 h5 k5 ck hc8))
  all_goals
    go_wp2_with fail
    go_end0
    rw [HO.out]
    exact ⟨rfl, ⟨_, _, FIN.out.1⟩, B5.out.trans FIN.out.2⟩
set_option maxHeartbeats 4000000 in
theorem access_18 {G c k : Nat} {z : Zn} {ys : List Zn} (a b V : Nat) (w : World) (ha : a ≤ 1000000) (hb : b < 8) (hV : Hid (s.regs.getD b 0 = V)) (K : Nat) (hK : Hid (MapsK w (ys ++ [z]) K)) (hKs : K + 1 ≤ s.steps) (hK2 : K ≤ 1000000) (hk : ys.length = k) (hkm : k ≤ 1000000) (h : Hid (MRaw w g base fu vi vt vf (.slice (some ⟨G, 0, none⟩) (k + 1) c) (ys ++ [z]) s)) :
    Calls Tryd.prog 40 #[.pointer (some ⟨g, 0, none⟩), iv 18 (a : Int) (b : Int) 0 0] w fun e w' => e = .returned (.tuple #[]) ∧ (∃ vs' zs', MRaw w' g base fu vi vt vf vs' zs' (s.setTop { z.1 with ar := updC z.1.ar (a : Int) V })) ∧ Below base w w' := by
  have hgl := h.out.gl
  have hGs := (topBlk h.out).2.1
  have hGg := (topBlk h.out).2.2
  go_enter Tryd.func40, Tryd.ntmps40
  obtain ⟨X, hX⟩ : ∃ X, w.heap.size = X := ⟨_, rfl⟩
  obtain ⟨W1, hW1⟩ : ∃ W1, w.alloc (.cells #[.int .i64 18, .int .i64 (a : Int), .int .i64 (b : Int), .int .i64 0, .int .u64 0] 48) = W1 := ⟨_, rfl⟩
  have R1 := hide (show Row W1 X 48 [.int .i64 18, .int .i64 (a : Int), .int .i64 (b : Int), .int .i64 0, .int .u64 0] by rw [← hW1, ← hX]; exact Row.new w _ _)
  have H1 := hide (show MRaw W1 g base fu vi vt vf (.slice (some ⟨G, 0, none⟩) (k + 1) c) (ys ++ [z]) s by rw [← hW1]; exact h.out.alloc _)
  have B1 := hide (show Below base w W1 by rw [← hW1]; exact (Below.refl _ _).alloc h.out.bl _)
  have hgX : g ≠ X := by omega
  have HX := hide hX
  have HW1 := hide hW1
  clear hX hW1
  go_upto_region 1 with (fail)
  rw [HW1.out, HX.out]
  have x0 := R1.out.cell (k := 0) rfl
  have x1 := R1.out.cell (k := 1) rfl
  have HbG := hide (topBlk h.out).1
  have hXG : X ≠ G := by have := HX.out; omega
  have hGX : G ≠ X := hXG.symm
  have hXg : X ≠ g := hgX.symm
  have hgG : g ≠ G := hGg.symm
  have T1 := hide (topOf H1.out hk hkm)
  have cl := last_any W1 H1 T1
  go_wp2_with fail
  refine cl.mono ?_
  rintro e w' ⟨rfl, nq, rfl⟩
  obtain ⟨W2, hW2⟩ : ∃ W2, W1.drewN nq = W2 := ⟨_, rfl⟩
  have R2 := hide (show Row W2 X 48 _ by rw [← hW2]; exact R1.out.drewN nq)
  have H2 := hide (show MRaw W2 g base fu vi vt vf (.slice (some ⟨G, 0, none⟩) (k + 1) c) (ys ++ [z]) s by rw [← hW2]; exact H1.out.drewN nq)
  have B2 := hide (show Below base w W2 by rw [← hW2]; exact below_draws B1.out nq)
  have T2 := hide (topOf H2.out hk hkm)
  have W12 := hide (show ∀ zs K, MapsK W1 zs K → MapsK W2 zs K from fun zs K hq => by rw [← hW2]; exact hq.drewN nq)
  rw [hW2]
  clear hW2 cl T1 H1 R1 B1 x1
  have x0 := R2.out.cell (k := 0) rfl
  have x1 := R2.out.cell (k := 1) rfl
  have x2 := R2.out.cell (k := 2) rfl
  have hKW := hide (show MapsK W2 (ys ++ [z]) K from W12.out _ _ (by rw [← HW1.out]; exact hK.out.call (below1 w _)))
  have t3 := T2.out.ar
  have hm := hide (H2.out.maps z (by simp)).2
  have hXb : X ≠ z.2.2 := fun e => (hm.out.not_row R2.out) e.symm
  have hGb : G ≠ z.2.2 := fun e => by obtain ⟨_, _, _, cs, hh⟩ := H2.out.pcSet hk 0; exact hm.out.not_row hh e.symm
  have hKm := hide (show K < maxLen by unfold maxLen; omega)
  have hMem := hide (show z ∈ ys ++ [z] by simp)
  have hTw := hide (show some z.2.1 ≠ some z.2.2 from fun e => H2.out.two (by injection e))
  have hAb := hide (show -9223372036854775808 ≤ (a : Int) ∧ (a : Int) ≤ 9223372036854775807 by omega)
  have cr := fun q => coReg_any (b : Int) (W2.drewN q) (hide (H2.out.drewN q).core)
  rw [show s.co.reg (b : Int) = V by rw [← hV.out]; exact s.co.reg_in hb] at cr
  go_upto_region 10 with (fail)
  go_region_held3 (fun w' => w'.cell? ⟨X, 1, none⟩ = some (.int .i64 (a : Int)) ∧ w'.cell? ⟨X, 2, none⟩ = some (.int .i64 (b : Int)) ∧ w'.cell? ⟨G, k * 4 + 3, none⟩ = some (.map (some z.2.2))) (first | exact ⟨n1, n2, n3⟩ | exact ⟨m1, m2, m3⟩ | go_keep)
    (first | (go_at_call 49; refine (cr _).mono ?_; rintro e w5 ⟨rfl, b5⟩; have h5 := (H2.out.drewN _).call b5; have r5 := (R2.out.drewN _).call b5; have m1 := r5.cell (k := 1) rfl; have m2 := r5.cell (k := 2) rfl; have m3 := (topOf h5 hk hkm).ar; have ck := ((hKW.out z hMem.out).2.drewN _).below b5 ((hKW.out z hMem.out).2.drewN _).lt; obtain ⟨w8, hrun, hc8, hg8⟩ := ck.store (a : Int) hAb.out V hKm.out; have FIN := hide (h5.mapSet (w' := w8) (b := z.2.2) ({ z.1 with ar := updC z.1.ar (a : Int) V }, z.2) (.inr rfl) rfl rfl rfl hg8 ((h5.maps z hMem.out).1.kept hg8 hTw.out) (hc8.mono hKs)); have n1 := (r5.grown hg8 (fun e => hXb (by injection e))).cell (k := 1) rfl; have n2 := (r5.grown hg8 (fun e => hXb (by injection e))).cell (k := 2) rfl; have n3 := hg8.cell m3 (fun e => hGb (by injection e)); have B5 := hide (B2.out.trans (Below.trans (below_draws (Below.refl _ _) _) (b5.mono (H2.out.drewN _).bl))); clear r5 h5 b5 ck hc8))
  all_goals
    go_wp2_with fail
    go_end0
    exact ⟨rfl, ⟨_, _, FIN.out.1⟩, B5.out.trans FIN.out.2⟩
set_option maxHeartbeats 4000000 in
theorem access_19 {zc : Zn} {G c k : Nat} {z : Zn} {ys : List Zn} (a b j : Nat) (w : World) (ha : a < 8) (hb : b ≤ 1000000) (hj : k = j + 1) (hc : Hid (ys[j]? = some zc)) (hk : ys.length = k) (hkm : k ≤ 1000000) (h : Hid (MRaw w g base fu vi vt vf (.slice (some ⟨G, 0, none⟩) (k + 1) c) (ys ++ [z]) s)) :
    Calls Tryd.prog 40 #[.pointer (some ⟨g, 0, none⟩), iv 19 (a : Int) (b : Int) 0 0] w fun e w' => e = .returned (.tuple #[]) ∧ (∃ vs' zs', MRaw w' g base fu vi vt vf vs' zs' ((s.read (zc.1.ar (b : Int))).setR (a : Int) ((zc.1.ar (b : Int)).getD 0))) ∧ Below base w w' := by
  have hgl := h.out.gl
  have hGs := (topBlk h.out).2.1
  have hGg := (topBlk h.out).2.2
  go_enter Tryd.func40, Tryd.ntmps40
  obtain ⟨X, hX⟩ : ∃ X, w.heap.size = X := ⟨_, rfl⟩
  obtain ⟨W1, hW1⟩ : ∃ W1, w.alloc (.cells #[.int .i64 19, .int .i64 (a : Int), .int .i64 (b : Int), .int .i64 0, .int .u64 0] 48) = W1 := ⟨_, rfl⟩
  have R1 := hide (show Row W1 X 48 [.int .i64 19, .int .i64 (a : Int), .int .i64 (b : Int), .int .i64 0, .int .u64 0] by rw [← hW1, ← hX]; exact Row.new w _ _)
  have H1 := hide (show MRaw W1 g base fu vi vt vf (.slice (some ⟨G, 0, none⟩) (k + 1) c) (ys ++ [z]) s by rw [← hW1]; exact h.out.alloc _)
  have B1 := hide (show Below base w W1 by rw [← hW1]; exact (Below.refl _ _).alloc h.out.bl _)
  have hgX : g ≠ X := by omega
  have HX := hide hX
  have HW1 := hide hW1
  clear hX hW1
  go_upto_region 1 with (fail)
  rw [HW1.out, HX.out]
  have x0 := R1.out.cell (k := 0) rfl
  have x1 := R1.out.cell (k := 1) rfl
  have HbG := hide (topBlk h.out).1
  have hXG : X ≠ G := by have := HX.out; omega
  have hGX : G ≠ X := hXG.symm
  have hXg : X ≠ g := hgX.symm
  have hgG : g ≠ G := hGg.symm
  have T1 := hide (topOf H1.out hk hkm)
  have cl := last_any W1 H1 T1
  go_wp2_with fail
  refine cl.mono ?_
  rintro e w' ⟨rfl, nq, rfl⟩
  obtain ⟨W2, hW2⟩ : ∃ W2, W1.drewN nq = W2 := ⟨_, rfl⟩
  have R2 := hide (show Row W2 X 48 _ by rw [← hW2]; exact R1.out.drewN nq)
  have H2 := hide (show MRaw W2 g base fu vi vt vf (.slice (some ⟨G, 0, none⟩) (k + 1) c) (ys ++ [z]) s by rw [← hW2]; exact H1.out.drewN nq)
  have B2 := hide (show Below base w W2 by rw [← hW2]; exact below_draws B1.out nq)
  have T2 := hide (topOf H2.out hk hkm)
  have W12 := hide (show ∀ zs K, MapsK W1 zs K → MapsK W2 zs K from fun zs K hq => by rw [← hW2]; exact hq.drewN nq)
  rw [hW2]
  clear hW2 cl T1 H1 R1 B1 x1
  have x0 := R2.out.cell (k := 0) rfl
  have x1 := R2.out.cell (k := 1) rfl
  have x2 := R2.out.cell (k := 2) rfl
  have hjl : j < ys.length := by omega
  have hcz : (ys ++ [z])[j]? = some zc := by rw [List.getElem?_append_left hjl]; exact hc.out
  obtain ⟨a0, a1, a2, a3⟩ := acells_at hcz
  have hcell := fun (i : Nat) (u : Value) (hi : (acells (ys ++ [z]))[i]? = some u) => (show W2.cell? ⟨G, i, none⟩ = some u by
    have := H2.out.st.cells (g := G) rfl i u hi
    rwa [show (⟨G, 0, none⟩ : Addr).add i = ⟨G, i, none⟩ by unfold Addr.add; split <;> simp_all] at this)
  have d0 := hcell _ _ a0
  have d1 := hcell _ _ a1
  have d2 := hcell _ _ a2
  have d3 := hcell _ _ a3
  have hm := hide (H2.out.maps zc (List.mem_of_getElem? hcz)).2
  have c9 := H2.out.far 1 rfl
  subst hj
  have hkz : IntKind.i64.wrap ((j : Int) + 1 + 1 - 2) = (j : Int) := by rw [IntKind.wrap_i64]; omega
  have hj0 : (0 : Int) ≤ (j : Int) := by omega
  have hj1 : (j : Int) < (j : Int) + 1 + 1 := by omega
  have c9' := fun o : Obj => keep_cellB (below1 W2 o) c9
  have d0' := fun o : Obj => keep_cellB (below1 W2 o) d0
  have d1' := fun o : Obj => keep_cellB (below1 W2 o) d1
  have d2' := fun o : Obj => keep_cellB (below1 W2 o) d2
  have d3' := fun o : Obj => keep_cellB (below1 W2 o) d3
  clear a0 a1 a2 a3 hcell
  go_upto_region 12 with (fail)
  go_region
  go_upto_region 13 with (fail)
  obtain ⟨Y, hY⟩ : ∃ Y, W2.heap.size = Y := ⟨_, rfl⟩
  obtain ⟨W3, hW3⟩ : ∃ W3, (W2.alloc (.cells #[.int .i64 (zc.1.f : Int), .int .i64 (zc.1.pc : Int), .map (some zc.2.1), .map (some zc.2.2)] 88)).drew = W3 := ⟨_, rfl⟩
  have R3 := hide (show Row W3 X 48 _ by rw [← hW3]; exact (R2.out.alloc _).drew)
  have Y3 := hide (show Row W3 Y 88 [.int .i64 (zc.1.f : Int), .int .i64 (zc.1.pc : Int), .map (some zc.2.1), .map (some zc.2.2)] by rw [← hW3, ← hY]; exact (Row.new W2 _ _).drew)
  have H3 := hide (show MRaw W3 g base fu vi vt vf (.slice (some ⟨G, 0, none⟩) (j + 1 + 1) c) (ys ++ [z]) s by rw [← hW3]; exact (H2.out.alloc _).drewN 1)
  have B3 := hide (show Below base w W3 by rw [← hW3]; exact below_draws (B2.out.alloc H2.out.bl _) 1)
  have hm3 := hide (show CellsAt W3 zc.2.2 s.steps zc.1.ar by rw [← hW3]; exact (hm.out.below (below1 W2 _) hm.out.lt).drewN 1)
  have hgY : g ≠ Y := by have := H2.out.gl; omega
  have hYg : Y ≠ g := hgY.symm
  rw [hW3, hY]
  clear hW3 hY x0 x1 x2 d0 d1 d2 d3 d0' d1' d2' d3' c9 c9'
  have x1 := R3.out.cell (k := 1) rfl
  have x2 := R3.out.cell (k := 2) rfl
  have y3 := Y3.out.cell (k := 3) rfl
  have cd := fun q => defined_any zc.2.2 _ zc.1.ar (b : Int) (W3.drewN q) (by omega) (hide (hm3.out.drewN q)) (hide (H3.out.drewN q))
  obtain ⟨O, hO⟩ : ∃ O, zc.1.ar (b : Int) = O := ⟨_, rfl⟩
  rw [hO] at cd
  have HO := hide hO
  have ha0 : (0 : Int) ≤ (a : Int) := by omega
  have ha1 : (a : Int) < 8 := by omega
  clear hO
  go_region_held3 (fun w' => w'.cell? ⟨X, 1, none⟩ = some (.int .i64 (a : Int)) ∧ w'.cell? ⟨X, 2, none⟩ = some (.int .i64 (b : Int)) ∧ w'.cell? ⟨Y, 3, none⟩ = some (.map (some zc.2.2))) (first | go_keep | exact ⟨m1, m2, m3⟩ | exact ⟨n1, n2, n3⟩)
    (first
      | (go_at_call 51; refine (cd _).mono ?_; rintro e w5 ⟨rfl, h5, k5⟩; have H5 := hide h5; have B5 := hide (B3.out.trans (Below.trans (below_draws (Below.refl _ _) _) ((H3.out.drewN _).belowC k5))); have r5 := hide (k5.row (R3.out.drewN _) hXg (.inr (by decide))); have y5 := hide (k5.row (Y3.out.drewN _) hYg (.inr (by decide))); have m1 := r5.out.cell (k := 1) rfl; have m2 := r5.out.cell (k := 2) rfl; have m3 := y5.out.cell (k := 3) rfl; clear h5 k5)
      | (go_at_call 50; refine (coSet_any (a : Int) _ w5 (hide H5.out.core)).mono ?_; rintro e w6 ⟨rfl, h6, k6⟩; have H6 := hide (H5.out.cored h6 (k6.weak H5.out.core.tr) (show (s.read O).steps ≤ ((s.read O).co.setR (a : Int) (O.getD 0)).steps from Nat.le_of_eq (Co.setR_keeps (s.read O).co (a : Int) (O.getD 0)).2.2.2.2.2.1.symm)); have B6 := hide (B5.out.trans (H5.out.belowC (k6.weak H5.out.core.tr))); have n6 := (k6.weak (base := base) H5.out.core.tr).row r5.out hXg (.inr (by decide)); have n1 := n6.cell (k := 1) rfl; have n2 := n6.cell (k := 2) rfl; have n3 := ((k6.weak (base := base) H5.out.core.tr).row y5.out hYg (.inr (by decide))).cell (k := 3) rfl; clear h6 k6 n6))
  all_goals
    go_wp2_with fail
    go_end0
    rw [HO.out]
    exact ⟨rfl, ⟨_, _, by rw [← co_setR _ (by omega)]; exact H6.out⟩, B6.out⟩
end
end Go.Proofs.YtipjeihfhnilcaaDoor
end
