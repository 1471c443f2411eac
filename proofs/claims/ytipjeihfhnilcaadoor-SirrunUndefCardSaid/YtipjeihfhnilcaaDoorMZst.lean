import Derived.Test.YtipjeihfhnilcaaDoorMZac
set_option linter.unusedVariables false
set_option linter.unusedSimpArgs false
section
/-
  The contract of the machine's access at Store (chapter 8). Conditions: those of the types.
-/
namespace Go.Proofs.YtipjeihfhnilcaaDoor
open Go.RowKit

theorem grown_of_below {w w' : World} (h : Below w.heap.size w w') (row : Option Nat) : w.grownBy w' row := ⟨h.os, h.tape, h.output, h.size, fun i hi _ => h.block i hi⟩
section
variable {g base fu : Nat} {vi vt vf vs : Value} {zs : List Zn} {s : Mch}

set_option maxHeartbeats 4000000 in
theorem access_16 {G c k : Nat} {z : Zn} {ys : List Zn} (a b V : Nat) (sz : Int) (bF oF nF cF : Nat) (bS oS n1 c1 : Nat) (w : World) (ha : a < n1) (hn1 : n1 ≤ 1000000) (hb : b < 8) (hV : Hid (s.regs.getD b 0 = V)) (hV2 : Hid (V < two128)) (hvf : vf = .slice (some ⟨bF, oF, none⟩) nF cF) (hfn : z.1.f < nF) (hnF : nF ≤ 1000000) (hF : Hid (bF < base)) (hS : Hid (bS < base)) (cF1 : w.cell? ⟨bF, oF + z.1.f * 3 + 1, none⟩ = some (.slice (some ⟨bS, oS, none⟩) n1 c1)) (cS0 : w.cell? ⟨bS, oS + a * 2, none⟩ = some (.int .i64 sz)) (K : Nat) (hK : Hid (MapsK w (ys ++ [z]) K)) (hKs : K + 1 ≤ s.steps) (hK2 : K ≤ 1000000) (hk : ys.length = k) (hkm : k ≤ 1000000) (h : Hid (MRaw w g base fu vi vt vf (.slice (some ⟨G, 0, none⟩) (k + 1) c) (ys ++ [z]) s)) :
    Calls Tryd.prog 40 #[.pointer (some ⟨g, 0, none⟩), iv 16 (a : Int) (b : Int) 0 0] w fun e w' => e = .returned (.tuple #[]) ∧ (∃ vs' zs', MRaw w' g base fu vi vt vf vs' zs' (s.setTop { z.1 with sl := updC z.1.sl (a : Int) (truncV V sz) })) ∧ Below base w w' := by
  have hgl := h.out.gl
  have hGs := (topBlk h.out).2.1
  have hGg := (topBlk h.out).2.2
  go_enter Tryd.func40, Tryd.ntmps40
  obtain ⟨X, hX⟩ : ∃ X, w.heap.size = X := ⟨_, rfl⟩
  obtain ⟨W1, hW1⟩ : ∃ W1, w.alloc (.cells #[.int .i64 16, .int .i64 (a : Int), .int .i64 (b : Int), .int .i64 0, .int .u64 0] 48) = W1 := ⟨_, rfl⟩
  have R1 := hide (show Row W1 X 48 [.int .i64 16, .int .i64 (a : Int), .int .i64 (b : Int), .int .i64 0, .int .u64 0] by rw [← hW1, ← hX]; exact Row.new w _ _)
  have H1 := hide (show MRaw W1 g base fu vi vt vf (.slice (some ⟨G, 0, none⟩) (k + 1) c) (ys ++ [z]) s by rw [← hW1]; exact h.out.alloc _)
  have B1 := hide (show Below base w W1 by rw [← hW1]; exact (Below.refl _ _).alloc h.out.bl _)
  have hgX : g ≠ X := by omega
  have HX := hide hX
  have HW1 := hide hW1
  clear hX hW1
  go_upto_region 1 with (fail)
  rw [HW1.out, HX.out]
  have x0 := R1.out.cell (k := 0) rfl
  have x1 := R1.out.cell (k := 1) rfl
  have HbG := hide (topBlk h.out).1
  have hXG : X ≠ G := by have := HX.out; omega
  have hGX : G ≠ X := hXG.symm
  have hXg : X ≠ g := hgX.symm
  have hgG : g ≠ G := hGg.symm
  have T1 := hide (topOf H1.out hk hkm)
  have cl := last_any W1 H1 T1
  go_wp2_with fail
  refine cl.mono ?_
  rintro e w' ⟨rfl, nq, rfl⟩
  obtain ⟨W2, hW2⟩ : ∃ W2, W1.drewN nq = W2 := ⟨_, rfl⟩
  have R2 := hide (show Row W2 X 48 _ by rw [← hW2]; exact R1.out.drewN nq)
  have H2 := hide (show MRaw W2 g base fu vi vt vf (.slice (some ⟨G, 0, none⟩) (k + 1) c) (ys ++ [z]) s by rw [← hW2]; exact H1.out.drewN nq)
  have B2 := hide (show Below base w W2 by rw [← hW2]; exact below_draws B1.out nq)
  have T2 := hide (topOf H2.out hk hkm)
  have W12 := hide (show ∀ zs K, MapsK W1 zs K → MapsK W2 zs K from fun zs K hq => by rw [← hW2]; exact hq.drewN nq)
  rw [hW2]
  clear hW2 cl T1 H1 R1 B1 x1
  have x0 := R2.out.cell (k := 0) rfl
  have x1 := R2.out.cell (k := 1) rfl
  have x2 := R2.out.cell (k := 2) rfl
  have hKW := hide (show MapsK W2 (ys ++ [z]) K from W12.out _ _ (by rw [← HW1.out]; exact hK.out.call (below1 w _)))
  have t2 := T2.out.sl
  have t0 := T2.out.fn
  have cr := fun q => coReg_any (b : Int) (W2.drewN q) (hide (H2.out.drewN q).core)
  rw [show s.co.reg (b : Int) = V by rw [← hV.out]; exact s.co.reg_in hb] at cr
  have v0 := H2.out.far 0 rfl
  rw [hvf] at v0
  have hbl := h.out.bl
  have u1 : W2.cell? ⟨bF, oF + z.1.f * 3 + 1, none⟩ = some (.slice (some ⟨bS, oS, none⟩) n1 c1) := (B2.out.cell (p := ⟨bF, oF + z.1.f * 3 + 1, none⟩) hF.out).trans cF1
  have u2 : W2.cell? ⟨bS, oS + a * 2, none⟩ = some (.int .i64 sz) := (B2.out.cell (p := ⟨bS, oS + a * 2, none⟩) hS.out).trans cS0
  have hm := hide (H2.out.maps z (by simp)).1
  obtain ⟨m1, hm1⟩ : ∃ m1, z.2.1 = m1 := ⟨_, rfl⟩
  have hlow : base ≤ m1 := by rw [← hm1]; exact H2.out.low _ (by rw [blocksZ_app]; exact List.mem_append_right _ (show z.2.1 ∈ [z.2.1, z.2.2] by simp))
  have hXm : some X ≠ some m1 := fun e => by rw [← hm1] at e; exact (hm.out.not_row R2.out) (by injection e with e; exact e.symm)
  have hGm : some G ≠ some m1 := fun e => by rw [← hm1] at e; obtain ⟨_, _, _, cs, hh⟩ := H2.out.pcSet hk 0; exact hm.out.not_row hh (by injection e with e; exact e.symm)
  have hgm : some g ≠ some m1 := fun e => by rw [← hm1] at e; exact hm.out.not_row H2.out.row (by injection e with e; exact e.symm)
  have hFm : some bF ≠ some m1 := fun e => by injection e with e; have := hF.out; omega
  have hSm : some bS ≠ some m1 := fun e => by injection e with e; have := hS.out; omega
  rw [hm1] at t2
  have x1 := fun (w' : World) (hw : W2.grownBy w' (some m1)) => hw.cell x1 hXm
  have x2 := fun (w' : World) (hw : W2.grownBy w' (some m1)) => hw.cell x2 hXm
  have t2 := fun (w' : World) (hw : W2.grownBy w' (some m1)) => hw.cell t2 hGm
  have t0 := fun (w' : World) (hw : W2.grownBy w' (some m1)) => hw.cell t0 hGm
  have v0 := fun (w' : World) (hw : W2.grownBy w' (some m1)) => hw.cell v0 hgm
  have u1 := fun (w' : World) (hw : W2.grownBy w' (some m1)) => hw.cell u1 hFm
  have u2 := fun (w' : World) (hw : W2.grownBy w' (some m1)) => hw.cell u2 hSm
  have hb0 : (0 : Int) ≤ (b : Int) := by omega
  have hb1 : (b : Int) < 8 := by omega
  have ha0 : (0 : Int) ≤ (a : Int) := by omega
  have ha1 : (a : Int) < (n1 : Int) := by omega
  have hf0 : (0 : Int) ≤ (z.1.f : Int) := by omega
  have hf1 : (z.1.f : Int) < (nF : Int) := by omega
  have ct := fun W => trunc_any V sz W hV2.out
  obtain ⟨R, hR⟩ : ∃ R, truncV V sz = R := ⟨_, rfl⟩
  rw [hR] at ct
  have HR := hide hR
  have hKm := hide (show K < maxLen by unfold maxLen; omega)
  have hMem := hide (show z ∈ ys ++ [z] by simp)
  have hTw := hide (show some z.2.2 ≠ some m1 from fun e => H2.out.two (by rw [hm1]; injection e with e; exact e.symm))
  have hAb := hide (show -9223372036854775808 ≤ (a : Int) ∧ (a : Int) ≤ 9223372036854775807 by omega)
  have HM1 := hide hm1
  clear hm1 hR cF1 cS0 hXm hGm hgm hFm hSm hlow
  go_upto_region 6 with (fail)
  go_region_held3 (fun w' => W2.grownBy w' (some m1)) (first | exact grown_draws (World.grownBy.refl _ _) 1 | exact bb | exact World.grownBy.trans bb hg8 | exact bb4)
    (first
      | (go_at_call 49; refine (cr _).mono ?_; rintro e w4 ⟨rfl, b4⟩; have hb4 : Below W2.heap.size W2 w4 := below_call (below_draws (Below.refl W2.heap.size W2) _) b4; have bb4 := grown_of_below hb4 (some m1); clear b4)
      | (go_at_call 52; refine (ct w4).mono ?_; rintro e w5 ⟨rfl, hb5⟩; have hb6 : Below W2.heap.size W2 w5 := below_call hb4 hb5; have bb := grown_of_below hb6 (some m1); have ck := (hKW.out z hMem.out).1.below hb6 (hKW.out z hMem.out).1.lt; have h5 := H2.out.call hb6; rw [HM1.out] at ck; obtain ⟨w8, hrun, hc8, hg8⟩ := ck.store (a : Int) hAb.out R hKm.out; have FIN := hide (h5.mapSet (w' := w8) (b := m1) ({ z.1 with sl := updC z.1.sl (a : Int) R }, z.2) (.inl HM1.out.symm) rfl rfl rfl hg8 (by rw [HM1.out]; exact hc8.mono hKs) ((h5.maps z hMem.out).2.kept hg8 hTw.out)); have B5 := hide (B2.out.trans (hb6.mono H2.out.bl)); clear hb5 hb6 h5 ck hc8))
  all_goals
    go_wp2_with fail
    go_end0
    rw [HR.out]
    exact ⟨rfl, ⟨_, _, FIN.out.1⟩, B5.out.trans FIN.out.2⟩
end
end Go.Proofs.YtipjeihfhnilcaaDoor
end
