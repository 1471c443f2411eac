import Derived.Test.YtlkcjjalkdlicaaDoorMZall
import Derived.Test.YtlkcjjalkdlicaaDoorMZvld
set_option linter.unusedVariables false
set_option linter.unusedSimpArgs false
section
/-
  The contract of the machine's step (chapter 8). Conditions: those of the types.
-/
namespace Go.Proofs.YtlkcjjalkdlicaaDoor
open Go.RowKit

section
variable {g base : Nat} {vi vt vf vs : Value} {zs : List Zn} {s : Mch}
theorem step_counted {w : World} (h : MRaw w g base vi vt vf vs zs s) : MRaw (w.setCell ⟨g, 22, none⟩ (.int .i64 ((s.steps : Int) + 1))) g base vi vt vf vs zs { s with steps := s.steps + 1 } :=
  h.store 22 (.int .i64 ((s.steps : Int) + 1)) (s' := { s with steps := s.steps + 1 }) (mcells_set h.r8 6 _) h.inp rfl rfl (Nat.le_succ _) h.r8
/-- The instruction that is fetched, and where it lies. -/
structure Fet (w : World) (base : Nat) (A : Option Addr) (nF : Nat) (fi pc : Nat) (x : Ins) (bF oF : Nat) (n2 c2 bC oC : Nat) : Prop where
  a : A = some ⟨bF, oF, none⟩
  bf : bF < base
  bc : bC < base
  fl : fi < nF
  pl : pc < n2
  h : w.cell? ⟨bF, oF + fi * 3 + 2, none⟩ = some (.slice (some ⟨bC, oC, none⟩) n2 c2)
  x0 : w.cell? ⟨bC, oC + pc * 5, none⟩ = some (.int .i64 x.op)
  x1 : w.cell? ⟨bC, oC + pc * 5 + 1, none⟩ = some (.int .i64 x.a)
  x2 : w.cell? ⟨bC, oC + pc * 5 + 2, none⟩ = some (.int .i64 x.b)
  x3 : w.cell? ⟨bC, oC + pc * 5 + 3, none⟩ = some (.int .i64 x.c)
  x4 : w.cell? ⟨bC, oC + pc * 5 + 4, none⟩ = some (.int .u64 x.imm)
theorem Fet.below {w w' : World} {A : Option Addr} {nF fi pc bF oF n2 c2 bC oC : Nat} {x : Ins} (h : Fet w base A nF fi pc x bF oF n2 c2 bC oC) (hb : Below base w w') : Fet w' base A nF fi pc x bF oF n2 c2 bC oC :=
  ⟨h.a, h.bf, h.bc, h.fl, h.pl, (hb.cell (p := ⟨bF, _, none⟩) h.bf).trans h.h, (hb.cell (p := ⟨bC, _, none⟩) h.bc).trans h.x0, (hb.cell (p := ⟨bC, _, none⟩) h.bc).trans h.x1, (hb.cell (p := ⟨bC, _, none⟩) h.bc).trans h.x2, (hb.cell (p := ⟨bC, _, none⟩) h.bc).trans h.x3, (hb.cell (p := ⟨bC, _, none⟩) h.bc).trans h.x4⟩
theorem fet_of {w : World} {lo nF cF fi pc : Nat} {A : Option Addr} {hs : List Hd} {F : Pg} {f : Fn} {x : Ins} (H : PgAt w lo base A nF cF hs F) (hf : F[fi]? = some f) (hx : f.code[pc]? = some x) : ∃ bF oF n2 c2 bC oC, Fet w base A nF fi pc x bF oF n2 c2 bC oC ∧ n2 = f.code.length := by
  have hfl : fi < nF := by rw [← H.len]; exact (List.getElem?_eq_some_iff.1 hf).1
  obtain ⟨bF, oF, P, A1, n1, c1, A2, n2, c2, f', rfl, hbF, hf', _, hHd, _, _, d2⟩ := fn_at H hfl
  rw [hf] at hf'
  injection hf' with hf'
  subst hf'
  obtain ⟨hp, hxe⟩ := List.getElem?_eq_some_iff.1 hx
  obtain ⟨bC, oC, rfl, hbC, x0, x1, x2, x3, x4⟩ := ins_at hHd.s2 hp
  rw [hxe] at x0 x1 x2 x3 x4
  exact ⟨bF, oF, n2, c2, bC, oC, ⟨rfl, hbF, hbC, hfl, by have := hHd.l2; dsimp only at this; omega, d2, x0, x1, x2, x3, x4⟩, hHd.l2.symm⟩
set_option maxHeartbeats 8000000 in
theorem step_any {F : Pg} {lo nF cF : Nat} {A : Option Addr} {hs : List Hd} (w : World) (hF : pgE F = 0) (him : Hid (ImmF F)) (hv : Hid (Vld F s)) (hsm : s.steps ≤ 100000) (hvf : vf = .slice A nF cF) (hPg : Hid (PgAt w lo base A nF cF hs F)) (h : Hid (MRaw w g base vi vt vf vs zs s)) :
    Calls Tryd.prog 53 #[.pointer (some ⟨g, 0, none⟩)] w fun e w' => e = .returned (.tuple #[]) ∧ (∃ vi' vt' vs' zs', MRaw w' g base vi' vt' vf vs' zs' (s.stepM F)) ∧ Below base w w' := by
  have HF := hide hF
  have hl1 : s.st.length ≤ 1000000 := by have := hv.out.len; omega
  obtain ⟨G, c, k, z, ys, ht⟩ := h.out.topAt hv.out.ne hl1
  obtain ⟨rfl, rfl, hk, -, -, -, -, -, hkm⟩ := ht
  obtain ⟨htop, _⟩ := st_top h.out.eq
  obtain ⟨f, hf, hp, hx⟩ := hv.out.next_at
  rw [htop] at hf hp hx
  obtain ⟨x, hxx⟩ : ∃ x, s.next F = x := ⟨_, rfl⟩
  rw [hxx] at hx
  obtain ⟨hfc, hfs, hfp, hins, hcl⟩ := fnE_zero.1 (fn_of hF hf)
  have hxe := hide (hins x (List.mem_of_getElem? hx))
  have hxi := hide (him.out f (List.mem_of_getElem? hf) x (List.mem_of_getElem? hx))
  have hfs2 : f.slots.length ≤ 512 := by
    rcases Nat.lt_or_ge 512 f.slots.length with h1 | h1
    · rw [slotsE_many h1] at hfs; cases hfs
    · exact h1
  have hF80 : F.length ≤ 80 := (pgE_zero.1 hF).1
  obtain ⟨bF, oF, n2, c2, bC, oC, hfet, hn2⟩ := fet_of hPg.out hf hx
  have hn2b : n2 ≤ 1024 := by omega
  have hnFb : nF ≤ 80 := by have := hPg.out.len; omega
  have hdep : s.depth ≤ 1000000 := by have := hv.out.dep; omega
  have HFET := hide hfet
  have HXX := hide hxx
  have Hf := hide hf
  have hp19 := hide (show x.op = 19 → 1 ≤ k from fun e19 => by
    rcases Nat.eq_zero_or_pos k with h0 | h0
    · exfalso
      subst h0
      have hys : ys = [] := List.eq_nil_of_length_eq_zero hk
      subst hys
      have hz0 : z.1.f = 0 := hv.out.zero z.1 (by rw [← h.out.eq]; rfl)
      obtain ⟨_, ⟨f0, r0, eF, hp0⟩, _⟩ := pgE_zero.1 hF
      have hff : f = f0 := by rw [hz0, eF] at hf; injection hf with hf; exact hf.symm
      obtain ⟨_, _, e2, _, _, _⟩ := insE_zero.1 hxe.out
      rw [e19] at e2
      obtain ⟨i, _, hi⟩ := kind_par e2
      rw [hff, hp0] at hi
      omega
    · exact h0)
  -- the worlds
  have hK0 := hide (show MapsK w (ys ++ [z]) s.steps from h.out.maps)
  have hgl := h.out.gl
  obtain ⟨hbG, hGl, hGg⟩ := topBlk h.out
  have HbG := hide hbG
  have c22 := h.out.far 6 rfl
  have f22 := h.out.row.free 22
  have hwrap : IntKind.i64.wrap ((s.steps : Int) + 1) = (s.steps : Int) + 1 := by rw [IntKind.wrap_i64]; omega
  obtain ⟨T0, hT0⟩ : ∃ T, s.stepM F = T := ⟨_, rfl⟩
  rw [hT0]
  have HT0 := hide hT0
  clear hT0
  go_enter Tryd.func53, Tryd.ntmps53
  go_upto_region 1 with (fail)
  obtain ⟨W1, hW1⟩ : ∃ W1, w.setCell ⟨g, 22, none⟩ (.int .i64 ((s.steps : Int) + 1)) = W1 := ⟨_, rfl⟩
  have H1 := hide (show MRaw W1 g base vi vt vf (.slice (some ⟨G, 0, none⟩) (k + 1) c) (ys ++ [z]) { s with steps := s.steps + 1 } by rw [← hW1]; exact step_counted h.out)
  have K1 := hide (show MapsK W1 (ys ++ [z]) s.steps by rw [← hW1]; exact hK0.out.put h.out.row 22 _)
  have B1 := hide (show Below base w W1 by rw [← hW1]; exact (Below.refl _ _).setCell (p := ⟨g, 22, none⟩) h.out.gb _)
  have T1 := hide (topOf H1.out hk hkm)
  have cl := last_any W1 H1 T1
  rw [hW1]
  clear hW1 c22 f22 hwrap
  go_wp2_with fail
  refine cl.mono ?_
  rintro e w' ⟨rfl, nq, rfl⟩
  obtain ⟨W2, hW2⟩ : ∃ W2, W1.drewN nq = W2 := ⟨_, rfl⟩
  have H2 := hide (show MRaw W2 g base vi vt vf (.slice (some ⟨G, 0, none⟩) (k + 1) c) (ys ++ [z]) { s with steps := s.steps + 1 } by rw [← hW2]; exact H1.out.drewN nq)
  have K2 := hide (show MapsK W2 (ys ++ [z]) s.steps by rw [← hW2]; exact K1.out.drewN nq)
  have B2 := hide (show Below base w W2 by rw [← hW2]; exact below_draws B1.out nq)
  rw [hW2]
  clear hW2 cl T1 H1 K1 B1
  have T2 := hide (topOf H2.out hk hkm)
  have F2 := hide (HFET.out.below B2.out)
  have v0 := H2.out.far 8 rfl
  rw [hvf, F2.out.a] at v0
  have t0 := T2.out.fn
  have t1 := T2.out.pc
  have y0 := F2.out.h
  have y1 := F2.out.x0
  have y2 := F2.out.x1
  have y3 := F2.out.x2
  have y4 := F2.out.x3
  have y5 := F2.out.x4
  have v0' := fun o : Obj => keep_cellB (below1 W2 o) v0
  have t0' := fun o : Obj => keep_cellB (below1 W2 o) t0
  have t1' := fun o : Obj => keep_cellB (below1 W2 o) t1
  have y0' := fun o : Obj => keep_cellB (below1 W2 o) y0
  have y1' := fun o : Obj => keep_cellB (below1 W2 o) y1
  have y2' := fun o : Obj => keep_cellB (below1 W2 o) y2
  have y3' := fun o : Obj => keep_cellB (below1 W2 o) y3
  have y4' := fun o : Obj => keep_cellB (below1 W2 o) y4
  have y5' := fun o : Obj => keep_cellB (below1 W2 o) y5
  have i0 : (0 : Int) ≤ (z.1.f : Int) := by omega
  have i1 : (z.1.f : Int) < (nF : Int) := by have := F2.out.fl; omega
  have i2 : (0 : Int) ≤ (z.1.pc : Int) := by omega
  have i3 : (z.1.pc : Int) < (n2 : Int) := by have := F2.out.pl; omega
  go_upto_region 2 with (fail)
  go_region
  go_upto_region 3 with (fail)
  obtain ⟨X, hX⟩ : ∃ X, W2.heap.size = X := ⟨_, rfl⟩
  obtain ⟨W3, hW3⟩ : ∃ W3, (W2.alloc (.cells #[.int .i64 x.op, .int .i64 x.a, .int .i64 x.b, .int .i64 x.c, .int .u64 x.imm] 65)).drew = W3 := ⟨_, rfl⟩
  have H3 := hide (show MRaw W3 g base vi vt vf (.slice (some ⟨G, 0, none⟩) (k + 1) c) (ys ++ [z]) { s with steps := s.steps + 1 } by rw [← hW3]; exact (H2.out.alloc _).drewN 1)
  have K3 := hide (show MapsK W3 (ys ++ [z]) s.steps by rw [← hW3]; exact (K2.out.call (below1 W2 _)).drewN 1)
  have B3 := hide (show Below base w W3 by rw [← hW3]; exact below_draws (B2.out.alloc H2.out.bl _) 1)
  have R3 := hide (show Row W3 X 65 [.int .i64 x.op, .int .i64 x.a, .int .i64 x.b, .int .i64 x.c, .int .u64 x.imm] by rw [← hW3, ← hX]; exact (Row.new W2 _ _).drew)
  have hXG : X ≠ G := by have := (topBlk H2.out).2.1; omega
  rw [hW3, hX]
  clear hW3 hX v0 t0 t1 y0 y1 y2 y3 y4 y5 v0' t0' t1' y0' y1' y2' y3' y4' y5' i0 i1 i2 i3 H2 K2 B2 T2 F2
  have T3 := hide (topOf H3.out hk hkm)
  have t1 := T3.out.pc
  have t2 := T3.out.fr (k * 4 + 1)
  have hwp : IntKind.i64.wrap ((z.1.pc : Int) + 1) = (z.1.pc : Int) + 1 := by rw [IntKind.wrap_i64]; have := HFET.out.pl; omega
  go_upto_region 4 with (fail)
  obtain ⟨W4, hW4⟩ : ∃ W4, W3.setCell ⟨G, k * 4 + 1, none⟩ (.int .i64 ((z.1.pc : Int) + 1)) = W4 := ⟨_, rfl⟩
  have hset := H3.out.pcSet hk (z.1.pc + 1)
  rw [show (((z.1.pc + 1 : Nat)) : Int) = (z.1.pc : Int) + 1 by omega, hW4] at hset
  obtain ⟨h4, hg4, _, csG, hhG⟩ := hset
  have hfe : ({ s with steps := s.steps + 1 } : Mch).jump (z.1.pc + 1) = s.fetched := by unfold Mch.fetched; rw [htop]
  rw [hfe] at h4
  have H4 := hide h4
  have B4 := hide (show Below base w W4 by rw [← hW4]; exact B3.out.setCell (p := ⟨G, k * 4 + 1, none⟩) HbG.out _)
  have R4 := hide (show Row W4 X 65 [.int .i64 x.op, .int .i64 x.a, .int .i64 x.b, .int .i64 x.c, .int .u64 x.imm] by rw [← hW4]; exact R3.out.far (p := ⟨G, k * 4 + 1, none⟩) hXG _)
  have K4 := hide (show MapsK W4 (ys ++ [({ z.1 with pc := z.1.pc + 1 }, z.2)]) s.steps by
    have hk4 : MapsK W4 (ys ++ [z]) s.steps := by rw [← hW4]; exact K3.out.put hhG (k * 4 + 1) _
    intro z2 hz2
    rcases List.mem_append.1 hz2 with hz2 | hz2
    · exact hk4 z2 (List.mem_append_left _ hz2)
    · obtain rfl : z2 = ({ z.1 with pc := z.1.pc + 1 }, z.2) := by simpa using hz2
      exact hk4 z (by simp))
  have P4 := hide (hPg.out.below B4.out)
  have hvl := hv.out
  have S4 := hide (show SmallM s.fetched from ⟨hvl.rv, hvl.iv, by have := hvl.tl; show s.trace.length ≤ 1000000; omega⟩)
  have hsl4 : s.fetched.st.length ≤ 1000000 := by rw [(fetched_st hvl).1]; exact hl1
  have HEX := hide (show s.stepM F = s.fetched.exec F x by unfold Mch.stepM; rw [HXX.out])
  rw [hW4]
  clear hW4 h4 hg4 hhG H3 K3 B3 R3 T3 t1 t2 hwp hXG hvl hfe
  have x0 := R4.out.cell (k := 0) rfl
  have x1 := R4.out.cell (k := 1) rfl
  have x2 := R4.out.cell (k := 2) rfl
  have x3 := R4.out.cell (k := 3) rfl
  have x4 := R4.out.cell (k := 4) rfl
  rw [HT0.out] at HEX
  obtain ⟨op, xa, xb, xc, imm⟩ := x
  dsimp only at x0 x1 x2 x3 x4
  by_cases hA : 15 ≤ op ∧ op ≤ 19
  · have ca := access_any (z := ({ z.1 with pc := z.1.pc + 1 }, z.2)) _ W4 Hf.out hxe.out hA hfs2 hfp.2 hF80 hp19.out hvf P4 S4.out hk hkm s.steps K4 (Nat.le_refl _) (by omega) H4
    rw [show s.fetched.accessM F ⟨op, xa, xb, xc, imm⟩ = T0 by rw [HEX.out]; unfold Mch.exec; rw [if_pos hA]] at ca
    unfold ivI at ca
    dsimp only at ca
    clear hp19 hxe hxi HEX HXX HFET
    rcases (show op = 15 ∨ op = 16 ∨ op = 17 ∨ op = 18 ∨ op = 19 by omega) with rfl | rfl | rfl | rfl | rfl
    all_goals
      go_wp2_with fail
      refine ca.mono ?_
      rintro e w5 ⟨rfl, ⟨vs5, zs5, h5⟩, hb5⟩
      have H5 := hide h5
      have B5 := hide (B4.out.trans hb5)
      clear ca h5 hb5
      go_wp2_with fail
      go_end0
      exact ⟨rfl, ⟨_, _, _, _, H5.out⟩, B5.out⟩
  · by_cases hB : 20 ≤ op ∧ op ≤ 24
    · have ca := transfer_any _ W4 hxe.out hB hfc hF80 hxi.out hsl4 hdep hk hkm H4
      rw [show s.fetched.transferM ⟨op, xa, xb, xc, imm⟩ = T0 by rw [HEX.out]; unfold Mch.exec; rw [if_neg hA, if_pos hB]] at ca
      unfold ivI at ca
      dsimp only at ca
      clear hp19 hxe hxi HEX HXX HFET
      rcases (show op = 20 ∨ op = 21 ∨ op = 22 ∨ op = 23 ∨ op = 24 by omega) with rfl | rfl | rfl | rfl | rfl
      all_goals
        go_wp2_with fail
        refine ca.mono ?_
        rintro e w5 ⟨rfl, ⟨vs5, zs5, h5⟩, hb5⟩
        have H5 := hide h5
        have B5 := hide (B4.out.trans hb5)
        clear ca h5 hb5
        go_wp2_with fail
        go_end0
        exact ⟨rfl, ⟨_, _, _, _, H5.out⟩, B5.out⟩
    · have hop15 : op < 15 := by have := (insE_zero.1 hxe.out).1; dsimp only at this; omega
      have ca := fun n => compute_any _ (W4.drewN n) hxe.out hop15 hxi.out S4.out (hide (H4.out.drewN n))
      rw [show s.fetched.computeM ⟨op, xa, xb, xc, imm⟩ = T0 by rw [HEX.out]; unfold Mch.exec; rw [if_neg hA, if_neg hB]] at ca
      unfold ivI at ca
      dsimp only at ca
      have o15 : (op == 15) = false := by rw [beq_eq_false_iff_ne]; omega
      have o16 : (op == 16) = false := by rw [beq_eq_false_iff_ne]; omega
      have o17 : (op == 17) = false := by rw [beq_eq_false_iff_ne]; omega
      have o18 : (op == 18) = false := by rw [beq_eq_false_iff_ne]; omega
      have o19 : (op == 19) = false := by rw [beq_eq_false_iff_ne]; omega
      have o20 : (op == 20) = false := by rw [beq_eq_false_iff_ne]; omega
      have o21 : (op == 21) = false := by rw [beq_eq_false_iff_ne]; omega
      have o22 : (op == 22) = false := by rw [beq_eq_false_iff_ne]; omega
      have o23 : (op == 23) = false := by rw [beq_eq_false_iff_ne]; omega
      have o24 : (op == 24) = false := by rw [beq_eq_false_iff_ne]; omega
      clear hp19 hxe hxi HEX HXX HFET hA hB hop15
      go_upto_region 5 with (fail)
      refine wp_region_last 4 (by kernel_rfl) rfl rfl (by kernel_rfl) (by kernel_rfl) (by kernel_rfl) (C := fun w' => ∃ n, w' = W4.drewN n) ⟨1, rfl⟩ ?_
      dsimp only [List.take_succ_cons, List.take_zero]
      repeat (go_big_quiet_step (fail))
      refine wpQuiet_nil ?_
      intro _ hw'
      obtain ⟨n, hw''⟩ := hw'
      subst hw''
      go_wp2_with fail
      refine (ca n).mono ?_
      rintro e w5 ⟨rfl, ⟨vi5, vt5, h5⟩, hb5⟩
      have H5 := hide h5
      have B5 := hide ((below_draws B4.out n).trans hb5)
      clear ca h5 hb5
      go_wp2_with fail
      go_end0
      exact ⟨rfl, ⟨_, _, _, _, H5.out⟩, B5.out⟩
end
end Go.Proofs.YtlkcjjalkdlicaaDoor
end
