import Derived.Test.YtafegghdhdgioabGreatMNacc
set_option linter.unusedVariables false
set_option linter.unusedSimpArgs false
section
/-
  The contract of the machine's step (chapter 12). Conditions: those of the types; the target is right.
-/
namespace Go.Proofs.YtafegghdhdgioabGreat
open Go.RowKit

section
variable {g base fu T0 : Nat} {vi vt vf vs : Value} {A1 A2 : Option Addr} {c1 c2 : Nat} {s : Tm}
/-- The instruction that is fetched, and where it lies. -/
structure FetT (w : World) (base : Nat) (A : Option Addr) (nF : Nat) (fi pc : Nat) (x : Ins) (bF oF : Nat) (n2 c2 bC oC : Nat) : Prop where
  a : A = some ⟨bF, oF, none⟩
  bf : bF < base
  bc : bC < base
  fl : fi < nF
  pl : pc < n2
  h : w.cell? ⟨bF, oF + fi * 3 + 2, none⟩ = some (.slice (some ⟨bC, oC, none⟩) n2 c2)
  x0 : w.cell? ⟨bC, oC + pc * 5, none⟩ = some (.int .i64 x.op)
  x1 : w.cell? ⟨bC, oC + pc * 5 + 1, none⟩ = some (.int .i64 x.a)
  x2 : w.cell? ⟨bC, oC + pc * 5 + 2, none⟩ = some (.int .i64 x.b)
  x3 : w.cell? ⟨bC, oC + pc * 5 + 3, none⟩ = some (.int .i64 x.c)
  x4 : w.cell? ⟨bC, oC + pc * 5 + 4, none⟩ = some (.int .u64 x.imm)
theorem FetT.below {w w' : World} {A : Option Addr} {nF fi pc bF oF n2 c2 bC oC : Nat} {x : Ins} (h : FetT w base A nF fi pc x bF oF n2 c2 bC oC) (hb : Below base w w') : FetT w' base A nF fi pc x bF oF n2 c2 bC oC :=
  ⟨h.a, h.bf, h.bc, h.fl, h.pl, (hb.cell (p := ⟨bF, _, none⟩) h.bf).trans h.h, (hb.cell (p := ⟨bC, _, none⟩) h.bc).trans h.x0, (hb.cell (p := ⟨bC, _, none⟩) h.bc).trans h.x1, (hb.cell (p := ⟨bC, _, none⟩) h.bc).trans h.x2, (hb.cell (p := ⟨bC, _, none⟩) h.bc).trans h.x3, (hb.cell (p := ⟨bC, _, none⟩) h.bc).trans h.x4⟩
theorem fetT_of {w : World} {lo nF cF fi pc : Nat} {A : Option Addr} {hs : List Fd} {F : Tg} {f : Fm} {x : Ins} (H : TgAt w lo base A nF cF hs F) (hf : F[fi]? = some f) (hx : f.code[pc]? = some x) : ∃ bF oF n2 c2 bC oC, FetT w base A nF fi pc x bF oF n2 c2 bC oC ∧ n2 = f.code.length := by
  have hfl : fi < nF := by rw [← H.len]; exact (List.getElem?_eq_some_iff.1 hf).1
  obtain ⟨bF, oF, P, Sz, Ac, nc, cc, f', rfl, hbF, hf', hhf, hfd, d0, d1, d2⟩ := fm_at H hfl
  rw [hf] at hf'
  injection hf' with hf'
  subst hf'
  obtain ⟨hp, hxe⟩ := List.getElem?_eq_some_iff.1 hx
  obtain ⟨bC, oC, rfl, hbC, x0, x1, x2, x3, x4⟩ := ins_at hfd.c hp
  rw [hxe] at x0 x1 x2 x3 x4
  have hl : f.code.length = nc := hfd.l
  exact ⟨bF, oF, nc, cc, bC, oC, ⟨rfl, hbF, hbC, hfl, by omega, d2, x0, x1, x2, x3, x4⟩, hl.symm⟩
/-- One step more. -/
theorem TmAt.more {w : World} (h : TmAt w g base fu T0 vi vt vf A1 c1 A2 c2 vs s) : TmAt (w.setCell ⟨g, 7, none⟩ (.int .i64 ((s.c.steps : Int) + 1))) g base fu T0 vi vt vf A1 c1 A2 c2 vs { s with c := s.c.more } :=
  h.cored (h.core.store 7 (.int .i64 ((s.c.steps : Int) + 1)) (c' := s.c.more) (fu' := fu) (vi' := vi) (rest' := trest T0 s vf A1 c1 A2 c2 vs) rfl h.core.inp rfl h.core.r8) (CKp.set w g base 7 _)
theorem TmAt.top_cells {w : World} {G c k : Nat} {z : Nat × Nat} {ys : List (Nat × Nat)} (h : TmAt w g base fu T0 vi vt vf A1 c1 A2 c2 (.slice (some ⟨G, 0, none⟩) (k + 1) c) s) (hst : s.st = ys ++ [z]) (hk : ys.length = k) : w.cell? ⟨G, k * 2, none⟩ = some (.int .i64 (z.1 : Int)) ∧ w.cell? ⟨G, k * 2 + 1, none⟩ = some (.int .i64 (z.2 : Int)) := by
  have hz : s.st[k]? = some z := by rw [hst, ← hk]; simp
  obtain ⟨a0, a1⟩ := tacells_at hz
  have hc : ∀ j u, (tacells s.st)[j]? = some u → w.cell? ⟨G, j, none⟩ = some u := fun j u hj => by
    have := h.st.cells (g := G) rfl j u hj
    rwa [show (⟨G, 0, none⟩ : Addr).add j = ⟨G, j, none⟩ by unfold Addr.add; split <;> simp_all] at this
  exact ⟨hc _ _ a0, hc _ _ a1⟩
theorem tacells_pc (ys : List (Nat × Nat)) (z : Nat × Nat) (pc : Nat) : (tacells (ys ++ [z])).set (ys.length * 2 + 1) (.int .i64 (pc : Int)) = tacells (ys ++ [(z.1, pc)]) := by
  rw [tacells_app, tacells_app, List.set_append_right _ _ (by rw [tacells_len]; omega), tacells_len, show ys.length * 2 + 1 - ys.length * 2 = 1 by omega]
  rfl
/-- Another instruction is the next one. -/
theorem TmAt.pcSet {w : World} {G c k : Nat} {z : Nat × Nat} {ys : List (Nat × Nat)} (h : TmAt w g base fu T0 vi vt vf A1 c1 A2 c2 (.slice (some ⟨G, 0, none⟩) (k + 1) c) s) (hst : s.st = ys ++ [z]) (hk : ys.length = k) (pc : Nat) :
    TmAt (w.setCell ⟨G, k * 2 + 1, none⟩ (.int .i64 (pc : Int))) g base fu T0 vi vt vf A1 c1 A2 c2 (.slice (some ⟨G, 0, none⟩) (k + 1) c) { s with st := ys ++ [(z.1, pc)] } ∧ w.grownBy (w.setCell ⟨G, k * 2 + 1, none⟩ (.int .i64 (pc : Int))) (some G) ∧ base ≤ G := by
  have hl : s.st.length = k + 1 := by rw [hst, List.length_append, hk]; rfl
  have ho := h.st
  rw [hl, hst] at ho
  obtain ⟨h1, hg⟩ := World.ownsRow.stored ho (k * 2 + 1) (.int .i64 (pc : Int))
  rw [← hk, tacells_pc] at h1
  have hG := (ho.lt G rfl).1
  have hGg : G ≠ g := by
    rcases own_offR ho h.core.row (by decide) with e | e
    · simp [Value.ownBlock] at e
    · exact fun eg => e (by rw [eg]; rfl)
  have hB : Below base w (w.setCell ⟨G, k * 2 + 1, none⟩ (.int .i64 (pc : Int))) := (Below.refl _ _).setCell (p := ⟨G, k * 2 + 1, none⟩) hG _
  have hoff : ∀ {b t n sz : Nat} {v : Value} {xs : List Value}, w.ownsRow b t sz v n xs → 138 ≠ t → v.ownBlock = none ∨ v.ownBlock ≠ some G := fun o ht => own_two (v2 := .slice (some ⟨G, 0, none⟩) (k + 1) c) o ho ht
  refine ⟨⟨⟨h.core.row.grown hg (fun e => hGg (by first | exact Option.some.inj e | exact (Option.some.inj e).symm)), h.core.gb, h.core.nt, h.core.r8, h.core.inp.below hB, h.core.tr.kept hg (hoff h.core.tr (by decide))⟩, ⟨h.own.ok, h.own.o1.kept hg (hoff h.own.o1 (by decide)), h.own.o2.kept hg (hoff h.own.o2 (by decide))⟩, ?_⟩, hg, hG⟩
  show World.ownsRow _ base _ 2 _ (ys ++ [(z.1, pc)]).length _
  rw [List.length_append, hk]
  rw [hk] at h1
  exact h1
set_option maxRecDepth 100000 in
set_option maxHeartbeats 8000000 in
theorem tstep_any {F : Tg} {Al : Int} {lo nF cF : Nat} {A : Option Addr} {hs : List Fd} (w : World) (hR : Hid (RightT Al F)) (him : Hid (ImmT F)) (hv : Hid (VT F T0 s)) (hsm : s.c.steps ≤ 200000) (hT0 : T0 ≤ 1048576) (hvf : vf = .slice A nF cF) (hPg : Hid (TgAt w lo base A nF cF hs F)) (h : Hid (TmAt w g base fu T0 vi vt vf A1 c1 A2 c2 vs s)) :
    Calls Tryz.prog 46 #[.pointer (some ⟨g, 0, none⟩)] w (TPost g base fu T0 vf (s.step F T0) w) := by
  obtain ⟨G, cG, k, z, ys, ht, hGg⟩ := h.out.topT hv.out.ne
  obtain ⟨rfl, hzs, hyk, ht0, ht1, hfr, hGl, hGb, hcap⟩ := ht
  have htop : s.top = z := by unfold Tm.top; rw [hzs, List.getLastD_concat]
  obtain ⟨f, hf, hp, hx⟩ := hv.out.next_at
  have hsort := hide (hv.out.sort hR.out hf hx)
  have hfm := hR.out.f f (List.mem_of_getElem? hf)
  have hcl := hfm.2.1
  obtain ⟨hex, _⟩ := mins_zero (hfm.2.2.1 _ (List.mem_of_getElem? hx))
  have hops := exB_ops hex
  have hnx := hide (show 0 ≤ s.c.more.next (s.cur F) (s.top.2 : Int) by
    by_cases h23 : (s.cur F).op = 23
    · unfold Co.next; rw [if_neg (by omega), if_neg (by omega)]; omega
    · by_cases h24 : (s.cur F).op = 24
      · unfold Co.next; rw [if_neg (by omega), if_neg (by omega)]; omega
      · exact (next_in hx (hfm.2.2.1 _ (List.mem_of_getElem? hx)) hfm.2.2.2 h23 h24).1)
  have hxi := hide (him.out f (List.mem_of_getElem? hf) _ (List.mem_of_getElem? hx))
  have hfsz := hide (shB_iff hfm.1).2.2.1
  obtain ⟨bF, oF, n2, c2', bC, oC, hfet, hn2⟩ := fetT_of hPg.out hf hx
  have Hf := hide hf
  have hkst : k ≤ s.c.steps := by have h1 := hv.out.stl; rw [hzs, List.length_append, hyk] at h1; simp at h1; omega
  have hnF80 : nF ≤ 80 := by have h1 := hPg.out.len; have h2 := hR.out.n80; omega
  have hn2b : n2 ≤ 1024 := by omega
  obtain ⟨x, hxx⟩ : ∃ x, s.cur F = x := ⟨_, rfl⟩
  have HXX := hide hxx
  rw [hxx] at hfet hops hxi
  rw [htop] at hfet
  have HFET := hide hfet
  have HTOP := hide htop
  have HZS := hide hzs
  have HYK := hide hyk
  obtain ⟨S', hS'⟩ : ∃ S', s.step F T0 = S' := ⟨_, rfl⟩
  have HS' := hide hS'
  rw [hS']
  have c7 := h.out.core.far 7 rfl
  have f7 := h.out.free 7
  have hwrap : IntKind.i64.wrap ((s.c.steps : Int) + 1) = (s.c.steps : Int) + 1 := by rw [IntKind.wrap_i64]; omega
  have hk0 : (0 : Int) ≤ (k : Int) := by omega
  have hwk : IntKind.i64.wrap ((k : Int) + 1 - 1) = (k : Int) := by rw [IntKind.wrap_i64]; omega
  clear hf hp hx hfm hex hn2 hxx hfet htop hzs hyk hcl hS'
  go_enter Tryz.func46, Tryz.ntmps46
  go_upto_region 1 with (fail)
  obtain ⟨W1, hW1⟩ : ∃ W1, w.setCell ⟨g, 7, none⟩ (.int .i64 ((s.c.steps : Int) + 1)) = W1 := ⟨_, rfl⟩
  have H1 := hide (show TmAt W1 g base fu T0 vi vt vf A1 c1 A2 c2 (.slice (some ⟨G, 0, none⟩) (k + 1) cG) { s with c := s.c.more } by rw [← hW1]; exact h.out.more)
  have B1 := hide (show Below base w W1 by rw [← hW1]; exact (Below.refl _ _).setCell (p := ⟨g, 7, none⟩) h.out.core.gb _)
  have hGne : ¬ (G = g) := hGg
  have hgGne : ¬ (g = G) := fun e => hGg e.symm
  obtain ⟨t0, t1⟩ := H1.out.top_cells HZS.out HYK.out
  rw [hW1]
  have hG1 := hide (show G < W1.heap.size from Nat.lt_of_lt_of_le hGl (by rw [← hW1]; simp [World.setCell]))
  clear hW1 c7 f7 hwrap ht0 ht1
  have a0 := H1.out.far 5 rfl
  have F1 := hide (HFET.out.below B1.out)
  go_upto_region 2 with (first | go_region)
  obtain ⟨W2, hW2⟩ : ∃ W2, W1.drew = W2 := ⟨_, rfl⟩
  have H2 := hide (show TmAt W2 g base fu T0 vi vt vf A1 c1 A2 c2 (.slice (some ⟨G, 0, none⟩) (k + 1) cG) { s with c := s.c.more } by rw [← hW2]; exact H1.out.drew_)
  have B2 := hide (show Below base w W2 by rw [← hW2]; exact B1.out.drew)
  rw [hW2]
  have F2 := hide (HFET.out.below B2.out)
  have hG2 := hide (show G < W2.heap.size from Nat.lt_of_lt_of_le hG1.out (by rw [← hW2]; exact Nat.le_refl _))
  clear hW2 H1 B1 F1 t0 t1 a0 hG1 HFET
  obtain ⟨t0, t1⟩ := H2.out.top_cells HZS.out HYK.out
  have v0 := H2.out.far 0 rfl
  rw [hvf, F2.out.a] at v0
  have y0 := F2.out.h
  have y1 := F2.out.x0
  have y2 := F2.out.x1
  have y3 := F2.out.x2
  have y4 := F2.out.x3
  have y5 := F2.out.x4
  have v0' := fun o : Obj => keep_cellB (below1 W2 o) v0
  have t0' := fun o : Obj => keep_cellB (below1 W2 o) t0
  have t1' := fun o : Obj => keep_cellB (below1 W2 o) t1
  have y0' := fun o : Obj => keep_cellB (below1 W2 o) y0
  have y1' := fun o : Obj => keep_cellB (below1 W2 o) y1
  have y2' := fun o : Obj => keep_cellB (below1 W2 o) y2
  have y3' := fun o : Obj => keep_cellB (below1 W2 o) y3
  have y4' := fun o : Obj => keep_cellB (below1 W2 o) y4
  have y5' := fun o : Obj => keep_cellB (below1 W2 o) y5
  have i0 : (0 : Int) ≤ (z.1 : Int) := by omega
  have i1 : (z.1 : Int) < (nF : Int) := by have := F2.out.fl; omega
  have i2 : (0 : Int) ≤ (z.2 : Int) := by omega
  have i3 : (z.2 : Int) < (n2 : Int) := by have := F2.out.pl; omega
  have hz2b := hide (show z.2 ≤ 1024 by have := F2.out.pl; omega)
  go_upto_region 2 with (fail)
  go_region
  go_upto_region 3 with (fail)
  obtain ⟨X, hX⟩ : ∃ X, W2.heap.size = X := ⟨_, rfl⟩
  obtain ⟨W3, hW3⟩ : ∃ W3, (W2.alloc (.cells #[.int .i64 x.op, .int .i64 x.a, .int .i64 x.b, .int .i64 x.c, .int .u64 x.imm] 52)).drew = W3 := ⟨_, rfl⟩
  have H3 := hide (show TmAt W3 g base fu T0 vi vt vf A1 c1 A2 c2 (.slice (some ⟨G, 0, none⟩) (k + 1) cG) { s with c := s.c.more } by rw [← hW3]; exact (H2.out.alloc _).drew_)
  have B3 := hide (show Below base w W3 by rw [← hW3]; exact (B2.out.alloc H2.out.bl _).drew)
  have R3 := hide (show Row W3 X 52 [.int .i64 x.op, .int .i64 x.a, .int .i64 x.b, .int .i64 x.c, .int .u64 x.imm] by rw [← hW3, ← hX]; exact (Row.new W2 _ _).drew)
  have hXG := hide (show X ≠ G by have := hG2.out; omega)
  have hXg := hide (show X ≠ g by have := H2.out.gl; omega)
  rw [hW3, hX]
  clear hW3 hX v0 t0 t1 y0 y1 y2 y3 y4 y5 v0' t0' t1' y0' y1' y2' y3' y4' y5' i0 i1 i2 i3 H2 B2 F2
  have t1 := fun p : After W3 => after_cell (H3.out.top_cells HZS.out HYK.out).2 p
  have r0 := fun p : After W3 => after_cell (R3.out.cell (k := 0) rfl) p
  have r1 := fun p : After W3 => after_cell (R3.out.cell (k := 1) rfl) p
  have r2 := fun p : After W3 => after_cell (R3.out.cell (k := 2) rfl) p
  have r3 := fun p : After W3 => after_cell (R3.out.cell (k := 3) rfl) p
  have r4 := fun p : After W3 => after_cell (R3.out.cell (k := 4) rfl) p
  obtain ⟨N, hN⟩ : ∃ N, s.c.more.next x (z.2 : Int) = N := ⟨_, rfl⟩
  have cn : ∀ p : After W3, Calls Tryz.prog 66 #[.pointer (some ⟨g, 0, none⟩), iv x.op x.a x.b x.c x.imm, .int .i64 (z.2 : Int)] p.w fun e w' => e = .returned (.int .i64 N) ∧ Below p.w.heap.size p.w w' := fun p => by
    rw [← hN]
    exact coNext_any x.op x.a x.b x.c x.imm (z.2 : Int) p.w (by have := hz2b.out; omega) (hide (H3.out.call p.b).core)
  have CN := hide cn
  have HN := hide hN
  clear cn hN
  refine wp_region_last 12 (by kernel_rfl) rfl rfl (by kernel_rfl) (by kernel_rfl) (by kernel_rfl) (C := fun w' => ∃ p : After W3, w' = p.w) ⟨⟨W3.drew, (Below.refl _ _).drew⟩, rfl⟩ ?_
  dsimp only [List.take_succ_cons, List.take_zero]
  repeat (go_big_quiet_step ((go_at_call 66; with_reducible exact after_of (CN.out _))))
  refine wpQuiet_nil ?_
  intro _ hw'
  obtain ⟨p1, hw''⟩ := hw'
  subst hw''
  clear t1 r0 r1 r2 r3 r4 CN
  have H3p := hide (H3.out.call p1.b)
  have tt := (H3p.out.top_cells HZS.out HYK.out).2
  have hst3 : p1.w.ownsRow base 138 2 (.slice (some ⟨G, 0, none⟩) (k + 1) cG) (k + 1) (tacells s.st) := by
    have := H3p.out.st
    rwa [show ({ s with c := s.c.more } : Tm).st.length = k + 1 by show s.st.length = k + 1; rw [HZS.out, List.length_append, HYK.out]; rfl] at this
  have ff : p1.w.frozen? ⟨G, k * 2 + 1, none⟩ = false := hst3.frozenAt (k * 2 + 1)
  clear hst3
  have hN0 : 0 ≤ N := by rw [← HN.out, ← HXX.out]; have := hnx.out; rw [HTOP.out] at this; exact this
  obtain ⟨W4, hW4⟩ : ∃ W4, p1.w.setCell ⟨G, k * 2 + 1, none⟩ (.int .i64 N) = W4 := ⟨_, rfl⟩
  have hset := H3p.out.pcSet HZS.out HYK.out N.toNat
  rw [Int.toNat_of_nonneg hN0, hW4] at hset
  obtain ⟨h4, hg4, hGb4⟩ := hset
  have hfe : ({ s with c := s.c.more, st := ys ++ [(z.1, N.toNat)] } : Tm) = s.fetched x := by
    unfold Tm.fetched Tm.setTop
    dsimp only
    rw [HTOP.out, HN.out, HZS.out, List.dropLast_concat]
  have H4 := hide (show TmAt W4 g base fu T0 vi vt vf A1 c1 A2 c2 (.slice (some ⟨G, 0, none⟩) (k + 1) cG) (s.fetched x) by rw [← hfe]; exact h4)
  have B4 := hide (show Below base w W4 by rw [← hW4]; exact (B3.out.trans (p1.b.mono H3.out.bl)).setCell (p := ⟨G, k * 2 + 1, none⟩) hGb4 _)
  have R4 := hide ((R3.out.call p1.b).grown hg4 (fun e => hXG.out (by first | exact Option.some.inj e | exact (Option.some.inj e).symm)))
  have HW4 := hide hW4
  clear h4 hg4 hW4 hfe hGb4
  go_upto_region 4 with (fail)
  rw [HW4.out]
  clear HW4 tt ff H3p H3 B3 R3
  have r0 := R4.out.cell (k := 0) rfl
  have r1 := R4.out.cell (k := 1) rfl
  have r2 := R4.out.cell (k := 2) rfl
  have r3 := R4.out.cell (k := 3) rfl
  have r4 := R4.out.cell (k := 4) rfl
  have hs := hsort.out
  have hstep := HS'.out
  rcases hs with ⟨hop, v, a, e⟩ | ⟨hop, v, gf, hg, ha0, hc, hr, hl, e⟩ | ⟨hop, e⟩ | ⟨hop, e⟩ | ⟨hk', v, ht, e⟩
  · rw [HXX.out] at hop v a e
    rw [e] at hstep
    have ca := tacc_any x W4 a v.len v.sm H4
    unfold ivI at ca
    rw [hstep] at ca
    clear v a e hstep hsort hv hR him hPg
    rcases (show x.op = 15 ∨ x.op = 16 ∨ x.op = 17 by omega) with h1 | h1 | h1
    all_goals
      rw [h1] at r0 ca
      clear h1 hop hops
      go_wp2_with fail
      go_fit ca
      rintro e w6 ⟨rfl, h6, b6⟩
      have H6 := hide h6
      have B6 := hide (B4.out.trans b6)
      clear h6 b6 ca
      go_wp2_with fail
      go_end0
      exact ⟨rfl, H6.out, B6.out⟩
  · rw [HXX.out] at hop v e ha0 hg hr hl
    rw [e] at hstep
    obtain ⟨n, hn⟩ : ∃ n : Nat, x.a = (n : Int) := ⟨x.a.toNat, by omega⟩
    rw [hn] at hg hstep r1
    rw [Int.toNat_natCast] at hg hstep
    have hgs := (shB_iff (hR.out.f gf (List.mem_of_getElem? hg)).1).2.2.1
    have hsum := v.sum
    have hstl := v.stl
    have hstp : (s.fetched x).c.steps = s.c.steps + 1 := rfl
    have ce := tenter_any n W4 (hide hg) hgs.1 (by omega) hT0 (by omega) (Nat.le_trans v.dp.dl hT0) hvf hnF80 (hide (hPg.out.below B4.out)) H4
    rw [hstep] at ce
    clear v e hstep hsort hv hR him hPg hg hr hl hgs hsum hstl hstp
    rw [hop] at r0
    go_wp2_with fail
    go_fit ce
    rintro e w6 ⟨rfl, h6, b6⟩
    have H6 := hide h6
    have B6 := hide (B4.out.trans b6)
    clear h6 b6 ce
    go_wp2_with fail
    go_end0
    exact ⟨rfl, H6.out, B6.out⟩
  · rw [HXX.out] at hop e
    rw [e] at hstep
    have hst4 : (s.fetched x).st = ys ++ [(z.1, N.toNat)] := by
      unfold Tm.fetched Tm.setTop
      dsimp only
      rw [HTOP.out, HN.out, HZS.out, List.dropLast_concat]
    have htop4 : (s.fetched x).top.1 = s.top.1 := by unfold Tm.top; rw [hst4, HZS.out, List.getLastD_concat, List.getLastD_concat]
    have hsum := hv.out.sum
    have hlen := hv.out.len
    rw [HZS.out, sumZ_app, sumZ_one] at hsum
    have ct := tleave_any W4 (s := s.fetched x) (fm := f) (by rw [hst4]; simp) (by rw [hst4, List.length_append, HYK.out]; simp; omega) (hide (by rw [htop4]; exact Hf.out)) hfsz.out.1 (by rw [htop4, HTOP.out]; show s.mem.sp + fsz F z.1 ≤ s.mem.bs.length; omega) hvf hnF80 (hide (hPg.out.below B4.out)) H4
    rw [hstep] at ct
    clear e hstep hsort hv hR him hPg hst4 htop4 hsum hlen
    rw [hop] at r0
    go_wp2_with fail
    go_fit ct
    rintro e w6 ⟨rfl, h6, b6⟩
    have H6 := hide h6
    have B6 := hide (B4.out.trans b6)
    clear h6 b6 ct
    go_wp2_with fail
    go_end0
    exact ⟨rfl, H6.out, B6.out⟩
  · rw [HXX.out] at hop
    have e2 : s.step F T0 = { s.fetched x with c := (s.fetched x).c.execC x } := by
      unfold Tm.step Tm.exec
      rw [HXX.out, if_neg (by omega), if_neg (by omega), if_neg (by omega)]
    rw [e2] at hstep
    have hx0 : ∀ q : Nat, Calls Tryz.prog 69 #[.pointer (some ⟨g, 0, none⟩), ivI x] (W4.drewN q) fun e w' => e = .returned (.tuple #[]) ∧ (∃ vi' vt', CoAt w' g base 73 fu vi' vt' (trest T0 (s.fetched x) vf A1 c1 A2 c2 (.slice (some ⟨G, 0, none⟩) (k + 1) cG)) ((s.fetched x).c.execC x) ∧ CKp (W4.drewN q) w' g base) := fun q =>
      exec_any x (W4.drewN q) (.inr (.inr (.inr hop))) hxi.out ⟨hv.out.sm.r8, hv.out.sm.rv, hv.out.sm.iv⟩ (by show s.c.trace.length ≤ 1000000; have := hv.out.tl; omega) (hide (H4.out.drewN q).core)
    unfold ivI at hx0
    have e15 : (x.op == 15) = false := by rw [beq_eq_false_iff_ne]; omega
    have e16 : (x.op == 16) = false := by rw [beq_eq_false_iff_ne]; omega
    have e17 : (x.op == 17) = false := by rw [beq_eq_false_iff_ne]; omega
    have e22 : (x.op == 22) = false := by rw [beq_eq_false_iff_ne]; omega
    have e23 : (x.op == 23) = false := by rw [beq_eq_false_iff_ne]; omega
    have HX0 := hide hx0
    clear hx0 hop hops
    go_upto_region 5 with (fail)
    have z0 := fun p : After W4 => after_cell r0 p
    have z1 := fun p : After W4 => after_cell r1 p
    have z2 := fun p : After W4 => after_cell r2 p
    have z3 := fun p : After W4 => after_cell r3 p
    have z4 := fun p : After W4 => after_cell r4 p
    go_region_held3 (fun w' => w'.cell? ⟨X, 0, none⟩ = some (.int .i64 x.op) ∧ w'.cell? ⟨X, 1, none⟩ = some (.int .i64 x.a) ∧ w'.cell? ⟨X, 2, none⟩ = some (.int .i64 x.b) ∧ w'.cell? ⟨X, 3, none⟩ = some (.int .i64 x.c) ∧ w'.cell? ⟨X, 4, none⟩ = some (.int .u64 x.imm)) (first | go_keep | exact m6)
      (first | (go_at_call 69; refine (HX0.out _).mono ?_; rintro e w6 ⟨rfl, vi6, vt6, h6, k6⟩; have H6 := hide ((H4.out.drewN _).cored h6 k6); have B6 := hide ((below_draws B4.out _).trans ((H4.out.drewN _).belowC k6)); have R6 := hide (k6.row (R4.out.drewN _) hXg.out (.inr (by decide))); have m6 := (⟨R6.out.cell (k := 0) rfl, R6.out.cell (k := 1) rfl, R6.out.cell (k := 2) rfl, R6.out.cell (k := 3) rfl, R6.out.cell (k := 4) rfl⟩ : w6.cell? ⟨X, 0, none⟩ = some (.int .i64 x.op) ∧ w6.cell? ⟨X, 1, none⟩ = some (.int .i64 x.a) ∧ w6.cell? ⟨X, 2, none⟩ = some (.int .i64 x.b) ∧ w6.cell? ⟨X, 3, none⟩ = some (.int .i64 x.c) ∧ w6.cell? ⟨X, 4, none⟩ = some (.int .u64 x.imm)); clear h6 k6))
    all_goals
      go_wp2_with fail
      go_end0
      rw [← hstep]
      exact ⟨rfl, H6.out.in_, B6.out⟩
  · rw [HXX.out] at hk' v e ht
    rw [e] at hstep
    have hx0 : ∀ q : Nat, Calls Tryz.prog 69 #[.pointer (some ⟨g, 0, none⟩), ivI x] (W4.drewN q) fun e w' => e = .returned (.tuple #[]) ∧ (∃ vi' vt', CoAt w' g base 73 fu vi' vt' (trest T0 (s.fetched x) vf A1 c1 A2 c2 (.slice (some ⟨G, 0, none⟩) (k + 1) cG)) ((s.fetched x).c.execC x) ∧ CKp (W4.drewN q) w' g base) := fun q =>
      exec_any x (W4.drewN q) (by omega) hxi.out v.sm (by have h1 := v.tl; have h2 : (s.fetched x).c.steps = s.c.steps + 1 := rfl; omega) (hide (H4.out.drewN q).core)
    unfold ivI at hx0
    have hop : x.op ≠ 22 ∧ x.op ≠ 23 ∧ ¬ (15 ≤ x.op ∧ x.op ≤ 17) := by omega
    have e15 : (x.op == 15) = false := by rw [beq_eq_false_iff_ne]; omega
    have e16 : (x.op == 16) = false := by rw [beq_eq_false_iff_ne]; omega
    have e17 : (x.op == 17) = false := by rw [beq_eq_false_iff_ne]; omega
    have e22 : (x.op == 22) = false := by rw [beq_eq_false_iff_ne]; omega
    have e23 : (x.op == 23) = false := by rw [beq_eq_false_iff_ne]; omega
    have HX0 := hide hx0
    clear hx0 hop hops
    go_upto_region 5 with (fail)
    have z0 := fun p : After W4 => after_cell r0 p
    have z1 := fun p : After W4 => after_cell r1 p
    have z2 := fun p : After W4 => after_cell r2 p
    have z3 := fun p : After W4 => after_cell r3 p
    have z4 := fun p : After W4 => after_cell r4 p
    go_region_held3 (fun w' => w'.cell? ⟨X, 0, none⟩ = some (.int .i64 x.op) ∧ w'.cell? ⟨X, 1, none⟩ = some (.int .i64 x.a) ∧ w'.cell? ⟨X, 2, none⟩ = some (.int .i64 x.b) ∧ w'.cell? ⟨X, 3, none⟩ = some (.int .i64 x.c) ∧ w'.cell? ⟨X, 4, none⟩ = some (.int .u64 x.imm)) (first | go_keep | exact m6)
      (first | (go_at_call 69; refine (HX0.out _).mono ?_; rintro e w6 ⟨rfl, vi6, vt6, h6, k6⟩; have H6 := hide ((H4.out.drewN _).cored h6 k6); have B6 := hide ((below_draws B4.out _).trans ((H4.out.drewN _).belowC k6)); have R6 := hide (k6.row (R4.out.drewN _) hXg.out (.inr (by decide))); have m6 := (⟨R6.out.cell (k := 0) rfl, R6.out.cell (k := 1) rfl, R6.out.cell (k := 2) rfl, R6.out.cell (k := 3) rfl, R6.out.cell (k := 4) rfl⟩ : w6.cell? ⟨X, 0, none⟩ = some (.int .i64 x.op) ∧ w6.cell? ⟨X, 1, none⟩ = some (.int .i64 x.a) ∧ w6.cell? ⟨X, 2, none⟩ = some (.int .i64 x.b) ∧ w6.cell? ⟨X, 3, none⟩ = some (.int .i64 x.c) ∧ w6.cell? ⟨X, 4, none⟩ = some (.int .u64 x.imm)); clear h6 k6))
    all_goals
      go_wp2_with fail
      go_end0
      rw [← hstep]
      exact ⟨rfl, H6.out.in_, B6.out⟩
end
end Go.Proofs.YtafegghdhdgioabGreat
end
