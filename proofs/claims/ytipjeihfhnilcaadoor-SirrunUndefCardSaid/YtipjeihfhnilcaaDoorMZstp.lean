import Derived.Test.YtipjeihfhnilcaaDoorMZall
import Derived.Test.YtipjeihfhnilcaaDoorMLast
import Derived.Test.YtipjeihfhnilcaaDoorMVbits
set_option linter.unusedVariables false
set_option linter.unusedSimpArgs false
section
/-
  The contract of the machine's step (chapter 8). Conditions: those of the types.
-/
namespace Go.Proofs.YtipjeihfhnilcaaDoor
open Go.RowKit

theorem kind01 {N : Nat} {f : Fn} {n k : Int} (hk : k = 0 ∨ k = 1) (h : opndE N f k n = 0) : 0 ≤ n ∧ n < 8 := by
  rcases hk with rfl | rfl
  · have := kind_none h; omega
  · obtain ⟨i, rfl, hi⟩ := kind_reg h; omega
theorem shp_low {op : Int} (h : 0 ≤ op ∧ op ≤ 14) : ((shpOf op).1 = 0 ∨ (shpOf op).1 = 1) ∧ ((shpOf op).2.1 = 0 ∨ (shpOf op).2.1 = 1) ∧ ((shpOf op).2.2.1 = 0 ∨ (shpOf op).2.2.1 = 1) := by
  rcases (show op = 0 ∨ op = 1 ∨ op = 2 ∨ op = 3 ∨ op = 4 ∨ op = 5 ∨ op = 6 ∨ op = 7 ∨ op = 8 ∨ op = 9 ∨ op = 10 ∨ op = 11 ∨ op = 12 ∨ op = 13 ∨ op = 14 by omega) with rfl | rfl | rfl | rfl | rfl | rfl | rfl | rfl | rfl | rfl | rfl | rfl | rfl | rfl | rfl
  all_goals exact ⟨by first | exact .inl rfl | exact .inr rfl, by first | exact .inl rfl | exact .inr rfl, by first | exact .inl rfl | exact .inr rfl⟩
/-- What a right instruction names. -/
theorem ins_names {N : Nat} {f : Fn} {x : Ins} (h : insE N f x = 0) : (x.op ≤ 14 ∨ x.op = 21 → 0 ≤ x.a ∧ x.a < 8) ∧ (x.op ≤ 14 → 0 ≤ x.b ∧ x.b < 8) ∧ (x.op ≤ 14 → 0 ≤ x.c ∧ x.c < 8) ∧ (x.op = 20 → 0 ≤ x.a) ∧ (x.op = 21 → 0 ≤ x.b) ∧ (x.op = 22 → ∃ n : Nat, x.a = (n : Int) ∧ n < N) := by
  obtain ⟨ho, e1, e2, e3, -, -⟩ := insE_zero.1 h
  refine ⟨fun h1 => ?_, fun h1 => kind01 (shp_low ⟨ho.1, h1⟩).2.1 e2, fun h1 => kind01 (shp_low ⟨ho.1, h1⟩).2.2 e3, fun h1 => ?_, fun h1 => ?_, fun h1 => ?_⟩
  · rcases h1 with h1 | h1
    · exact kind01 (shp_low ⟨ho.1, h1⟩).1 e1
    · rw [h1] at e1; obtain ⟨i, hi, hl⟩ := kind_reg e1; omega
  · rw [h1] at e1; obtain ⟨i, hi, hl⟩ := kind_target e1; omega
  · rw [h1] at e2; obtain ⟨i, hi, hl⟩ := kind_target e2; omega
  · rw [h1] at e1; exact kind_fn e1
section
variable {g base fu : Nat} {vi vt vf vs : Value} {zs : List Zn} {s : Mch}
/-- The instruction that is fetched, and where it lies. -/
structure Fet (w : World) (base : Nat) (A : Option Addr) (nF : Nat) (fi pc : Nat) (x : Ins) (bF oF : Nat) (n2 c2 bC oC : Nat) : Prop where
  a : A = some ⟨bF, oF, none⟩
  bf : bF < base
  bc : bC < base
  fl : fi < nF
  pl : pc < n2
  h : w.cell? ⟨bF, oF + fi * 3 + 2, none⟩ = some (.slice (some ⟨bC, oC, none⟩) n2 c2)
  x0 : w.cell? ⟨bC, oC + pc * 5, none⟩ = some (.int .i64 x.op)
  x1 : w.cell? ⟨bC, oC + pc * 5 + 1, none⟩ = some (.int .i64 x.a)
  x2 : w.cell? ⟨bC, oC + pc * 5 + 2, none⟩ = some (.int .i64 x.b)
  x3 : w.cell? ⟨bC, oC + pc * 5 + 3, none⟩ = some (.int .i64 x.c)
  x4 : w.cell? ⟨bC, oC + pc * 5 + 4, none⟩ = some (.int .u64 x.imm)
theorem Fet.below {w w' : World} {A : Option Addr} {nF fi pc bF oF n2 c2 bC oC : Nat} {x : Ins} (h : Fet w base A nF fi pc x bF oF n2 c2 bC oC) (hb : Below base w w') : Fet w' base A nF fi pc x bF oF n2 c2 bC oC :=
  ⟨h.a, h.bf, h.bc, h.fl, h.pl, (hb.cell (p := ⟨bF, _, none⟩) h.bf).trans h.h, (hb.cell (p := ⟨bC, _, none⟩) h.bc).trans h.x0, (hb.cell (p := ⟨bC, _, none⟩) h.bc).trans h.x1, (hb.cell (p := ⟨bC, _, none⟩) h.bc).trans h.x2, (hb.cell (p := ⟨bC, _, none⟩) h.bc).trans h.x3, (hb.cell (p := ⟨bC, _, none⟩) h.bc).trans h.x4⟩
theorem fet_of {w : World} {lo nF cF fi pc : Nat} {A : Option Addr} {hs : List Hd} {F : Pg} {f : Fn} {x : Ins} (H : PgAt w lo base A nF cF hs F) (hf : F[fi]? = some f) (hx : f.code[pc]? = some x) : ∃ bF oF n2 c2 bC oC, Fet w base A nF fi pc x bF oF n2 c2 bC oC ∧ n2 = f.code.length := by
  have hfl : fi < nF := by rw [← H.len]; exact (List.getElem?_eq_some_iff.1 hf).1
  obtain ⟨bF, oF, P, A1, n1, c1, A2, n2, c2, f', rfl, hbF, hf', _, hHd, _, _, d2⟩ := fn_at H hfl
  rw [hf] at hf'
  injection hf' with hf'
  subst hf'
  obtain ⟨hp, hxe⟩ := List.getElem?_eq_some_iff.1 hx
  obtain ⟨bC, oC, rfl, hbC, x0, x1, x2, x3, x4⟩ := ins_at hHd.s2 hp
  rw [hxe] at x0 x1 x2 x3 x4
  exact ⟨bF, oF, n2, c2, bC, oC, ⟨rfl, hbF, hbC, hfl, by have := hHd.l2; dsimp only at this; omega, d2, x0, x1, x2, x3, x4⟩, hHd.l2.symm⟩
set_option maxHeartbeats 8000000 in
theorem step_any {F : Pg} {lo nF cF : Nat} {A : Option Addr} {hs : List Hd} (w : World) (hF : pgE F = 0) (him : Hid (ImmF F)) (hv : Hid (Vld F s)) (hsm : s.steps ≤ 100000) (hvf : vf = .slice A nF cF) (hPg : Hid (PgAt w lo base A nF cF hs F)) (h : Hid (MRaw w g base fu vi vt vf vs zs s)) :
    Calls Tryd.prog 32 #[.pointer (some ⟨g, 0, none⟩)] w fun e w' => e = .returned (.tuple #[]) ∧ (∃ vi' vt' vs' zs', MRaw w' g base fu vi' vt' vf vs' zs' (s.stepM F)) ∧ Below base w w' := by
  have HF := hide hF
  have hl1 : s.st.length ≤ 1000000 := by have := hv.out.len; omega
  obtain ⟨G, c, k, z, ys, ht⟩ := h.out.topAt hv.out.ne hl1
  obtain ⟨rfl, rfl, hk, -, -, -, -, -, hkm⟩ := ht
  obtain ⟨htop, _⟩ := st_top h.out.eq
  obtain ⟨f, hf, hp, hx⟩ := hv.out.next_at
  rw [htop] at hf hp hx
  obtain ⟨x, hxx⟩ : ∃ x, s.next F = x := ⟨_, rfl⟩
  rw [hxx] at hx
  obtain ⟨hfc, hfs, hfp, hins, hcl⟩ := fnE_zero.1 (fn_of hF hf)
  have hxe := hide (hins x (List.mem_of_getElem? hx))
  have hxi := hide (him.out f (List.mem_of_getElem? hf) x (List.mem_of_getElem? hx))
  have hfs2 : f.slots.length ≤ 512 := by
    rcases Nat.lt_or_ge 512 f.slots.length with h1 | h1
    · rw [slotsE_many h1] at hfs; cases hfs
    · exact h1
  have hF80 : F.length ≤ 80 := (pgE_zero.1 hF).1
  obtain ⟨bF, oF, n2, c2, bC, oC, hfet, hn2⟩ := fet_of hPg.out hf hx
  have hn2b : n2 ≤ 1024 := by omega
  have hnFb : nF ≤ 80 := by have := hPg.out.len; omega
  have hdep : s.depth ≤ 1000000 := by have := hv.out.dep; omega
  have HFET := hide hfet
  have HXX := hide hxx
  have Hf := hide hf
  have hp19 := hide (show x.op = 19 → 1 ≤ k from fun e19 => by
    rcases Nat.eq_zero_or_pos k with h0 | h0
    · exfalso
      subst h0
      have hys : ys = [] := List.eq_nil_of_length_eq_zero hk
      subst hys
      have hz0 : z.1.f = 0 := hv.out.zero z.1 (by rw [← h.out.eq]; rfl)
      obtain ⟨_, ⟨f0, r0, eF, hp0⟩, _⟩ := pgE_zero.1 hF
      have hff : f = f0 := by rw [hz0, eF] at hf; injection hf with hf; exact hf.symm
      obtain ⟨_, _, e2, _, _, _⟩ := insE_zero.1 hxe.out
      rw [e19] at e2
      obtain ⟨i, _, hi⟩ := kind_par e2
      rw [hff, hp0] at hi
      omega
    · exact h0)
  -- the worlds
  have hK0 := hide (show MapsK w (ys ++ [z]) s.steps from h.out.maps)
  have hgl := h.out.gl
  obtain ⟨hbG, hGl, hGg⟩ := topBlk h.out
  have HbG := hide hbG
  have c22 : w.cell? ⟨g, 7, none⟩ = some (.int .i64 (s.steps : Int)) := h.out.core.far 7 rfl
  have f22 := h.out.row.free 7
  obtain ⟨hn1, hn2', hn3, hn4, hn5, hn6⟩ := ins_names hxe.out
  have hnx : 0 ≤ s.co.next x (z.1.pc : Int) := by
    unfold Co.next
    split
    · rename_i h20; exact hn4 h20
    · split
      · rename_i h21; exact hn5 h21.1
      · omega
  have HNM := hide (And.intro hn1 (And.intro hn2' (And.intro hn3 hn6)))
  clear hn1 hn2' hn3 hn4 hn5 hn6
  have hwrap : IntKind.i64.wrap ((s.steps : Int) + 1) = (s.steps : Int) + 1 := by rw [IntKind.wrap_i64]; omega
  obtain ⟨T0, hT0⟩ : ∃ T, s.stepM F = T := ⟨_, rfl⟩
  rw [hT0]
  have HT0 := hide hT0
  clear hT0
  go_enter Tryd.func32, Tryd.ntmps32
  go_upto_region 1 with (fail)
  obtain ⟨W1, hW1⟩ : ∃ W1, w.setCell ⟨g, 7, none⟩ (.int .i64 ((s.steps : Int) + 1)) = W1 := ⟨_, rfl⟩
  have H1 := hide (show MRaw W1 g base fu vi vt vf (.slice (some ⟨G, 0, none⟩) (k + 1) c) (ys ++ [z]) { s with steps := s.steps + 1 } by rw [← hW1]; exact h.out.more)
  have K1 := hide (show MapsK W1 (ys ++ [z]) s.steps by rw [← hW1]; exact hK0.out.put h.out.row 7 _)
  have B1 := hide (show Below base w W1 by rw [← hW1]; exact (Below.refl _ _).setCell (p := ⟨g, 7, none⟩) h.out.gb _)
  have T1 := hide (topOf H1.out hk hkm)
  have cl := last_any W1 H1 T1
  rw [hW1]
  clear hW1 c22 f22 hwrap
  go_wp2_with fail
  refine cl.mono ?_
  rintro e w' ⟨rfl, nq, rfl⟩
  obtain ⟨W2, hW2⟩ : ∃ W2, W1.drewN nq = W2 := ⟨_, rfl⟩
  have H2 := hide (show MRaw W2 g base fu vi vt vf (.slice (some ⟨G, 0, none⟩) (k + 1) c) (ys ++ [z]) { s with steps := s.steps + 1 } by rw [← hW2]; exact H1.out.drewN nq)
  have K2 := hide (show MapsK W2 (ys ++ [z]) s.steps by rw [← hW2]; exact K1.out.drewN nq)
  have B2 := hide (show Below base w W2 by rw [← hW2]; exact below_draws B1.out nq)
  rw [hW2]
  clear hW2 cl T1 H1 K1 B1
  have T2 := hide (topOf H2.out hk hkm)
  have F2 := hide (HFET.out.below B2.out)
  have v0 := H2.out.far 0 rfl
  rw [hvf, F2.out.a] at v0
  have t0 := T2.out.fn
  have t1 := T2.out.pc
  have y0 := F2.out.h
  have y1 := F2.out.x0
  have y2 := F2.out.x1
  have y3 := F2.out.x2
  have y4 := F2.out.x3
  have y5 := F2.out.x4
  have v0' := fun o : Obj => keep_cellB (below1 W2 o) v0
  have t0' := fun o : Obj => keep_cellB (below1 W2 o) t0
  have t1' := fun o : Obj => keep_cellB (below1 W2 o) t1
  have y0' := fun o : Obj => keep_cellB (below1 W2 o) y0
  have y1' := fun o : Obj => keep_cellB (below1 W2 o) y1
  have y2' := fun o : Obj => keep_cellB (below1 W2 o) y2
  have y3' := fun o : Obj => keep_cellB (below1 W2 o) y3
  have y4' := fun o : Obj => keep_cellB (below1 W2 o) y4
  have y5' := fun o : Obj => keep_cellB (below1 W2 o) y5
  have i0 : (0 : Int) ≤ (z.1.f : Int) := by omega
  have i1 : (z.1.f : Int) < (nF : Int) := by have := F2.out.fl; omega
  have i2 : (0 : Int) ≤ (z.1.pc : Int) := by omega
  have i3 : (z.1.pc : Int) < (n2 : Int) := by have := F2.out.pl; omega
  go_upto_region 2 with (fail)
  go_region
  go_upto_region 3 with (fail)
  obtain ⟨X, hX⟩ : ∃ X, W2.heap.size = X := ⟨_, rfl⟩
  obtain ⟨W3, hW3⟩ : ∃ W3, (W2.alloc (.cells #[.int .i64 x.op, .int .i64 x.a, .int .i64 x.b, .int .i64 x.c, .int .u64 x.imm] 48)).drew = W3 := ⟨_, rfl⟩
  have H3 := hide (show MRaw W3 g base fu vi vt vf (.slice (some ⟨G, 0, none⟩) (k + 1) c) (ys ++ [z]) { s with steps := s.steps + 1 } by rw [← hW3]; exact (H2.out.alloc _).drewN 1)
  have K3 := hide (show MapsK W3 (ys ++ [z]) s.steps by rw [← hW3]; exact (K2.out.call (below1 W2 _)).drewN 1)
  have B3 := hide (show Below base w W3 by rw [← hW3]; exact below_draws (B2.out.alloc H2.out.bl _) 1)
  have R3 := hide (show Row W3 X 48 [.int .i64 x.op, .int .i64 x.a, .int .i64 x.b, .int .i64 x.c, .int .u64 x.imm] by rw [← hW3, ← hX]; exact (Row.new W2 _ _).drew)
  have hXG : X ≠ G := by have := (topBlk H2.out).2.1; omega
  rw [hW3, hX]
  clear hW3 hX v0 t0 t1 y0 y1 y2 y3 y4 y5 v0' t0' t1' y0' y1' y2' y3' y4' y5' i0 i1 i2 i3 H2 K2 B2 T2 F2
  have hXg := hide (show X ≠ g by have := (topBlk H3.out).2.2; intro e; have h9 := R3.out; rw [e] at h9; have h8 := H3.out.row; unfold Row at h8 h9; rw [h8] at h9; injection h9 with h9; injection h9 with _ h9 _; revert h9; decide)
  have t1 := fun p : After W3 => after_cell (topOf H3.out hk hkm).pc p
  have r0 := fun p : After W3 => after_cell (R3.out.cell (k := 0) rfl) p
  have r1 := fun p : After W3 => after_cell (R3.out.cell (k := 1) rfl) p
  have r2 := fun p : After W3 => after_cell (R3.out.cell (k := 2) rfl) p
  have r3 := fun p : After W3 => after_cell (R3.out.cell (k := 3) rfl) p
  have r4 := fun p : After W3 => after_cell (R3.out.cell (k := 4) rfl) p
  have hzp := hide (show z.1.pc ≤ 1024 by have := HFET.out.pl; omega)
  obtain ⟨N, hN⟩ : ∃ N, s.co.next x (z.1.pc : Int) = N := ⟨_, rfl⟩
  have cn : ∀ p : After W3, Calls Tryd.prog 39 #[.pointer (some ⟨g, 0, none⟩), iv x.op x.a x.b x.c x.imm, .int .i64 (z.1.pc : Int)] p.w fun e w' => e = .returned (.int .i64 N) ∧ Below p.w.heap.size p.w w' := fun p => by
    rw [← hN, show s.co.next x (z.1.pc : Int) = ({ s with steps := s.steps + 1 } : Mch).co.next x (z.1.pc : Int) from rfl]
    exact coNext_any x.op x.a x.b x.c x.imm (z.1.pc : Int) p.w (by have := hzp.out; omega) (hide (H3.out.call p.b).core)
  have CN := hide cn
  have HN := hide hN
  have hN0 : 0 ≤ N := by rw [← hN]; exact hnx
  clear cn hN hnx
  refine wp_region_last 12 (by kernel_rfl) rfl rfl (by kernel_rfl) (by kernel_rfl) (by kernel_rfl) (C := fun w' => ∃ p : After W3, w' = p.w) ⟨⟨W3.drew, (Below.refl _ _).drew⟩, rfl⟩ ?_
  dsimp only [List.take_succ_cons, List.take_zero]
  repeat (go_big_quiet_step ((go_at_call 39; with_reducible exact after_of (CN.out _))))
  refine wpQuiet_nil ?_
  intro _ hw'
  obtain ⟨p1, hw''⟩ := hw'
  subst hw''
  clear t1 r0 r1 r2 r3 r4 CN
  have H3p := hide (H3.out.call p1.b)
  have T3 := hide (topOf H3p.out hk hkm)
  have t1 := T3.out.pc
  have t2 := T3.out.fr (k * 4 + 1)
  obtain ⟨W4, hW4⟩ : ∃ W4, p1.w.setCell ⟨G, k * 4 + 1, none⟩ (.int .i64 N) = W4 := ⟨_, rfl⟩
  have hset := H3p.out.pcSet hk N.toNat
  rw [Int.toNat_of_nonneg hN0, hW4] at hset
  obtain ⟨h4, hg4, _, csG, hhG⟩ := hset
  have hfe : ({ s with steps := s.steps + 1 } : Mch).jump N.toNat = s.fetchN x := by unfold Mch.fetchN; rw [htop, HN.out]
  rw [hfe] at h4
  have H4 := hide h4
  have B4 := hide (show Below base w W4 by rw [← hW4]; exact (B3.out.trans (p1.b.mono H3.out.bl)).setCell (p := ⟨G, k * 4 + 1, none⟩) HbG.out _)
  have R4 := hide (show Row W4 X 48 [.int .i64 x.op, .int .i64 x.a, .int .i64 x.b, .int .i64 x.c, .int .u64 x.imm] by rw [← hW4]; exact (R3.out.call p1.b).far (p := ⟨G, k * 4 + 1, none⟩) hXG _)
  have K4 := hide (show MapsK W4 (ys ++ [({ z.1 with pc := N.toNat }, z.2)]) s.steps by
    have hk4 : MapsK W4 (ys ++ [z]) s.steps := by rw [← hW4]; exact (K3.out.call p1.b).put hhG (k * 4 + 1) _
    intro z2 hz2
    rcases List.mem_append.1 hz2 with hz2 | hz2
    · exact hk4 z2 (List.mem_append_left _ hz2)
    · obtain rfl : z2 = ({ z.1 with pc := N.toNat }, z.2) := by simpa using hz2
      exact hk4 z (by simp))
  have P4 := hide (hPg.out.below B4.out)
  have hvl := hv.out
  have S4 := hide (show SmallM (s.fetchN x) from ⟨hvl.rv, hvl.iv, by have := hvl.tl; show s.trace.length ≤ 1000000; omega⟩)
  have C4 := hide (show SmallC (s.fetchN x).co from ⟨hvl.r8, hvl.rv, hvl.iv⟩)
  have hst4 : (s.fetchN x).st.length = s.st.length := by
    have h1 := H4.out.len
    have h2 := h.out.len
    rw [List.length_append] at h1 h2
    simp only [List.length_cons, List.length_nil] at h1 h2
    omega
  have hdp4 : (s.fetchN x).depth = s.depth := rfl
  have htr4 : (s.fetchN x).co.trace.length ≤ 1000000 := by have := hvl.tl; show s.trace.length ≤ 1000000; omega
  have hne4 := hvl.ne
  have EX := hide (And.intro (fun h => stepN_mem (F := F) x HXX.out h) (And.intro (fun h => stepN_call (F := F) x HXX.out h) (And.intro (fun h => stepN_ret (F := F) x HXX.out h) (fun h h2 h3 => stepN_core (F := F) hvl x HXX.out (insE_zero.1 hxe.out).1 h h2 h3 HNM.out.1 HNM.out.2.1 HNM.out.2.2.1))))
  have HW4 := hide hW4
  clear h4 hg4 hW4 hhG hfe hvl
  go_upto_region 4 with (fail)
  rw [HW4.out]
  clear HW4 t1 t2 T3 H3p H3 K3 B3 R3
  have x0 := R4.out.cell (k := 0) rfl
  have x1 := R4.out.cell (k := 1) rfl
  have x2 := R4.out.cell (k := 2) rfl
  have x3 := R4.out.cell (k := 3) rfl
  have x4 := R4.out.cell (k := 4) rfl
  rw [HT0.out] at EX
  by_cases hA : 15 ≤ x.op ∧ x.op ≤ 19
  · have ca := access_any (z := ({ z.1 with pc := N.toNat }, z.2)) _ W4 Hf.out hxe.out hA hfs2 hfp.2 hF80 hp19.out hvf P4 S4.out hk hkm s.steps K4 (Nat.le_refl _) (by omega) H4
    rw [← EX.out.1 hA] at ca
    clear hp19 hxe hxi HXX HFET EX HNM
    obtain ⟨op, xa, xb, xc, imm⟩ := x
    dsimp only at x0 x1 x2 x3 x4 hA
    unfold ivI at ca
    dsimp only at ca
    rcases (show op = 15 ∨ op = 16 ∨ op = 17 ∨ op = 18 ∨ op = 19 by omega) with rfl | rfl | rfl | rfl | rfl
    all_goals
      go_wp2_with fail
      refine ca.mono ?_
      rintro e w5 ⟨rfl, ⟨vs5, zs5, h5⟩, hb5⟩
      have H5 := hide h5
      have B5 := hide (B4.out.trans hb5)
      clear ca h5 hb5
      go_wp2_with fail
      go_end0
      exact ⟨rfl, ⟨_, _, _, _, H5.out⟩, B5.out⟩
  · by_cases hB : x.op = 22
    · obtain ⟨n, hn, hnN⟩ := HNM.out.2.2.2 hB
      have ca := enter_any n W4 (by omega) (hide (by rw [hst4]; exact hl1)) (hide (by rw [hdp4]; exact hdep)) H4
      have e1 := EX.out.2.1 hB
      rw [hn, Int.toNat_natCast] at e1
      rw [← e1] at ca
      rw [hB] at x0
      rw [hn] at x1
      clear e1 hp19 hxe hxi HXX HFET EX HNM hA
      go_wp2_with fail
      refine ca.mono ?_
      rintro e w5 ⟨rfl, ⟨vs5, zs5, h5⟩, hb5⟩
      have H5 := hide h5
      have B5 := hide (B4.out.trans hb5)
      clear ca h5 hb5
      go_wp2_with fail
      go_end0
      exact ⟨rfl, ⟨_, _, _, _, H5.out⟩, B5.out⟩
    · by_cases hC : x.op = 23
      · have ca := leave_any W4 (hide (by rw [hst4]; exact hne4)) (hide (by rw [hst4]; exact hl1)) H4
        rw [← EX.out.2.2.1 hC] at ca
        rw [hC] at x0
        clear hp19 hxe hxi HXX HFET EX HNM hA hB
        go_wp2_with fail
        refine ca.mono ?_
        rintro e w5 ⟨rfl, ⟨vs5, zs5, h5⟩, hb5⟩
        have H5 := hide h5
        have B5 := hide (B4.out.trans hb5)
        clear ca h5 hb5
        go_wp2_with fail
        go_end0
        exact ⟨rfl, ⟨_, _, _, _, H5.out⟩, B5.out⟩
      · have hop2 : (0 ≤ x.op ∧ x.op ≤ 14) ∨ x.op = 20 ∨ x.op = 21 ∨ x.op = 24 := by have := (insE_zero.1 hxe.out).1; omega
        have ca := fun n => exec_any x (W4.drewN n) hop2 hxi.out C4.out htr4 (hide (H4.out.drewN n).core)
        have e1 := hide (EX.out.2.2.2 hA hB hC)
        have o15 : (x.op == 15) = false := by rw [beq_eq_false_iff_ne]; omega
        have o16 : (x.op == 16) = false := by rw [beq_eq_false_iff_ne]; omega
        have o17 : (x.op == 17) = false := by rw [beq_eq_false_iff_ne]; omega
        have o18 : (x.op == 18) = false := by rw [beq_eq_false_iff_ne]; omega
        have o19 : (x.op == 19) = false := by rw [beq_eq_false_iff_ne]; omega
        have o22 : (x.op == 22) = false := by rw [beq_eq_false_iff_ne]; omega
        have o23 : (x.op == 23) = false := by rw [beq_eq_false_iff_ne]; omega
        have hms := hide (exec_moved (s.fetchN x).co x).steps
        unfold ivI at ca
        clear hp19 hxe hxi HXX HFET EX HNM hA hB hC hop2
        go_upto_region 5 with (fail)
        refine wp_region_last 4 (by kernel_rfl) rfl rfl (by kernel_rfl) (by kernel_rfl) (by kernel_rfl) (C := fun w' => ∃ n, w' = W4.drewN n) ⟨1, rfl⟩ ?_
        dsimp only [List.take_succ_cons, List.take_zero]
        repeat (go_big_quiet_step (fail))
        refine wpQuiet_nil ?_
        intro _ hw'
        obtain ⟨n, hw''⟩ := hw'
        subst hw''
        go_wp2_with fail
        refine (ca n).mono ?_
        rintro e w5 ⟨rfl, ⟨vi5, vt5, h5, k5⟩⟩
        have H5 := hide ((H4.out.drewN n).cored h5 k5 (Nat.le_of_eq hms.out.symm))
        have B5 := hide ((below_draws B4.out n).trans ((H4.out.drewN n).belowC k5))
        clear ca h5 k5
        go_wp2_with fail
        go_end0
        rw [e1.out]
        exact ⟨rfl, ⟨_, _, _, _, H5.out⟩, B5.out⟩
end
end Go.Proofs.YtipjeihfhnilcaaDoor
end
