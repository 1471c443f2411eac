import Derived.Test.YtipjeihfhnilcaaDoorMZrep
import Derived.Test.YtipjeihfhnilcaaDoorMZshf
import Derived.Test.YtipjeihfhnilcaaDoorRows
import Derived.Deep.RegionLaw
import Derived.Laws.BitsAllLaws
set_option linter.unusedVariables false
set_option linter.unusedSimpArgs false
section
/-
  Two boxes laid one after the other. No function of the program is named here.
-/
namespace Go.Proofs.YtipjeihfhnilcaaDoor
open Go.RowKit

theorem boxes2p (w : World) (l1 l2 : List Value) (t1 t2 : TypeId) : ∃ W, (w.alloc (.cells l1.toArray t1)).alloc (.cells l2.toArray t2) = W ∧ Below w.heap.size w W ∧ w.heap.size + 2 = W.heap.size ∧ Row W w.heap.size t1 l1 ∧ Row W (w.heap.size + 1) t2 l2 := by
  refine ⟨_, rfl, below2 _ _ _, by simp, (Row.new w t1 l1).alloc _, ?_⟩
  exact heap_at _ _ (by simp)
end Go.Proofs.YtipjeihfhnilcaaDoor
end

section
/-
  The contract of spillframedraw's Cyclic: a program whose one function begins with a call. Conditions: the receiver is a list of choices; the program lies behind it; each function has 1 to 1000 instructions with small targets.
-/
namespace Go.Proofs.YtipjeihfhnilcaaDoor
open Go.RowKit

def CycPost (g lo B n : Nat) (F : Pg) (w : World) (e : Ending) (w' : World) : Prop :=
  ∃ (A : Option Addr) (c : Nat) (hs : List Hd) (i : Nat) (j : Int) (f : Fn), e = .returned (gv A n c) ∧ F[i]? = some f ∧ 0 ≤ j ∧ j < n ∧ (∀ wx : World, (∀ p : Addr, (lo ≤ p.block ∧ p.block < B) ∨ (w.heap.size ≤ p.block ∧ p.block < w'.heap.size) → wx.cell? p = w'.cell? p) → w'.heap.size ≤ wx.heap.size → PgAt wx lo wx.heap.size A n c hs (F.set i (cycF f j))) ∧ Codes w' g ∧ w.grownBy w' (some g)

/-- What the walk keeps behind the first choice: the function's box, the argument's, the result's. -/
structure CyR (w : World) (g n : Nat) (A : Option Addr) (c : Nat) (P : Int) (As : Option Addr) (ns cs : Nat) (Ac : Option Addr) (nc cc : Nat) (wx : World) : Prop where
  box : Row wx (w.heap.size + 2) 52 [.int .i64 P, .slice As ns cs, .slice Ac nc cc]
  prm : Row wx w.heap.size 26 [.slice A n c]
  res : Row wx (w.heap.size + 1) 26 [.slice none 0 0]
  codes : Codes wx g
  grown : w.grownBy wx (some g)
  size : w.heap.size + 3 ≤ wx.heap.size
theorem CyR.step {w w3 w4 : World} {g n c ns cs nc cc : Nat} {A As Ac : Option Addr} {P : Int} {b : Option Nat} (h : CyR w g n A c P As ns cs Ac nc cc w3) (hG : w3.grownBy w4 b) (hb : ∀ k, b = some k → w.heap.size + 3 ≤ k) (hgw : g < w.heap.size) : CyR w g n A c P As ns cs Ac nc cc w4 :=
  ⟨h.box.grown hG (fun e => by have := hb _ e.symm; omega), h.prm.grown hG (fun e => by have := hb _ e.symm; omega), h.res.grown hG (fun e => by have := hb _ e.symm; omega), h.codes.kept hG (fun k hk => by have := hb k hk; omega), h.grown.andThen hG (fun k hk => .inl (by have := hb k hk; omega)), Nat.le_trans h.size hG.size⟩
theorem own_le {w : World} {base e size n c : Nat} {A : Option Addr} {xs : List Value} (h : w.ownsRow base e size (.slice A n c) n xs) : n ≤ c := by
  obtain ⟨A', c', he, _, hc, _⟩ := own_seen h
  injection he with _ _ e3
  omega
abbrev litA (j : Int) : Array Value := #[.int .i64 22, .int .i64 j, .int .i64 0, .int .i64 0, .int .u64 0]

/-- With the code stored into the function's box. -/
structure CyS (w : World) (g n : Nat) (A : Option Addr) (c : Nat) (P : Int) (As : Option Addr) (ns cs nc G c5 : Nat) (ys : List Ins) (wx : World) : Prop where
  own : wx.ownsRow (w.heap.size + 3) 48 5 (.slice (some ⟨G, 0, none⟩) (1 + nc) c5) (1 + nc) (icells ys)
  box : Row wx (w.heap.size + 2) 52 [.int .i64 P, .slice As ns cs, .slice (some ⟨G, 0, none⟩) (1 + nc) c5]
  prm : Row wx w.heap.size 26 [.slice A n c]
  res : Row wx (w.heap.size + 1) 26 [.slice none 0 0]
  codes : Codes wx g
  grown : w.grownBy wx (some g)
  size : w.heap.size + 3 ≤ wx.heap.size
theorem CyR.stored {w w5 : World} {g n c ns cs nc cc G c5 : Nat} {A As Ac : Option Addr} {P : Int} {ys : List Ins} {xs : List Value} (h : CyR w g n A c P As ns cs Ac nc cc w5) (ho : w5.ownsRow (w.heap.size + 3) 48 5 (.slice (some ⟨G, 0, none⟩) (1 + nc) c5) (1 + nc) xs) (e : xs = icells ys) (hgw : g < w.heap.size) :
    CyS w g n A c P As ns cs nc G c5 ys (w5.setCell ⟨w.heap.size + 2, 2, none⟩ (.slice (some ⟨G, 0, none⟩) (1 + nc) c5)) := by
  subst e
  exact ⟨rep_own ho (by omega) (Nat.le_refl _) 2 _, h.box.set_ 2 _, h.prm.far (p := ⟨w.heap.size + 2, 2, none⟩) (by simp) _, h.res.far (p := ⟨w.heap.size + 2, 2, none⟩) (by simp) _,
    h.codes.kept (grown_cell w5 (w.heap.size + 2) 2 _) (fun k hk => by injection hk with hk; omega), h.grown.andThen (grown_cell w5 (w.heap.size + 2) 2 _) (fun q hq => .inl (by injection hq with hq; omega)), by simpa [World.setCell] using h.size⟩
theorem cyc_end {w W6 w7 : World} {g lo B n c i ns cs nc cc G c5 L c7 : Nat} {A As Ac : Option Addr} {P j : Int} {hs : List Hd} {F : Pg} {f : Fn} (H : PgAt w lo B A n c hs F) (hBw : B ≤ w.heap.size) (hg : g < lo) (hlo : lo ≤ w.heap.size) (hf : F[i]? = some f) (hd : HdAt w lo B ⟨P, As, ns, cs, Ac, nc, cc⟩ f) (hn : n ≤ 80) (hnc : nc ≤ 1000) (h0 : 0 ≤ j) (h1 : j < n)
    (h6 : CyS w g n A c P As ns cs nc G c5 (cycF f j).code W6) (ho : w7.ownsRow W6.heap.size 52 3 (.slice (some ⟨L, 0, none⟩) n c7) n (hcells (hs.set i ⟨P, As, ns, cs, some ⟨G, 0, none⟩, 1 + nc, c5⟩))) (hb : Below W6.heap.size W6 w7) :
    CycPost g lo B n F w (.returned (gv (some ⟨L, 0, none⟩) n c7)) (w7.setCell ⟨w.heap.size + 1, 0, none⟩ (.slice (some ⟨L, 0, none⟩) n c7)) := by
  have hsz := h6.size
  have hG7 : w.grownBy w7 (some g) := h6.grown.andThen (grown_below hb none) (fun k hk => by cases hk)
  have hGf := hG7.andThen (grown_cell w7 (w.heap.size + 1) 0 (.slice (some ⟨L, 0, none⟩) n c7)) (fun q hq => .inl (by injection hq with hq; omega))
  have hCf := ((h6.codes.below hb).kept (grown_cell w7 (w.heap.size + 1) 0 (.slice (some ⟨L, 0, none⟩) n c7)) (fun k hk => by have := h6.codes.lt; have := hG7.size; injection hk with hk; omega))
  have hof := rep_own ho (b := w.heap.size + 1) (by omega) (Nat.le_refl _) 0 (.slice (some ⟨L, 0, none⟩) n c7)
  have hcf := rep_own (own_below h6.own hb) (b := w.heap.size + 1) (by omega) (Nat.le_refl _) 0 (.slice (some ⟨L, 0, none⟩) n c7)
  generalize w7.setCell ⟨w.heap.size + 1, 0, none⟩ (.slice (some ⟨L, 0, none⟩) n c7) = wf at hGf hCf hof hcf
  have hLb := (hof.lt L rfl).1
  have hGb := (hcf.lt G rfl).1
  refine ⟨some ⟨L, 0, none⟩, c7, hs.set i ⟨P, As, ns, cs, some ⟨G, 0, none⟩, 1 + nc, c5⟩, i, j, f, rfl, hf, h0, h1, fun wx hwx hsx => ?_, hCf, hGf⟩
  have hk : ∀ p : Addr, lo ≤ p.block → p.block < B → wx.cell? p = w.cell? p := fun p h1 h2 => (hwx p (.inl ⟨h1, h2⟩)).trans (World.cell?_of_block (hGf.block p.block (by omega) (fun e => by injection e with e; omega)))
  have hup : ∀ p : Addr, w.heap.size ≤ p.block → p.block < wf.heap.size → wx.cell? p = wf.cell? p := fun p h1 h2 => hwx p (.inr ⟨h1, h2⟩)
  have hGs := hGf.size
  have hdf := (hd.keep hk).more (show B ≤ wx.heap.size by omega) (Nat.le_refl lo)
  refine H.set hk (by omega) (Nat.le_refl _) ⟨(fun e => by cases e), own_le hof, by omega⟩ (fun a ha => by injection ha with ha; subst ha; simp only; omega) (((Sees.ownN hof).keepF (lo := w.heap.size) (fun a ha => by injection ha with ha; subst ha; simp only; omega) hup).more hsx) ?_
  have hl2 : f.code.length = nc := hd.l2
  exact ⟨hdf.p, hdf.l1, by show ((shC f.code).length + 1 : Nat) = 1 + nc; rw [shC_length]; omega, hdf.k1, ⟨(fun e => by cases e), own_le hcf, by simp only; omega⟩, hdf.f1, (fun a ha => by injection ha with ha; subst ha; simp only; omega), hdf.s1, ((Sees.ownN hcf).keepF (lo := w.heap.size) (fun a ha => by injection ha with ha; subst ha; simp only; omega) hup).more hsx⟩

set_option maxRecDepth 100000 in
set_option maxHeartbeats 4000000 in
theorem cyclic_any (g lo B : Nat) (A : Option Addr) (n c : Nat) (hs : List Hd) (F : Pg) (w : World) (h : Hid (Codes w g)) (H : Hid (PgAt w lo B A n c hs F)) (hBw : B ≤ w.heap.size) (hg : g < lo) (hlo : lo ≤ w.heap.size) (hn1 : 1 ≤ n) (hn80 : n ≤ 80)
    (hF : Hid (∀ f ∈ F, (1 ≤ f.code.length ∧ f.code.length ≤ 1000) ∧ ∀ x ∈ f.code, (x.op = 20 → 0 ≤ x.a ∧ x.a ≤ 1024) ∧ (x.op = 21 → 0 ≤ x.b ∧ x.b ≤ 1024))) :
    Calls Tryd.prog 20 #[.pointer (some ⟨g, 0, none⟩), gv A n c] w (CycPost g lo B n F w) := by
  obtain ⟨j0, ji, jz0, jz1, jz2⟩ := info_parts info_instr5
  have hgl := h.out.lt
  obtain ⟨W, hW, hbW, hsW, r0, r1⟩ := boxes2p w [.slice A n c] [.slice none 0 0] 26 26
  have HW := hide hW
  have HSW := hide hsW
  have HBW := hide hbW
  have R0 := hide r0
  have R1 := hide r1
  have HC := hide (h.out.below hbW)
  have HG := hide (grown_below hbW (some g))
  have HP := hide (H.out.below (hbW.mono hBw))
  have x0 := r0.cell (k := 0) rfl
  clear hW hbW hsW r0 r1
  go_enter Tryd.func20, Tryd.ntmps20
  go_upto_region 1 with (fail)
  rw [HW.out]
  clear HW
  go_wp2_with fail
  refine (next_any g (n : Int) W HC (by omega) (by omega)).mono ?_
  rintro e w1 ⟨v, rfl, v0, v1, hC1, hG1, hz1⟩
  obtain ⟨i, rfl⟩ := Int.eq_ofNat_of_zero_le v0
  have hin : i < n := by omega
  have HC1 := hide hC1
  have HG1 := hide (HG.out.trans hG1)
  have Q0 := hide (R0.out.grown hG1 (fun e => by injection e with e; omega))
  have Q1 := hide (R1.out.grown hG1 (fun e => by injection e with e; omega))
  have HZ1 := hide (show w1.heap.size = w.heap.size + 2 by have := HSW.out; omega)
  have HP1 := hide (HP.out.grown hG1 hg (by have := HSW.out; omega))
  clear x0 hC1 hG1 hz1 HC HG HP R0 R1 v0 v1
  obtain ⟨b, off, P, As, ns, cs, Ac, nc, cc, f, rfl, hb, hf, hhi, hd, p0, p1, p2⟩ := fn_at HP1.out hin
  have HF := hide hf
  have HHI := hide hhi
  have HD := hide hd
  have hlen := (hF.out f (List.mem_of_getElem? hf)).1
  rw [hd.l2] at hlen
  simp only at hlen
  have HTG := hide (hF.out f (List.mem_of_getElem? hf)).2
  have hiz : (0 : Int) ≤ (i : Int) := by omega
  have hiz' : (i : Int) < (n : Int) := by omega
  have x0 := Q0.out.cell (k := 0) rfl
  clear hf hhi hd
  go_upto_region 3 with (fail)
  obtain ⟨W2, hW2⟩ : ∃ V, w1.alloc (.cells #[.int .i64 P, .slice As ns cs, .slice Ac nc cc] 52) = V := ⟨_, rfl⟩
  have hb2 : Below w1.heap.size w1 W2 := by rw [← hW2]; exact below1 _ _
  have RF2 := hide (show Row W2 w1.heap.size 52 [.int .i64 P, .slice As ns cs, .slice Ac nc cc] by rw [← hW2]; exact Row.new w1 _ _)
  have S0 := hide (Q0.out.call hb2)
  have S1 := hide (Q1.out.call hb2)
  have HC2 := hide (HC1.out.below hb2)
  have HG2 := hide (HG1.out.andThen (grown_below hb2 none) (fun k hk => by cases hk))
  have HS2 := hide (show W2.heap.size = w.heap.size + 3 by rw [← hW2]; simp [HZ1.out])
  have HCS := True.intro
  rw [hW2]
  have e1 := HZ1.out
  rw [e1] at RF2 ⊢
  clear hW2 hb2 x0 p0 p1 p2 Q0 Q1 HC1 HG1 e1
  have x0 := S0.out.cell (k := 0) rfl
  have f2 := RF2.out.cell (k := 2) rfl
  have hn0 := HS2.out
  have R2 := hide (show CyR w g n (some ⟨b, off, none⟩) c P As ns cs Ac nc cc W2 from ⟨RF2.out, S0.out, S1.out, HC2.out, HG2.out, by omega⟩)
  have HDW := hide (H.out.hd.at_ i _ f HHI.out HF.out)
  have hsee : ∀ V, w.grownBy V (some g) → Hid (Sees V B Ac (icells f.code)) := fun V hV => hide ((HDW.out.keep fun p h1 h2 => World.cell?_of_block (hV.block p.block (by omega) (fun e => by injection e with e; omega))).s2)
  have HSEE := hide hsee
  have HCA := hide HD.out.k2.1
  have HCN := hide HD.out.k2.2.1
  have HL2 := hide (show f.code.length = nc from HD.out.l2)
  have HLS := hide (show (icells (shC f.code)).length = nc * 5 by rw [icells_length, shC_length, HL2.out])
  clear hsee RF2 S0 S1 HC2 HG2 HCS hn0
  go_region_law
    (first
      | (go_simp; go_at_call 19; refine (next_any g (n : Int) W2.drew (hide R2.out.codes.drew) (by omega) (by omega)).mono ?_; rintro e w3 ⟨j, rfl, j0', j1', hC3, hG3, hz3⟩; have hR3 : CyR w g n (some ⟨b, off, none⟩) c P As ns cs Ac nc cc w3 := ⟨R2.out.box.grown (w := W2.drew) hG3 (fun e => by injection e with e; omega), R2.out.prm.grown (w := W2.drew) hG3 (fun e => by injection e with e; omega), R2.out.res.grown (w := W2.drew) hG3 (fun e => by injection e with e; omega), hC3, (grown_draws R2.out.grown 1).trans hG3, by have := R2.out.size; have := hG3.size; simp at this; omega⟩; clear hz3; have f3 := hR3.box.cell (k := 2) rfl; have f4 := (hR3.box.alloc (.cells (litA j) 48)).cell (k := 2) rfl)
      | (go_simp; go_at_call 26; refine (shifted_any Ac nc cc f.code B w3 HCA HL2 HCN hlen.1 (by omega) (HSEE.out _ hR3.grown) HTG).mono ?_; rintro e w4 ⟨G, c', rfl, ho4, hG4⟩; have hA4 := hR3.step hG4 (fun k hk => by cases hk) hgl)
      | (go_simp; go_at_call 26; refine (shifted_any Ac nc cc f.code B (w3.alloc (.cells (litA j) 48)) HCA HL2 HCN hlen.1 (by omega) (HSEE.out _ (hR3.grown.trans (World.grownBy_alloc _ _ _))) HTG).mono ?_; rintro e w4 ⟨G, c', rfl, ho4, hG4⟩; have hB4 := (hR3.step (World.grownBy_alloc w3 (.cells (litA j) 48) none) (fun k hk => by cases hk) hgl).step hG4 (fun k hk => by cases hk) hgl)
      | (refine wp_append_seesN (.tmp 23) (.tmp 26) 49 rfl (w.heap.size + 3) 48 j0 (.agg #[.int .i64 0, .int .i64 0, .int .i64 0, .int .i64 0, .int .u64 0]) 5 40 Tryd.underlying49 ji jz0 jz1 jz2 rfl (by decide) (.slice (some ⟨w4.heap.size, 0, none⟩) 1 1) 1 [.int .i64 22, .int .i64 j, .int .i64 0, .int .i64 0, .int .u64 0] rfl (World.ownsRow_lit w4 (litA j) 1 hA4.size (by decide) rfl) w4.heap.size (some ⟨G, 0, none⟩) nc c' (icells (shC f.code)) rfl (hide (fun e => by cases e)) HLS (hide ((Sees.ownN ho4).below (below1 w4 (.cells (litA j) 48)))) (hide (own_le ho4)) (icells_oneCell _) (by unfold maxLen; omega) (by omega) (by have := hA4.size; simp; omega) ?_; intro v5 w5 ho5 hg5; obtain ⟨G5, c5, rfl, -, -, -, -⟩ := own_block ho5 (by omega); have hS := (hA4.step (World.grownBy_alloc w4 (.cells (litA j) 48) none) (fun k hk => by cases hk) hgl).step hg5 (fun k hk => by have := hA4.size; simp [Value.ownBlock] at hk; omega) hgl; have s0 := hS.box.cell (k := 2) rfl; have s1 := hS.box.free 2)
      | (refine wp_append_seesN (.tmp 23) (.tmp 26) 49 rfl (w.heap.size + 3) 48 j0 (.agg #[.int .i64 0, .int .i64 0, .int .i64 0, .int .i64 0, .int .u64 0]) 5 40 Tryd.underlying49 ji jz0 jz1 jz2 rfl (by decide) (.slice (some ⟨w3.heap.size, 0, none⟩) 1 1) 1 [.int .i64 22, .int .i64 j, .int .i64 0, .int .i64 0, .int .u64 0] rfl ((World.ownsRow_lit w3 (litA j) 1 hR3.size (by decide) rfl).kept hG4 (.inr (fun e => by cases e))) w4.heap.size (some ⟨G, 0, none⟩) nc c' (icells (shC f.code)) rfl (hide (fun e => by cases e)) HLS (hide (Sees.ownN ho4)) (hide (own_le ho4)) (icells_oneCell _) (by unfold maxLen; omega) (by omega) (by have := hB4.size; omega) ?_; intro v5 w5 ho5 hg5; obtain ⟨G5, c5, rfl, -, -, -, -⟩ := own_block ho5 (by omega); have hS := hB4.step hg5 (fun k hk => by have := hR3.size; simp [Value.ownBlock] at hk; omega) hgl; have s0 := hS.box.cell (k := 2) rfl; have s1 := hS.box.free 2))
  all_goals
    have h6 := hS.stored ho5 (show _ = icells (cycF f j).code by simp [icells, icell, cycF]) hgl
    obtain ⟨W6, hW6⟩ : ∃ V, w5.setCell ⟨w.heap.size + 2, 2, none⟩ (.slice (some ⟨G5, 0, none⟩) (1 + nc) c5) = V := ⟨_, rfl⟩
    rw [hW6] at h6
    have H6 := hide h6
    have HW6 := hide hW6
    have hsee6 := hide (H.out.see.keepF H.out.far fun p h1 h2 => World.cell?_of_block (h6.grown.block p.block (by omega) (fun e => by injection e with e; omega)))
    have hl6 := hide (show hs.length = n by rw [H.out.hd.len, H.out.len])
    have hsz6 := h6.size
    have x0 := h6.prm.cell (k := 0) rfl
    have b0 := h6.box.cell (k := 0) rfl
    have b1 := h6.box.cell (k := 1) rfl
    have b2 := h6.box.cell (k := 2) rfl
    have hout := only_any B (some ⟨b, off, none⟩) n c hs i ⟨P, As, ns, cs, some ⟨G5, 0, none⟩, 1 + nc, c5⟩ W6 (hide H.out.cap) hl6 hsee6 (by omega) hin hn80
    have J0 := hide j0'
    have J1 := hide j1'
    clear h6 hS hW6 hsee6 hl6 s0 s1 ho5 hg5 ho4 hG4 hR3 hC3 hG3 f3 f4 f2 j0' j1'
    go_wp2_with (rw [HW6.out])
    try rw [HW6.out]
    go_wp2_with fail
    refine hout.mono ?_
    rintro e w7 ⟨L, c7, rfl, ho7, hb7⟩
    have q0 := (H6.out.res.call hb7).cell (k := 0) rfl
    have qf := (H6.out.res.call hb7).free 0
    have hfin := cyc_end H.out hBw hg hlo HF.out HDW.out hn80 hlen.2 J0.out J1.out H6.out ho7 hb7
    have hcell := ((H6.out.res.call hb7).set_ 0 (.slice (some ⟨L, 0, none⟩) n c7)).cell (k := 0) rfl
    have HFIN := hide hfin
    obtain ⟨wf, hwf⟩ : ∃ wf, w7.setCell ⟨w.heap.size + 1, 0, none⟩ (.slice (some ⟨L, 0, none⟩) n c7) = wf := ⟨_, rfl⟩
    rw [hwf] at hcell HFIN
    have HWF := hide hwf
    clear hfin hwf ho7 hb7 x0 b0 b1 b2
    go_wp2_with fail
    try rw [HWF.out]
    exact bodyPost_ret (v := gv (some ⟨L, 0, none⟩) n c7) (by simp [results, Tryd.results20, go_sem, hcell]) rfl HFIN.out
end Go.Proofs.YtipjeihfhnilcaaDoor
end

section
/-
  Plain mathematics of values of 128 bits as natural numbers: the two words, sums, differences, products, division bit by bit. No function of the program is named here.
-/
namespace Go.Proofs.YtipjeihfhnilcaaDoor

/-- 2^128, and 2^64, behind names. -/
def two128 : Nat := 340282366920938463463374607431768211456
def two64 : Nat := 18446744073709551616
theorem two128_eq : two128 = 2 ^ 128 := by decide
theorem two64_eq : two64 = 2 ^ 64 := by decide
theorem two_sq : two128 = two64 * two64 := by decide
theorem two64_pos : 0 < two64 := by decide
theorem two128_pos : 0 < two128 := by decide

/-- The low word and the high word of a number. -/
def lo (V : Nat) : Int := ((V % 18446744073709551616 : Nat) : Int)
def hi (V : Nat) : Int := ((V / 18446744073709551616 % 18446744073709551616 : Nat) : Int)
/-- The number of two words. -/
def num (l h : Int) : Nat := l.toNat + 18446744073709551616 * h.toNat

/-- 1 or 0. -/
def bn (b : Bool) : Nat := if b then 1 else 0
theorem lo_b (V : Nat) : 0 ≤ lo V ∧ lo V ≤ 18446744073709551615 := by unfold lo; omega
theorem hi_b (V : Nat) : 0 ≤ hi V ∧ hi V ≤ 18446744073709551615 := by unfold hi; omega
theorem num_lt {l h : Int} (l1 : l ≤ 18446744073709551615) (h1 : h ≤ 18446744073709551615) : num l h < two128 := by unfold num two128; omega
theorem lo_num {l h : Int} (l0 : 0 ≤ l) (l1 : l ≤ 18446744073709551615) (h0 : 0 ≤ h) (h1 : h ≤ 18446744073709551615) : lo (num l h) = l := by unfold num lo; omega
theorem hi_num {l h : Int} (l0 : 0 ≤ l) (l1 : l ≤ 18446744073709551615) (h0 : 0 ≤ h) (h1 : h ≤ 18446744073709551615) : hi (num l h) = h := by unfold num hi; omega
theorem num_lo_hi {V : Nat} (h : V < two128) : num (lo V) (hi V) = V := by unfold num lo hi; unfold two128 at h; omega
theorem val_eq {V : Nat} (h : V < two128) : (V : Int) = lo V + 18446744073709551616 * hi V := by unfold lo hi; unfold two128 at h; omega

/-- The words of a number, given as the number is: what each operation's answer must be. -/
theorem words {V : Nat} {l h : Int} (l0 : 0 ≤ l) (l1 : l ≤ 18446744073709551615) (e : (l + 18446744073709551616 * h) % 340282366920938463463374607431768211456 = (V : Int) % 340282366920938463463374607431768211456)
    (h0 : 0 ≤ h) (h1 : h ≤ 18446744073709551615) : l = lo V ∧ h = hi V := by
  unfold lo hi; omega

theorem lo_mod (V : Nat) : lo (V % two128) = lo V := by unfold lo two128; omega
theorem hi_mod (V : Nat) : hi (V % two128) = hi V := by unfold hi two128; omega

theorem eq_words {X Y : Nat} (hX : X < two128) (hY : Y < two128) : (lo X = lo Y ∧ hi X = hi Y) ↔ X = Y := by
  constructor
  · intro ⟨h1, h2⟩
    have := val_eq hX
    have := val_eq hY
    omega
  · rintro rfl; exact ⟨rfl, rfl⟩
theorem zero_words {X : Nat} (hX : X < two128) : (lo X = 0 ∧ hi X = 0) ↔ X = 0 := by
  have := eq_words hX (Y := 0) two128_pos
  rw [← this]
  exact ⟨fun ⟨a, b⟩ => ⟨by rw [a]; rfl, by rw [b]; rfl⟩, fun ⟨a, b⟩ => ⟨by rw [a]; rfl, by rw [b]; rfl⟩⟩
theorem lt_words {X Y : Nat} (hX : X < two128) (hY : Y < two128) : X < Y ↔ (hi X < hi Y ∨ (hi X = hi Y ∧ lo X < lo Y)) := by
  have := val_eq hX
  have := val_eq hY
  have := lo_b X
  have := lo_b Y
  constructor
  · intro h; omega
  · intro h; omega

theorem or_bit (x b : Nat) (hx : x % 2 = 0) (hb : b ≤ 1) : x ||| b = x + b := by
  apply Nat.eq_of_testBit_eq
  intro i
  rw [Nat.testBit_or]
  cases i with
  | zero => simp only [Nat.testBit_zero]; rw [hx, show (x + b) % 2 = b % 2 by omega]; simp
  | succ i => rw [Nat.testBit_succ, Nat.testBit_succ, Nat.testBit_succ, show b / 2 = 0 by omega, show (x + b) / 2 = x / 2 by omega]; simp
theorem or_bit_u64 (a b : Int) (a0 : 0 ≤ a) (a1 : a ≤ 18446744073709551615) (ha : a % 2 = 0) (b0 : 0 ≤ b) (b1 : b ≤ 1) : bits .or .u64 a b = a + b := by
  rw [u64_or a b a0 (by omega) b0 (by omega), or_bit _ _ (by omega) (by omega)]
  omega
theorem and_bit_u64 (a : Int) (a0 : 0 ≤ a) (a1 : a ≤ 18446744073709551615) : bits .and .u64 a 1 = a % 2 := by
  obtain ⟨n, rfl⟩ := Int.eq_ofNat_of_zero_le a0
  rw [show (1 : Int) = ((1 : Nat) : Int) from rfl, u64_and_nat n 1 (by omega) (by omega), Nat.and_one_is_mod]
  omega

theorem double_lo (X : Nat) (b : Int) (b0 : 0 ≤ b) (b1 : b ≤ 1) : bits .or .u64 (IntKind.u64.wrap (lo X * 2)) b = lo (2 * X + b.toNat) := by
  rw [IntKind.wrap_u64, or_bit_u64 _ _ (by omega) (by omega) (by omega) b0 b1]
  unfold lo; omega
theorem double_hi (X : Nat) (b : Int) (b0 : 0 ≤ b) (b1 : b ≤ 1) : bits .or .u64 (IntKind.u64.wrap (hi X * 2)) (lo X / 9223372036854775808) = hi (2 * X + b.toNat) := by
  have := lo_b X
  rw [IntKind.wrap_u64, or_bit_u64 _ _ (by omega) (by omega) (by omega) (by omega) (by omega)]
  unfold lo hi; omega
theorem twice_lo (X : Nat) : IntKind.u64.wrap (lo X * 2) = lo (2 * X) := by
  rw [IntKind.wrap_u64]
  unfold lo; omega
theorem twice_hi (X : Nat) : bits .or .u64 (IntKind.u64.wrap (hi X * 2)) (lo X / 9223372036854775808) = hi (2 * X) := by
  have := double_hi X 0 (by omega) (by omega)
  simpa using this

theorem sum_lo (X Y : Nat) : (lo X + lo Y) % 18446744073709551616 = lo (X + Y) := by unfold lo; omega
theorem sum_hi (X Y : Nat) : (hi X + hi Y + (lo X + lo Y) / 18446744073709551616) % 18446744073709551616 = hi (X + Y) := by unfold lo hi; omega
theorem diff_lo (X Y : Nat) (hY : Y < two128) : (lo X - lo Y) % 18446744073709551616 = lo (X + two128 - Y) := by unfold two128 at *; unfold lo; omega
/-- What is borrowed. -/
def brw (x y c : Int) : Int := if x < y + c then 1 else 0
theorem brw_b (x y c : Int) : 0 ≤ brw x y c ∧ brw x y c ≤ 1 := by unfold brw; split <;> omega
theorem diff_hi (X Y : Nat) (hY : Y < two128) : (hi X - hi Y - brw (lo X) (lo Y) 0) % 18446744073709551616 = hi (X + two128 - Y) := by unfold two128 at *; unfold brw lo hi; split <;> omega
theorem lo_mul (X Y : Nat) : lo X * lo Y = ((X % 18446744073709551616 * (Y % 18446744073709551616) : Nat) : Int) := by unfold lo; simp
theorem prod_lo (X Y : Nat) : lo X * lo Y % 18446744073709551616 = lo (X * Y) := by
  rw [lo_mul]
  unfold lo
  rw [Nat.mul_mod X Y]
  omega
theorem prod_nat (a b c d : Nat) : (a + 18446744073709551616 * b) * (c + 18446744073709551616 * d) / 18446744073709551616 % 18446744073709551616 = (a * c / 18446744073709551616 + a * d + b * c) % 18446744073709551616 := by
  have e : (a + 18446744073709551616 * b) * (c + 18446744073709551616 * d) = a * c + 18446744073709551616 * (a * d + b * c) + 340282366920938463463374607431768211456 * (b * d) := by
    rw [Nat.add_mul, Nat.mul_add, Nat.mul_add, Nat.mul_left_comm a, Nat.mul_assoc _ b c, Nat.mul_mul_mul_comm]
    omega
  rw [e]
  generalize a * c = p
  generalize a * d = q
  generalize b * c = r
  generalize b * d = t
  omega
theorem prod_hi (X Y : Nat) (hX : X < two128) (hY : Y < two128) :
    IntKind.u64.wrap (IntKind.u64.wrap (lo X * lo Y / 18446744073709551616 + IntKind.u64.wrap (lo X * hi Y)) + IntKind.u64.wrap (hi X * lo Y)) = hi (X * Y) := by
  have e : hi (X * Y) = ((X * Y / 18446744073709551616 % 18446744073709551616 : Nat) : Int) := rfl
  have eX : X = X % 18446744073709551616 + 18446744073709551616 * (X / 18446744073709551616 % 18446744073709551616) := by unfold two128 at hX; omega
  have eY : Y = Y % 18446744073709551616 + 18446744073709551616 * (Y / 18446744073709551616 % 18446744073709551616) := by unfold two128 at hY; omega
  rw [e, eX, eY, prod_nat, ← eX, ← eY]
  simp only [IntKind.wrap_u64]
  have e1 : lo X * hi Y = ((X % 18446744073709551616 * (Y / 18446744073709551616 % 18446744073709551616) : Nat) : Int) := by unfold lo hi; simp
  have e2 : hi X * lo Y = ((X / 18446744073709551616 % 18446744073709551616 * (Y % 18446744073709551616) : Nat) : Int) := by unfold lo hi; simp
  rw [e1, e2, lo_mul]
  generalize X % 18446744073709551616 * (Y % 18446744073709551616) = p
  generalize X % 18446744073709551616 * (Y / 18446744073709551616 % 18446744073709551616) = q
  generalize X / 18446744073709551616 % 18446744073709551616 * (Y % 18446744073709551616) = r
  omega
theorem div_uniq {a b d c : Nat} (hc : c < b) (h : c + b * d = a) : a / b = d ∧ a % b = c := (Nat.div_mod_unique (by omega)).2 ⟨h, hc⟩
/-- One step of the long division in base 2. -/
theorem div_less (A b Y : Nat) (h : 2 * (A % Y) + b < Y) : (2 * A + b) / Y = 2 * (A / Y) ∧ (2 * A + b) % Y = 2 * (A % Y) + b := by
  refine div_uniq h ?_
  have := Nat.div_add_mod A Y
  rw [Nat.mul_left_comm]
  omega
theorem div_more (A b Y : Nat) (hb : b ≤ 1) (hY : 0 < Y) (h : Y ≤ 2 * (A % Y) + b) : (2 * A + b) / Y = 2 * (A / Y) + 1 ∧ (2 * A + b) % Y = 2 * (A % Y) + b - Y := by
  have hr := Nat.mod_lt A hY
  refine div_uniq (by omega) ?_
  have := Nat.div_add_mod A Y
  rw [Nat.mul_add, Nat.mul_left_comm]
  omega

theorem vv_congr {V V' : Nat} (h : V % two128 = V' % two128) : lo V = lo V' ∧ hi V = hi V' := by
  rw [← lo_mod V, ← lo_mod V', ← hi_mod V, ← hi_mod V', h]; exact ⟨rfl, rfl⟩

theorem sub_mod128 (a b : Nat) (h : b ≤ a) : (a + two128 - b) % two128 = (a - b) % two128 := by
  rw [show a + two128 - b = a - b + two128 by unfold two128; omega, Nat.add_mod_right]
theorem half_pow (X j : Nat) : X / 2 ^ j = 2 * (X / 2 ^ (j + 1)) + X / 2 ^ j % 2 := by
  rw [Nat.pow_succ, ← Nat.div_div_eq_div_mul]; omega
/-- The bit that is taken at step k. -/
theorem top_bit (X k : Nat) (hk : k < 128) : (hi (X * 2 ^ k % two128) / 9223372036854775808).toNat = X / 2 ^ (127 - k) % 2 := by
  obtain ⟨j, hj⟩ : ∃ j, 127 - k = j := ⟨_, rfl⟩
  have e128 : two128 = 2 ^ k * 2 ^ (j + 1) := by rw [← Nat.pow_add, show k + (j + 1) = 128 by omega]; rfl
  have e1 : (hi (X * 2 ^ k % two128) / 9223372036854775808).toNat = X * 2 ^ k % two128 / 2 ^ 127 := by
    have hlt : X * 2 ^ k % two128 < two128 := Nat.mod_lt _ two128_pos
    generalize X * 2 ^ k % two128 = V at *
    rw [show (2 : Nat) ^ 127 = 170141183460469231731687303715884105728 by decide]
    unfold two128 at hlt
    unfold hi
    omega
  rw [e1, hj, e128, Nat.mul_comm X, Nat.mul_mod_mul_left, show (2 : Nat) ^ 127 = 2 ^ k * 2 ^ j by rw [← Nat.pow_add, show k + j = 127 by omega], Nat.mul_div_mul_left _ _ (Nat.two_pow_pos k), Nat.pow_succ, Nat.mod_mul_right_div_self]
theorem next_x (X k : Nat) : 2 * (X * 2 ^ k % two128) % two128 = X * 2 ^ (k + 1) % two128 := by
  rw [Nat.mul_mod_mod, Nat.pow_succ, Nat.mul_comm 2, Nat.mul_assoc]
theorem next_a (X k : Nat) (hk : k < 128) : X / 2 ^ (128 - (k + 1)) = 2 * (X / 2 ^ (128 - k)) + X / 2 ^ (127 - k) % 2 := by
  have := half_pow X (127 - k)
  rw [show 127 - k + 1 = 128 - k by omega] at this
  rw [show 128 - (k + 1) = 127 - k by omega]
  omega
theorem quot_zero (X Y : Nat) (hX : X < two128) : X / 2 ^ (128 - 0) / Y = 0 ∧ X / 2 ^ (128 - 0) % Y = 0 := by
  have e : X / 2 ^ (128 - 0) = 0 := Nat.div_eq_of_lt hX
  rw [e]; simp
/-- All of a step: what the program computes, and what it must be. -/
theorem quot_step (X Y k : Nat) (hX : X < two128) (hk : k < 128) (hY : 0 < Y) (xk qk rk : Nat) (hx : xk = X * 2 ^ k % two128) (hq : qk = X / 2 ^ (128 - k) / Y) (hr : rk = X / 2 ^ (128 - k) % Y) :
    2 * xk % two128 = X * 2 ^ (k + 1) % two128 ∧ 2 * rk + (hi xk / 9223372036854775808).toNat < two128 ∧
    (2 * rk + (hi xk / 9223372036854775808).toNat < Y → 2 * qk = X / 2 ^ (128 - (k + 1)) / Y ∧ 2 * rk + (hi xk / 9223372036854775808).toNat = X / 2 ^ (128 - (k + 1)) % Y) ∧
    (Y ≤ 2 * rk + (hi xk / 9223372036854775808).toNat → 2 * qk + 1 = X / 2 ^ (128 - (k + 1)) / Y ∧ 2 * rk + (hi xk / 9223372036854775808).toNat - Y = X / 2 ^ (128 - (k + 1)) % Y) := by
  subst hx
  rw [top_bit X k hk, next_a X k hk]
  refine ⟨next_x X k, ?_, ?_, ?_⟩
  · have h1 := next_a X k hk
    have h2 : X / 2 ^ (128 - (k + 1)) ≤ X := Nat.div_le_self _ _
    have h3 := Nat.mod_le (X / 2 ^ (128 - k)) Y
    omega
  · intro h
    have := div_less (X / 2 ^ (128 - k)) (X / 2 ^ (127 - k) % 2) Y (by omega)
    omega
  · intro h
    have := div_more (X / 2 ^ (128 - k)) (X / 2 ^ (127 - k) % 2) Y (by omega) hY (by omega)
    omega
end Go.Proofs.YtipjeihfhnilcaaDoor
end
