import Derived.Test.YtlkcjjalkdlicaaDoorMZshf
import Derived.Test.YtlkcjjalkdlicaaDoorMZrep
import Derived.Deep.RegionLaw
set_option linter.unusedVariables false
set_option linter.unusedSimpArgs false
section
/-
  The contract of spillframedraw's Cyclic: a program whose one function begins with a call. Conditions: the receiver is a list of choices; the program lies behind it; each function has 1 to 1000 instructions with small targets.
-/
namespace Go.Proofs.YtlkcjjalkdlicaaDoor
open Go.RowKit

def CycPost (g lo B n : Nat) (F : Pg) (w : World) (e : Ending) (w' : World) : Prop :=
  ∃ (A : Option Addr) (c : Nat) (hs : List Hd) (i : Nat) (j : Int) (f : Fn), e = .returned (gv A n c) ∧ F[i]? = some f ∧ 0 ≤ j ∧ j < n ∧ (∀ wx : World, (∀ p : Addr, (lo ≤ p.block ∧ p.block < B) ∨ (w.heap.size ≤ p.block ∧ p.block < w'.heap.size) → wx.cell? p = w'.cell? p) → w'.heap.size ≤ wx.heap.size → PgAt wx lo wx.heap.size A n c hs (F.set i (cycF f j))) ∧ Codes w' g ∧ w.grownBy w' (some g)

/-- What the walk keeps behind the first choice: the function's box, the argument's, the result's. -/
structure CyR (w : World) (g n : Nat) (A : Option Addr) (c : Nat) (P : Int) (As : Option Addr) (ns cs : Nat) (Ac : Option Addr) (nc cc : Nat) (wx : World) : Prop where
  box : Row wx (w.heap.size + 2) 69 [.int .i64 P, .slice As ns cs, .slice Ac nc cc]
  prm : Row wx w.heap.size 26 [.slice A n c]
  res : Row wx (w.heap.size + 1) 26 [.slice none 0 0]
  codes : Codes wx g
  grown : w.grownBy wx (some g)
  size : w.heap.size + 3 ≤ wx.heap.size
theorem CyR.step {w w3 w4 : World} {g n c ns cs nc cc : Nat} {A As Ac : Option Addr} {P : Int} {b : Option Nat} (h : CyR w g n A c P As ns cs Ac nc cc w3) (hG : w3.grownBy w4 b) (hb : ∀ k, b = some k → w.heap.size + 3 ≤ k) (hgw : g < w.heap.size) : CyR w g n A c P As ns cs Ac nc cc w4 :=
  ⟨h.box.grown hG (fun e => by have := hb _ e.symm; omega), h.prm.grown hG (fun e => by have := hb _ e.symm; omega), h.res.grown hG (fun e => by have := hb _ e.symm; omega), h.codes.kept hG (fun k hk => by have := hb k hk; omega), h.grown.andThen hG (fun k hk => .inl (by have := hb k hk; omega)), Nat.le_trans h.size hG.size⟩
theorem own_le {w : World} {base e size n c : Nat} {A : Option Addr} {xs : List Value} (h : w.ownsRow base e size (.slice A n c) n xs) : n ≤ c := by
  obtain ⟨A', c', he, _, hc, _⟩ := own_seen h
  injection he with _ _ e3
  omega
abbrev litA (j : Int) : Array Value := #[.int .i64 22, .int .i64 j, .int .i64 0, .int .i64 0, .int .u64 0]

/-- With the code stored into the function's box. -/
structure CyS (w : World) (g n : Nat) (A : Option Addr) (c : Nat) (P : Int) (As : Option Addr) (ns cs nc G c5 : Nat) (ys : List Ins) (wx : World) : Prop where
  own : wx.ownsRow (w.heap.size + 3) 65 5 (.slice (some ⟨G, 0, none⟩) (1 + nc) c5) (1 + nc) (icells ys)
  box : Row wx (w.heap.size + 2) 69 [.int .i64 P, .slice As ns cs, .slice (some ⟨G, 0, none⟩) (1 + nc) c5]
  prm : Row wx w.heap.size 26 [.slice A n c]
  res : Row wx (w.heap.size + 1) 26 [.slice none 0 0]
  codes : Codes wx g
  grown : w.grownBy wx (some g)
  size : w.heap.size + 3 ≤ wx.heap.size
theorem CyR.stored {w w5 : World} {g n c ns cs nc cc G c5 : Nat} {A As Ac : Option Addr} {P : Int} {ys : List Ins} {xs : List Value} (h : CyR w g n A c P As ns cs Ac nc cc w5) (ho : w5.ownsRow (w.heap.size + 3) 65 5 (.slice (some ⟨G, 0, none⟩) (1 + nc) c5) (1 + nc) xs) (e : xs = icells ys) (hgw : g < w.heap.size) :
    CyS w g n A c P As ns cs nc G c5 ys (w5.setCell ⟨w.heap.size + 2, 2, none⟩ (.slice (some ⟨G, 0, none⟩) (1 + nc) c5)) := by
  subst e
  exact ⟨rep_own ho (by omega) (Nat.le_refl _) 2 _, h.box.set_ 2 _, h.prm.far (p := ⟨w.heap.size + 2, 2, none⟩) (by simp) _, h.res.far (p := ⟨w.heap.size + 2, 2, none⟩) (by simp) _,
    h.codes.kept (grown_cell w5 (w.heap.size + 2) 2 _) (fun k hk => by injection hk with hk; omega), h.grown.andThen (grown_cell w5 (w.heap.size + 2) 2 _) (fun q hq => .inl (by injection hq with hq; omega)), by simpa [World.setCell] using h.size⟩
theorem cyc_end {w W6 w7 : World} {g lo B n c i ns cs nc cc G c5 L c7 : Nat} {A As Ac : Option Addr} {P j : Int} {hs : List Hd} {F : Pg} {f : Fn} (H : PgAt w lo B A n c hs F) (hBw : B ≤ w.heap.size) (hg : g < lo) (hlo : lo ≤ w.heap.size) (hf : F[i]? = some f) (hd : HdAt w lo B ⟨P, As, ns, cs, Ac, nc, cc⟩ f) (hn : n ≤ 80) (hnc : nc ≤ 1000) (h0 : 0 ≤ j) (h1 : j < n)
    (h6 : CyS w g n A c P As ns cs nc G c5 (cycF f j).code W6) (ho : w7.ownsRow W6.heap.size 69 3 (.slice (some ⟨L, 0, none⟩) n c7) n (hcells (hs.set i ⟨P, As, ns, cs, some ⟨G, 0, none⟩, 1 + nc, c5⟩))) (hb : Below W6.heap.size W6 w7) :
    CycPost g lo B n F w (.returned (gv (some ⟨L, 0, none⟩) n c7)) (w7.setCell ⟨w.heap.size + 1, 0, none⟩ (.slice (some ⟨L, 0, none⟩) n c7)) := by
  have hsz := h6.size
  have hG7 : w.grownBy w7 (some g) := h6.grown.andThen (grown_below hb none) (fun k hk => by cases hk)
  have hGf := hG7.andThen (grown_cell w7 (w.heap.size + 1) 0 (.slice (some ⟨L, 0, none⟩) n c7)) (fun q hq => .inl (by injection hq with hq; omega))
  have hCf := ((h6.codes.below hb).kept (grown_cell w7 (w.heap.size + 1) 0 (.slice (some ⟨L, 0, none⟩) n c7)) (fun k hk => by have := h6.codes.lt; have := hG7.size; injection hk with hk; omega))
  have hof := rep_own ho (b := w.heap.size + 1) (by omega) (Nat.le_refl _) 0 (.slice (some ⟨L, 0, none⟩) n c7)
  have hcf := rep_own (own_below h6.own hb) (b := w.heap.size + 1) (by omega) (Nat.le_refl _) 0 (.slice (some ⟨L, 0, none⟩) n c7)
  generalize w7.setCell ⟨w.heap.size + 1, 0, none⟩ (.slice (some ⟨L, 0, none⟩) n c7) = wf at hGf hCf hof hcf
  have hLb := (hof.lt L rfl).1
  have hGb := (hcf.lt G rfl).1
  refine ⟨some ⟨L, 0, none⟩, c7, hs.set i ⟨P, As, ns, cs, some ⟨G, 0, none⟩, 1 + nc, c5⟩, i, j, f, rfl, hf, h0, h1, fun wx hwx hsx => ?_, hCf, hGf⟩
  have hk : ∀ p : Addr, lo ≤ p.block → p.block < B → wx.cell? p = w.cell? p := fun p h1 h2 => (hwx p (.inl ⟨h1, h2⟩)).trans (World.cell?_of_block (hGf.block p.block (by omega) (fun e => by injection e with e; omega)))
  have hup : ∀ p : Addr, w.heap.size ≤ p.block → p.block < wf.heap.size → wx.cell? p = wf.cell? p := fun p h1 h2 => hwx p (.inr ⟨h1, h2⟩)
  have hGs := hGf.size
  have hdf := (hd.keep hk).more (show B ≤ wx.heap.size by omega) (Nat.le_refl lo)
  refine H.set hk (by omega) (Nat.le_refl _) ⟨(fun e => by cases e), own_le hof, by omega⟩ (fun a ha => by injection ha with ha; subst ha; simp only; omega) (((Sees.ownN hof).keepF (lo := w.heap.size) (fun a ha => by injection ha with ha; subst ha; simp only; omega) hup).more hsx) ?_
  have hl2 : f.code.length = nc := hd.l2
  exact ⟨hdf.p, hdf.l1, by show ((shC f.code).length + 1 : Nat) = 1 + nc; rw [shC_length]; omega, hdf.k1, ⟨(fun e => by cases e), own_le hcf, by simp only; omega⟩, hdf.f1, (fun a ha => by injection ha with ha; subst ha; simp only; omega), hdf.s1, ((Sees.ownN hcf).keepF (lo := w.heap.size) (fun a ha => by injection ha with ha; subst ha; simp only; omega) hup).more hsx⟩

set_option maxRecDepth 100000 in
set_option maxHeartbeats 4000000 in
theorem cyclic_any (g lo B : Nat) (A : Option Addr) (n c : Nat) (hs : List Hd) (F : Pg) (w : World) (h : Hid (Codes w g)) (H : Hid (PgAt w lo B A n c hs F)) (hBw : B ≤ w.heap.size) (hg : g < lo) (hlo : lo ≤ w.heap.size) (hn1 : 1 ≤ n) (hn80 : n ≤ 80)
    (hF : Hid (∀ f ∈ F, (1 ≤ f.code.length ∧ f.code.length ≤ 1000) ∧ ∀ x ∈ f.code, (x.op = 20 → 0 ≤ x.a ∧ x.a ≤ 1024) ∧ (x.op = 21 → 0 ≤ x.b ∧ x.b ≤ 1024))) :
    Calls Tryd.prog 26 #[.pointer (some ⟨g, 0, none⟩), gv A n c] w (CycPost g lo B n F w) := by
  obtain ⟨j0, ji, jz0, jz1, jz2⟩ := info_parts info_instr5
  have hgl := h.out.lt
  obtain ⟨W, hW, hbW, hsW, r0, r1⟩ := boxes2p w [.slice A n c] [.slice none 0 0] 26 26
  have HW := hide hW
  have HSW := hide hsW
  have HBW := hide hbW
  have R0 := hide r0
  have R1 := hide r1
  have HC := hide (h.out.below hbW)
  have HG := hide (grown_below hbW (some g))
  have HP := hide (H.out.below (hbW.mono hBw))
  have x0 := r0.cell (k := 0) rfl
  clear hW hbW hsW r0 r1
  go_enter Tryd.func26, Tryd.ntmps26
  go_upto_region 1 with (fail)
  rw [HW.out]
  clear HW
  go_wp2_with fail
  refine (next_any g (n : Int) W HC (by omega) (by omega)).mono ?_
  rintro e w1 ⟨v, rfl, v0, v1, hC1, hG1, hz1⟩
  obtain ⟨i, rfl⟩ := Int.eq_ofNat_of_zero_le v0
  have hin : i < n := by omega
  have HC1 := hide hC1
  have HG1 := hide (HG.out.trans hG1)
  have Q0 := hide (R0.out.grown hG1 (fun e => by injection e with e; omega))
  have Q1 := hide (R1.out.grown hG1 (fun e => by injection e with e; omega))
  have HZ1 := hide (show w1.heap.size = w.heap.size + 2 by have := HSW.out; omega)
  have HP1 := hide (HP.out.grown hG1 hg (by have := HSW.out; omega))
  clear x0 hC1 hG1 hz1 HC HG HP R0 R1 v0 v1
  obtain ⟨b, off, P, As, ns, cs, Ac, nc, cc, f, rfl, hb, hf, hhi, hd, p0, p1, p2⟩ := fn_at HP1.out hin
  have HF := hide hf
  have HHI := hide hhi
  have HD := hide hd
  have hlen := (hF.out f (List.mem_of_getElem? hf)).1
  rw [hd.l2] at hlen
  simp only at hlen
  have HTG := hide (hF.out f (List.mem_of_getElem? hf)).2
  have hiz : (0 : Int) ≤ (i : Int) := by omega
  have hiz' : (i : Int) < (n : Int) := by omega
  have x0 := Q0.out.cell (k := 0) rfl
  clear hf hhi hd
  go_upto_region 3 with (fail)
  obtain ⟨W2, hW2⟩ : ∃ V, w1.alloc (.cells #[.int .i64 P, .slice As ns cs, .slice Ac nc cc] 69) = V := ⟨_, rfl⟩
  have hb2 : Below w1.heap.size w1 W2 := by rw [← hW2]; exact below1 _ _
  have RF2 := hide (show Row W2 w1.heap.size 69 [.int .i64 P, .slice As ns cs, .slice Ac nc cc] by rw [← hW2]; exact Row.new w1 _ _)
  have S0 := hide (Q0.out.call hb2)
  have S1 := hide (Q1.out.call hb2)
  have HC2 := hide (HC1.out.below hb2)
  have HG2 := hide (HG1.out.andThen (grown_below hb2 none) (fun k hk => by cases hk))
  have HS2 := hide (show W2.heap.size = w.heap.size + 3 by rw [← hW2]; simp [HZ1.out])
  have HCS := True.intro
  rw [hW2]
  have e1 := HZ1.out
  rw [e1] at RF2 ⊢
  clear hW2 hb2 x0 p0 p1 p2 Q0 Q1 HC1 HG1 e1
  have x0 := S0.out.cell (k := 0) rfl
  have f2 := RF2.out.cell (k := 2) rfl
  have hn0 := HS2.out
  have R2 := hide (show CyR w g n (some ⟨b, off, none⟩) c P As ns cs Ac nc cc W2 from ⟨RF2.out, S0.out, S1.out, HC2.out, HG2.out, by omega⟩)
  have HDW := hide (H.out.hd.at_ i _ f HHI.out HF.out)
  have hsee : ∀ V, w.grownBy V (some g) → Hid (Sees V B Ac (icells f.code)) := fun V hV => hide ((HDW.out.keep fun p h1 h2 => World.cell?_of_block (hV.block p.block (by omega) (fun e => by injection e with e; omega))).s2)
  have HSEE := hide hsee
  have HCA := hide HD.out.k2.1
  have HCN := hide HD.out.k2.2.1
  have HL2 := hide (show f.code.length = nc from HD.out.l2)
  have HLS := hide (show (icells (shC f.code)).length = nc * 5 by rw [icells_length, shC_length, HL2.out])
  clear hsee RF2 S0 S1 HC2 HG2 HCS hn0
  go_region_law
    (first
      | (go_simp; go_at_call 25; refine (next_any g (n : Int) W2.drew (hide R2.out.codes.drew) (by omega) (by omega)).mono ?_; rintro e w3 ⟨j, rfl, j0', j1', hC3, hG3, hz3⟩; have hR3 : CyR w g n (some ⟨b, off, none⟩) c P As ns cs Ac nc cc w3 := ⟨R2.out.box.grown (w := W2.drew) hG3 (fun e => by injection e with e; omega), R2.out.prm.grown (w := W2.drew) hG3 (fun e => by injection e with e; omega), R2.out.res.grown (w := W2.drew) hG3 (fun e => by injection e with e; omega), hC3, (grown_draws R2.out.grown 1).trans hG3, by have := R2.out.size; have := hG3.size; simp at this; omega⟩; clear hz3; have f3 := hR3.box.cell (k := 2) rfl; have f4 := (hR3.box.alloc (.cells (litA j) 65)).cell (k := 2) rfl)
      | (go_simp; go_at_call 48; refine (shifted_any Ac nc cc f.code B w3 HCA HL2 HCN hlen.1 (by omega) (HSEE.out _ hR3.grown) HTG).mono ?_; rintro e w4 ⟨G, c', rfl, ho4, hG4⟩; have hA4 := hR3.step hG4 (fun k hk => by cases hk) hgl)
      | (go_simp; go_at_call 48; refine (shifted_any Ac nc cc f.code B (w3.alloc (.cells (litA j) 65)) HCA HL2 HCN hlen.1 (by omega) (HSEE.out _ (hR3.grown.trans (World.grownBy_alloc _ _ _))) HTG).mono ?_; rintro e w4 ⟨G, c', rfl, ho4, hG4⟩; have hB4 := (hR3.step (World.grownBy_alloc w3 (.cells (litA j) 65) none) (fun k hk => by cases hk) hgl).step hG4 (fun k hk => by cases hk) hgl)
      | (refine wp_append_seesN (.tmp 23) (.tmp 26) 66 rfl (w.heap.size + 3) 65 j0 (.agg #[.int .i64 0, .int .i64 0, .int .i64 0, .int .i64 0, .int .u64 0]) 5 40 Tryd.underlying66 ji jz0 jz1 jz2 rfl (by decide) (.slice (some ⟨w4.heap.size, 0, none⟩) 1 1) 1 [.int .i64 22, .int .i64 j, .int .i64 0, .int .i64 0, .int .u64 0] rfl (World.ownsRow_lit w4 (litA j) 1 hA4.size (by decide) rfl) w4.heap.size (some ⟨G, 0, none⟩) nc c' (icells (shC f.code)) rfl (hide (fun e => by cases e)) HLS (hide ((Sees.ownN ho4).below (below1 w4 (.cells (litA j) 65)))) (hide (own_le ho4)) (icells_oneCell _) (by unfold maxLen; omega) (by omega) (by have := hA4.size; simp; omega) ?_; intro v5 w5 ho5 hg5; obtain ⟨G5, c5, rfl, -, -, -, -⟩ := own_block ho5 (by omega); have hS := (hA4.step (World.grownBy_alloc w4 (.cells (litA j) 65) none) (fun k hk => by cases hk) hgl).step hg5 (fun k hk => by have := hA4.size; simp [Value.ownBlock] at hk; omega) hgl; have s0 := hS.box.cell (k := 2) rfl; have s1 := hS.box.free 2)
      | (refine wp_append_seesN (.tmp 23) (.tmp 26) 66 rfl (w.heap.size + 3) 65 j0 (.agg #[.int .i64 0, .int .i64 0, .int .i64 0, .int .i64 0, .int .u64 0]) 5 40 Tryd.underlying66 ji jz0 jz1 jz2 rfl (by decide) (.slice (some ⟨w3.heap.size, 0, none⟩) 1 1) 1 [.int .i64 22, .int .i64 j, .int .i64 0, .int .i64 0, .int .u64 0] rfl ((World.ownsRow_lit w3 (litA j) 1 hR3.size (by decide) rfl).kept hG4 (.inr (fun e => by cases e))) w4.heap.size (some ⟨G, 0, none⟩) nc c' (icells (shC f.code)) rfl (hide (fun e => by cases e)) HLS (hide (Sees.ownN ho4)) (hide (own_le ho4)) (icells_oneCell _) (by unfold maxLen; omega) (by omega) (by have := hB4.size; omega) ?_; intro v5 w5 ho5 hg5; obtain ⟨G5, c5, rfl, -, -, -, -⟩ := own_block ho5 (by omega); have hS := hB4.step hg5 (fun k hk => by have := hR3.size; simp [Value.ownBlock] at hk; omega) hgl; have s0 := hS.box.cell (k := 2) rfl; have s1 := hS.box.free 2))
  all_goals
    have h6 := hS.stored ho5 (show _ = icells (cycF f j).code by simp [icells, icell, cycF]) hgl
    obtain ⟨W6, hW6⟩ : ∃ V, w5.setCell ⟨w.heap.size + 2, 2, none⟩ (.slice (some ⟨G5, 0, none⟩) (1 + nc) c5) = V := ⟨_, rfl⟩
    rw [hW6] at h6
    have H6 := hide h6
    have HW6 := hide hW6
    have hsee6 := hide (H.out.see.keepF H.out.far fun p h1 h2 => World.cell?_of_block (h6.grown.block p.block (by omega) (fun e => by injection e with e; omega)))
    have hl6 := hide (show hs.length = n by rw [H.out.hd.len, H.out.len])
    have hsz6 := h6.size
    have x0 := h6.prm.cell (k := 0) rfl
    have b0 := h6.box.cell (k := 0) rfl
    have b1 := h6.box.cell (k := 1) rfl
    have b2 := h6.box.cell (k := 2) rfl
    have hout := only_any B (some ⟨b, off, none⟩) n c hs i ⟨P, As, ns, cs, some ⟨G5, 0, none⟩, 1 + nc, c5⟩ W6 (hide H.out.cap) hl6 hsee6 (by omega) hin hn80
    have J0 := hide j0'
    have J1 := hide j1'
    clear h6 hS hW6 hsee6 hl6 s0 s1 ho5 hg5 ho4 hG4 hR3 hC3 hG3 f3 f4 f2 j0' j1'
    go_wp2_with (rw [HW6.out])
    try rw [HW6.out]
    go_wp2_with fail
    refine hout.mono ?_
    rintro e w7 ⟨L, c7, rfl, ho7, hb7⟩
    have q0 := (H6.out.res.call hb7).cell (k := 0) rfl
    have qf := (H6.out.res.call hb7).free 0
    have hfin := cyc_end H.out hBw hg hlo HF.out HDW.out hn80 hlen.2 J0.out J1.out H6.out ho7 hb7
    have hcell := ((H6.out.res.call hb7).set_ 0 (.slice (some ⟨L, 0, none⟩) n c7)).cell (k := 0) rfl
    have HFIN := hide hfin
    obtain ⟨wf, hwf⟩ : ∃ wf, w7.setCell ⟨w.heap.size + 1, 0, none⟩ (.slice (some ⟨L, 0, none⟩) n c7) = wf := ⟨_, rfl⟩
    rw [hwf] at hcell HFIN
    have HWF := hide hwf
    clear hfin hwf ho7 hb7 x0 b0 b1 b2
    go_wp2_with fail
    try rw [HWF.out]
    exact bodyPost_ret (v := gv (some ⟨L, 0, none⟩) n c7) (by simp [results, Tryd.results26, go_sem, hcell]) rfl HFIN.out
end Go.Proofs.YtlkcjjalkdlicaaDoor
end
