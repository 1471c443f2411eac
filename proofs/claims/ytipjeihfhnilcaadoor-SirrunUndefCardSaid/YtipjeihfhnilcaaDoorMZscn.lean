import Derived.Test.YtipjeihfhnilcaaDoorMBoxes
import Derived.Test.YtipjeihfhnilcaaDoorMZinp
import Derived.Test.YtipjeihfhnilcaaDoorMVbits
import Derived.Test.YtipjeihfhnilcaaDoorMZstr
import Derived.Test.YtipjeihfhnilcaaDoorMKit
import Derived.Test.YtipjeihfhnilcaaDoorMEpw
import Derived.Test.YtipjeihfhnilcaaDoorMDraw
import Derived.Laws.Tables
import Derived.Laws.Cells
import Derived.Maps.Own
import Derived.Maps.Views
set_option linter.unusedVariables false
set_option linter.unusedSimpArgs false
section
/-
  The contract of spillframelaw08.scene: a right program, numbers, fuel. Conditions: those of the types.
-/
namespace Go.Proofs.YtipjeihfhnilcaaDoor
open Go.RowKit

theorem right_targets {F : Pg} (h : pgE F = 0) : ∀ f ∈ F, ∀ x ∈ f.code, (x.op = 20 → 0 ≤ x.a ∧ x.a ≤ 1024) ∧ (x.op = 21 → 0 ≤ x.b ∧ x.b ≤ 1024) := by
  intro f hf x hx
  have h1 := fnE_zero.1 ((pgE_zero.1 h).2.2 f hf)
  have h2 := insE_zero.1 (h1.2.2.2.1 x hx)
  have hl := h1.1
  refine ⟨fun ho => ?_, fun ho => ?_⟩
  · have h3 := h2.2.1
    rw [ho] at h3
    have h4 := withB_true.1 (opndE_zero.1 (show opndE F.length f 6 x.a = 0 from h3))
    have : cntV F.length f 6 = f.code.length := rfl
    omega
  · have h3 := h2.2.2.1
    rw [ho] at h3
    have h4 := withB_true.1 (opndE_zero.1 (show opndE F.length f 6 x.b = 0 from h3))
    have : cntV F.length f 6 = f.code.length := rfl
    omega
theorem cyc_imm {F : Pg} {i : Nat} {f : Fn} {j : Int} (h : ImmF F) (hf : F[i]? = some f) : ImmF (F.set i (cycF f j)) := by
  intro g hg x hx
  rcases List.mem_or_eq_of_mem_set hg with hg | rfl
  · exact h g hg x hx
  · rcases List.mem_cons.1 hx with rfl | hx
    · exact ⟨Int.le_refl _, show (0 : Int) ≤ 18446744073709551615 by decide⟩
    · obtain ⟨y, hy, rfl⟩ := List.mem_map.1 hx
      exact h f (List.mem_of_getElem? hf) y hy
def ScnPost (w : World) (e : Ending) (w' : World) : Prop :=
  ∃ (A : Option Addr) (n c : Nat) (hs : List Hd) (F : Pg) (Ai : Option Addr) (ni ci : Nat) (inp : List Nat) (fu : Int) (lo g : Nat), e = .returned (.tuple #[gv A n c, .slice Ai ni ci, .int .i64 fu, .pointer (some ⟨g, 0, none⟩)]) ∧
    PgAt w' lo w'.heap.size A n c hs F ∧ pgE F = 0 ∧ ImmF F ∧ InAt w' w'.heap.size (.slice Ai ni ci) inp ∧ (∀ v ∈ inp, v < 18446744073709551616) ∧ (0 ≤ fu ∧ fu < 256) ∧ Below w.heap.size w w'
/-- What stands in front of the last line. -/
structure ScR (w W1 : World) (g lo gt : Nat) (A : Option Addr) (n c : Nat) (hs : List Hd) (F : Pg) (wx : World) : Prop where
  box : Row wx gt 26 [.slice A n c]
  res : Row wx w.heap.size 26 [.slice none 0 0]
  pg : ∀ wy : World, (∀ p : Addr, lo ≤ p.block → p.block ≠ gt → p.block < wx.heap.size → wy.cell? p = wx.cell? p) → wx.heap.size ≤ wy.heap.size → PgAt wy lo wy.heap.size A n c hs F
  err : pgE F = 0
  imm : ImmF F
  codes : Codes wx g
  grown : W1.grownBy wx (some g)
theorem ScR.step {w W1 wx wy : World} {g lo gt n c : Nat} {A : Option Addr} {hs : List Hd} {F : Pg} (h : ScR w W1 g lo gt A n c hs F wx) (hG : wx.grownBy wy (some g)) (hC : Codes wy g) (h1 : gt ≠ g) (h2 : w.heap.size ≠ g) (h3 : g < lo) : ScR w W1 g lo gt A n c hs F wy :=
  ⟨h.box.grown hG (fun e => h1 (by injection e)), h.res.grown hG (fun e => h2 (by injection e)), (fun wz hz hs => h.pg wz (fun p p1 p2 p3 => (hz p p1 p2 (Nat.lt_of_lt_of_le p3 hG.size)).trans (World.cell?_of_block (hG.block p.block p3 (fun e => by injection e with e; omega)))) (Nat.le_trans hG.size hs)), h.err, h.imm, hC, h.grown.trans hG⟩

theorem own_away {w w' : World} {base e size n g : Nat} {v : Value} {xs : List Value} (h : w.ownsRow base e size v n xs) (hg : g < base) (hG : w.grownBy w' (some g)) : w'.ownsRow base e size v n xs := h.kept hG (by
  rcases e : v.ownBlock with _ | q
  · exact .inl rfl
  · exact .inr (fun h' => by have := (h.lt q e).1; injection h' with h'; omega))
theorem scn_end {w W1 w4 : World} {g lo gt n c base ni ci : Nat} {A Ai : Option Addr} {hs : List Hd} {F : Pg} {inp : List Nat} {fu : Int} (h : ScR w W1 g lo gt A n c hs F w4) (hB : Below w.heap.size w W1) (hwg : w.heap.size < g) (hg : g < lo) (ho : w4.ownsRow base 31 1 (.slice Ai ni ci) ni (ucells inp)) (hb : w.heap.size < base) (hl : inp.length = ni) (hA : Ai = none → ci = 0) (hv : ∀ v ∈ inp, v < 18446744073709551616) (f0 : 0 ≤ fu) (f1 : fu < 256) :
    ScnPost w (.returned (.tuple #[gv A n c, .slice Ai ni ci, .int .i64 fu, .pointer (some ⟨g, 0, none⟩)])) (w4.setCell ⟨w.heap.size, 0, none⟩ (.slice A n c)) := by
  have hb4 : Below w.heap.size w w4 := below_grown hB h.grown (by omega) hB.size
  have ho2 := own_away ho hb (grown_cell w4 w.heap.size 0 (.slice A n c))
  refine ⟨A, n, c, hs, F, Ai, ni, ci, inp, fu, lo, g, rfl, h.pg _ (fun p p1 _ _ => World.cell?_setCell_other _ _ _ _ (fun e => by subst e; simp at p1; omega)) (by simp [World.setCell]), h.err, h.imm, ⟨Ai, ni, ci, rfl, hl, own_le ho, own_cap ho, hA, Sees.ownN ho2⟩, hv, ⟨f0, f1⟩, hb4.setCell (p := ⟨w.heap.size, 0, none⟩) (by simp) _⟩

set_option maxRecDepth 100000 in
set_option maxHeartbeats 4000000 in
theorem scene_any (A0 : Option Addr) (n0 c0 : Nat) (zs : List Int) (w : World)
    (hA : Hid (A0 = none → c0 = 0)) (hn : Hid (zs.length = n0)) (hnc : n0 ≤ c0) (hm : n0 ≤ 9223372036854775807) (hs : Hid (Sees w w.heap.size A0 (cellsU8 zs))) (hz : Hid (∀ z ∈ zs, 0 ≤ z ∧ z ≤ 255)) :
    Calls Tryd.prog 9 #[.slice A0 n0 c0] w (ScnPost w) := by
  obtain ⟨W0, hW0⟩ : ∃ V, w.alloc (.cells #[.slice none 0 0] 26) = V := ⟨_, rfl⟩
  have HW0 := hide hW0
  have HB0 := hide (show Below w.heap.size w W0 by rw [← hW0]; exact below1 _ _)
  have HR0 := hide (show Row W0 w.heap.size 26 [.slice none 0 0] by rw [← hW0]; exact Row.new w _ _)
  have hs0 : W0.heap.size = w.heap.size + 1 := by rw [← hW0]; simp
  have HS0 := hide hs0
  clear hW0 hs0
  go_enter Tryd.func9, Tryd.ntmps9
  go_upto_region 1 with (fail)
  rw [HW0.out]
  clear HW0
  go_wp2_with fail
  refine (new_any A0 n0 c0 zs 300 W0 hA hn hnc hm (by omega) (hide ((hs.out.below HB0.out).more HB0.out.size)) hz).mono ?_
  rintro e W1 ⟨rfl, hC1, hb1⟩
  obtain ⟨g, hg⟩ : ∃ g, W0.heap.size = g := ⟨_, rfl⟩
  have HB1 := hide (below_call HB0.out hb1)
  have HR1 := hide (HR0.out.call hb1)
  rw [hg] at hC1 ⊢
  have HC1 := hide hC1
  have hgw : g = w.heap.size + 1 := by have := HS0.out; omega
  have HGW := hide hgw
  have hg1 := hC1.lt
  have hwg : w.heap.size < g := by omega
  clear hC1 hb1 hg hgw hs hz hA hn HB0 HR0 HS0
  go_upto_region 3 with (go_at_call 18; refine (prog_any g 4 12 W1 HC1 (by omega) (by omega) (by omega)).mono ?_; rintro e W2 ⟨A, n, c, hs, F, rfl, hpg, hgd, hC2, hG2⟩)
  obtain ⟨W3, hW3⟩ : ∃ V, W2.alloc (.cells #[.slice A n c] 26) = V := ⟨_, rfl⟩
  have hb3 : Below W2.heap.size W2 W3 := by rw [← hW3]; exact below1 _ _
  have hR3 : ScR w W1 g W1.heap.size W2.heap.size A n c hs F W3 := ⟨by rw [← hW3]; exact Row.new W2 _ _, (HR1.out.grown hG2 (fun e => by injection e with e; omega)).call hb3, (fun wy hy hs => (hpg.keep (fun p p1 p2 => (hy p p1 (by omega) (Nat.lt_of_lt_of_le p2 hb3.size)).trans (hb3.cell p2))).more (Nat.le_trans hb3.size hs) (Nat.le_refl _)), hgd.err, fun f hf x hx => by
    obtain ⟨k, hk, rfl⟩ := List.mem_iff_getElem.1 hf
    exact (hgd.fn k _ (List.getElem?_eq_getElem hk)).1.imm x hx, hC2.below hb3, hG2.andThen (grown_below hb3 none) (fun k hk => by cases hk)⟩
  have HN := hide (show 1 ≤ n ∧ n ≤ 80 by have h1 := hgd.one; have h2 := hgd.few; have h3 := hpg.len; omega)
  have HSH := hide (show ∀ f ∈ F, 1 ≤ f.code.length ∧ f.code.length ≤ 1000 from fun f hf => by
    obtain ⟨k, hk, rfl⟩ := List.mem_iff_getElem.1 hf
    have h1 := (hgd.fn k _ (List.getElem?_eq_getElem hk)).1
    exact ⟨h1.some, Nat.le_trans h1.short (by omega)⟩)
  have HR3 := hide hR3
  have hpg0 := hpg
  have hk3 : ∀ p : Addr, p.block < W2.heap.size → W3.cell? p = W2.cell? p := fun p hp => hb3.cell hp
  have HK3 := hide hk3
  have hgt : W1.heap.size ≤ W2.heap.size := hG2.size
  rw [hW3]
  obtain ⟨gt, hgt'⟩ : ∃ q, W2.heap.size = q := ⟨_, rfl⟩
  rw [hgt'] at HR3 hgt HK3 hpg0 ⊢
  obtain ⟨lo, hlo⟩ : ∃ q, W1.heap.size = q := ⟨_, rfl⟩
  rw [hlo] at HR3 hgt hg1 hpg0
  have hgtn : gt ≠ g := by omega
  have hwgn : w.heap.size ≠ g := by omega
  clear hW3 hb3 hR3 hpg hgd hC2 hG2 hgt' HR1 HC1 hk3
  have HB := hide (show ∀ W5 : World, Below W2.heap.size W2 W5 → True from fun _ _ => trivial)
  have HPG2 := hide hpg0
  clear HB
  go_wp2_with fail
  refine (next_any g 6 W3 (hide HR3.out.codes) (by omega) (by omega)).mono ?_
  rintro e W4 ⟨v, rfl, v0, v1, hC4, hG4, hz4⟩
  have HR4 := hide (HR3.out.step hG4 hC4 hgtn hwgn hg1)
  have hlo4 := hide (show lo ≤ W4.heap.size ∧ gt < W4.heap.size by have h1 := HR4.out.grown.size; have h2 := HR4.out.box.lt; omega)
  have b0 := HR4.out.box.cell (k := 0) rfl
  have HP4 := hide (show PgAt W4 lo gt A n c hs F from HPG2.out.keep fun p h1 h2 => (World.cell?_of_block (hG4.block p.block (by have := HR3.out.box.lt; omega) (fun e => by injection e with e; omega))).trans (HK3.out p h2))
  clear hC4 hG4 hz4 HR3 HPG2 HK3
  by_cases h5 : v = 5
  case' pos =>
    subst h5
    have cc := cyclic_any g lo gt A n c hs F W4 (hide HR4.out.codes) HP4 (by have := hlo4.out; omega) hg1 (by have := hlo4.out; omega) HN.out.1 HN.out.2 (hide fun f hf => ⟨HSH.out f hf, right_targets HR4.out.err f hf⟩)
    go_wp2_with fail
    refine cc.mono ?_
    rintro e W5 ⟨A2, c2, hs2, i, j, f, rfl, hfi, hj0, hj1, hpg, hC5, hG5⟩
    have hbox := HR4.out.box.grown hG5 (fun e => hgtn (by injection e))
    have hres := HR4.out.res.grown hG5 (fun e => hwgn (by injection e))
    have q0 := hbox.cell (k := 0) rfl
    have qf := hbox.free 0
    have hfl := HSH.out f (List.mem_of_getElem? hfi)
    obtain ⟨F2, hF2⟩ : ∃ F2, F.set i (cycF f j) = F2 := ⟨_, rfl⟩
    obtain ⟨WX, hWX⟩ : ∃ V, W5.setCell ⟨gt, 0, none⟩ (.slice A2 n c2) = V := ⟨_, rfl⟩
    have hl4 := hlo4.out
    have HRX := hide (show ScR w W1 g lo gt A2 n c2 hs2 F2 WX from by
      rw [← hWX, ← hF2]
      refine ⟨hbox.set_ 0 _, hres.far (p := ⟨gt, 0, none⟩) (by simp; omega) _, fun wy hy hs => hpg wy (fun p hp => ?_) (by simpa [World.setCell] using hs), cyc_pg HR4.out.err hfi (by omega) hj0 (by rw [HP4.out.len]; exact hj1), cyc_imm HR4.out.imm hfi, hC5.kept (grown_cell W5 gt 0 _) (fun k hk => by injection hk with hk; omega), (HR4.out.grown.trans hG5).andThen (grown_cell W5 gt 0 _) (fun q hq => .inl (by injection hq with hq; omega))⟩
      have h5s := hG5.size
      rcases hp with ⟨p1, p2⟩ | ⟨p1, p2⟩
      · exact (hy p p1 (by omega) (by simp [World.setCell]; omega)).trans (World.cell?_setCell_other _ _ _ _ (fun e => by subst e; simp at p2))
      · exact (hy p (by omega) (by omega) (by simpa [World.setCell] using p2)).trans (World.cell?_setCell_other _ _ _ _ (fun e => by subst e; simp at p1; omega)))
    have HWX := hide hWX
    clear hbox hres hpg hC5 hG5 cc b0 hWX hF2
    go_upto_region 5 with (fail)
    try rw [HWX.out]
  case' neg =>
    have b5 : (v == 5) = false := by simpa using h5
    clear h5
    obtain ⟨A2, hA2⟩ : ∃ x, A = x := ⟨_, rfl⟩
    obtain ⟨c2, hc2⟩ : ∃ x, c = x := ⟨_, rfl⟩
    obtain ⟨hs2, hhs2⟩ : ∃ x, hs = x := ⟨_, rfl⟩
    obtain ⟨F2, hF2⟩ : ∃ x, F = x := ⟨_, rfl⟩
    go_upto_region 5 with (fail)
    obtain ⟨WX, hWX⟩ : ∃ x, W4 = x := ⟨_, rfl⟩
    have HRX := HR4
    rw [hA2, hc2, hhs2, hF2, hWX] at HRX
    rw [hWX]
  all_goals
    clear HR4 HP4 HN HSH
    have b0 := HRX.out.box.cell (k := 0) rfl
    have hsx := hide (show lo ≤ WX.heap.size by have := HRX.out.grown.size; omega)
    go_region_law
      (first
        | (go_simp; go_at_call 21; refine (input_any g WX.drew (hide HRX.out.codes.drew)).mono ?_; rintro e w3 ⟨Ai, ni, ci, inp, rfl, hil, hin3, hAi, hio, hiv, hC3, hG3⟩; have hR3 := HRX.out.step (show WX.grownBy w3 (some g) from (grown_draws (World.grownBy.refl WX (some g)) 1).trans hG3) hC3 hgtn hwgn hg1; have b3 := hR3.box.cell (k := 0) rfl)
        | (go_simp; go_at_call 19; refine (next_any g 256 w3 (hide hC3) (by omega) (by omega)).mono ?_; rintro e w4 ⟨fu, rfl, f0, f1, hC4, hG4, hz4⟩; clear hz4; have hR4 := hR3.step hG4 hC4 hgtn hwgn hg1; have hio4 := own_away hio (show g < WX.heap.size by have := hsx.out; omega) hG4; have b4 := hR4.box.cell (k := 0) rfl; have r4 := hR4.res.cell (k := 0) rfl; have rf := hR4.res.free 0))
    all_goals
      have hfin := scn_end hR4 HB1.out hwg hg1 hio4 (show w.heap.size < WX.heap.size by have := hsx.out; omega) hil hAi hiv f0 f1
      have hcell := (hR4.res.set_ 0 (.slice A2 n c2)).cell (k := 0) rfl
      have HFIN := hide hfin
      obtain ⟨wf, hwf⟩ : ∃ wf, w4.setCell ⟨w.heap.size, 0, none⟩ (.slice A2 n c2) = wf := ⟨_, rfl⟩
      rw [hwf] at hcell HFIN
      have HWF := hide hwf
      clear hfin hwf
      go_wp2_with fail
      try rw [HWF.out]
      exact bodyPost_ret (v := .tuple #[gv A2 n c2, .slice Ai ni ci, .int .i64 fu, .pointer (some ⟨g, 0, none⟩)]) (by simp [results, Tryd.results9, go_sem, hcell]) rfl HFIN.out
end Go.Proofs.YtipjeihfhnilcaaDoor
end

section
/-
  Structs loaded and stored whole; a function whose first result lies in a cell, and whose second is a slot: what it returns. No function of the program is named here.
-/
namespace Go.Proofs.YtipjeihfhnilcaaDoor
open Go.RowKit

section
variable {w : World} {g t T : Nat} {cs vs : List Value}
theorem set_row_row (h : Row w g t cs) : Row (w.setRow g vs.toArray) g t vs := setRow_heap w g _ _ t _ h
theorem set_row_grown (w : World) (g : Nat) (c : Array Value) : w.grownBy (w.setRow g c) (some g) := ⟨rfl, rfl, rfl, by simp [World.setRow], fun i _ hi => by
  have : g ≠ i := fun e => hi (by rw [e])
  simp [World.setRow, Array.getElem?_modify, this]⟩
theorem load_run {n o : Nat} (ha : (isAgg T).run Tryd.prog w = .ok true w) (hs : (sizeOf T).run Tryd.prog w = .ok n w) (hl : cs.length = n) (hc : ∀ j v, cs[j]? = some v → w.cell? ⟨g, o + j, none⟩ = some v) : (Instr.loadAt T (.pointer (some ⟨g, o, none⟩))).run Tryd.prog w = .ok (.agg cs.toArray) w := by
  subst hl
  have hq := run_loadCells_list (P := Tryd.prog) w ⟨g, o, none⟩ cs (fun j v hj => by
    rw [show (⟨g, o, none⟩ : Addr).add j = ⟨g, o + j, none⟩ by unfold Addr.add; split <;> simp_all]
    exact hc j v hj)
  simp only [Instr.loadAt, Instr.sureAddr, loadVar, Sem.run_bind, Sem.run_pure, Result.andThen, ha, hs, hq, if_true]
theorem load_row {n : Nat} (ha : (isAgg T).run Tryd.prog w = .ok true w) (hs : (sizeOf T).run Tryd.prog w = .ok n w) (hl : cs.length = n) (h : Row w g t cs) : (Instr.loadAt T (.pointer (some ⟨g, 0, none⟩))).run Tryd.prog w = .ok (.agg cs.toArray) w :=
  load_run ha hs hl (fun j v hj => by rw [Nat.zero_add]; exact h.cell hj)
theorem store_row {n : Nat} (hs : (sizeOf T).run Tryd.prog w = .ok n w) (hl : vs.length = n) (hl2 : cs.length = n) (h1 : ∀ v ∈ vs, v.oneCell' = true) (h : Row w g t cs) : (Instr.storeAt T (.pointer (some ⟨g, 0, none⟩)) (.agg vs.toArray)).run Tryd.prog w = .ok () (w.setRow g vs.toArray) := by
  subst hl
  have hq := run_storeCells_from (P := Tryd.prog) g t vs 0 cs.toArray w h (by simp [hl2]) h1
  simp only [List.take_zero, List.nil_append] at hq
  simp only [Instr.storeAt, Instr.sureAddr, storeVar, Sem.run_bind, Sem.run_pure, Result.andThen, hs]
  simp [Value.cells, hq]
end
theorem wpList_load_whole {P : Program} {w : World} {ops : Array Oper} {rest : List Oper} {o : Oper} {a : Act} {Q : Exit → Act → World → Prop} (t : TypeId) (x : Operand) (hop : o.op = .load t x) (hg : o.guard = none) (c : Array Value) (p : Value) (hp : a.eval x = p)
    (hrun : (Instr.loadAt t p).run P w = .ok (.agg c) w) (hK : wpList P ops Q rest (a.put o.dst (.agg c)) w) : wpList P ops Q (o :: rest) a w := by
  refine wpList_plain hg fun K' hK' => ?_
  unfold Oper.wp
  simp only [hop, hp, execOp, Sem.run_bind, hrun, Result.andThen, Sem.run_pure]
  exact hK' _ _ hK
theorem wpList_store_whole {P : Program} {w w' : World} {ops : Array Oper} {rest : List Oper} {o : Oper} {a : Act} {Q : Exit → Act → World → Prop} (t : TypeId) (x y : Operand) (hop : o.op = .store t x y) (hg : o.guard = none) (p v : Value) (hp : a.eval x = p) (hv : a.eval y = v)
    (hrun : (Instr.storeAt t p v).run P w = .ok () w') (hK : wpList P ops Q rest (a.put o.dst undef) w') : wpList P ops Q (o :: rest) a w := by
  refine wpList_plain hg fun K' hK' => ?_
  unfold Oper.wp
  simp only [hop, hp, hv, execOp, Sem.run_bind, hrun, Result.andThen, Sem.run_pure]
  exact hK' _ _ hK
theorem results_cell_tmp {fn : Func} {t u : Tmp} {T : TypeId} (h : fn.results = #[.cell t T, .tmp u]) (tmps : Array Value) (w : World) (g o : Nat) (v : Value) (ht : tmps.getD t undef = .pointer (some ⟨g, o, none⟩)) (hl : (Instr.loadAt T (.pointer (some ⟨g, o, none⟩))).run Tryd.prog w = .ok v w) :
    (results fn tmps).run Tryd.prog w = .ok (.tuple #[v, tmps.getD u undef]) w := by
  have hl2 : (loadVar T ⟨g, o, none⟩).run Tryd.prog w = .ok v w := by
    rw [← hl]
    simp [Instr.loadAt, Instr.sureAddr]
  have ht3 : tmps[t]?.getD undef = .pointer (some ⟨g, o, none⟩) := by rw [← ht]; simp
  have hm : (results fn tmps).run Tryd.prog w = ((loadVar T ⟨g, o, none⟩).run Tryd.prog w).andThen fun v w => .ok (.tuple #[v, tmps.getD u undef]) w := by
    simp [results, h, ht3, asAddr]
  rw [hm, hl2]
  rfl
end Go.Proofs.YtipjeihfhnilcaaDoor
end

section
/-
  An outcome's type: a struct of six cells.
-/
namespace Go.Proofs.YtipjeihfhnilcaaDoor
open Go.RowKit

section
variable {w : World}
theorem agg_outcome : (isAgg 36).run Tryd.prog w = .ok true w := by kernel_rfl
theorem size_outcome : (sizeOf 36).run Tryd.prog w = .ok 6 w := by kernel_rfl
end
end Go.Proofs.YtipjeihfhnilcaaDoor
end

section
/-
  A machine of the source language in memory (chapter 8): its block, its stack, its maps; what each store makes of it. No function of the program is named here.
-/
namespace Go.Proofs.YtipjeihfhnilcaaDoor
open Go.RowKit
open Go.ChangeMaps Go.MapKept
open Go.WideElems (Fit)
open Go.Maps (Keyed)

/-! ### Maps of values -/
/-- How a value of 128 bits reads. -/
def valR (v : Value) : Option (DataW Unit × List MemPlace) := match v with
  | .agg cs => match cs.toList with
    | [.int .u64 a, .int .u64 b] => some (.agg [.lit (.int .u64 a), .lit (.int .u64 b)], [])
    | _ => none
  | _ => none
def valD (V : Nat) : DataW Unit := .agg [.lit (.int .u64 (lo V)), .lit (.int .u64 (hi V))]
theorem valR_vv (V : Nat) : valR (vv V) = some (valD V, []) := rfl
theorem valR_inv {v : Value} {V : Nat} {ps : List MemPlace} (h : valR v = some (valD V, ps)) : v = vv V := by
  unfold valR at h
  split at h
  · rename_i cs
    split at h
    · rename_i a b hcs
      injection h with h
      injection h with h1 h2
      unfold valD at h1
      injection h1 with h1
      injection h1 with h3 h4
      injection h4 with h4 h5
      injection h3 with h3
      injection h4 with h4
      injection h3 with h6 h7
      injection h4 with h8 h9
      subst h7 h9
      have : cs = #[.int .u64 (lo V), .int .u64 (hi V)] := by
        apply Array.toList_inj.1
        exact hcs
      rw [this]
    · cases h
  · cases h
theorem Tryd.keyed_int : Keyed Tryd.prog 3 := Go.Maps.int_keyed Tryd.underlying3
/-- Block b is a map that holds just what m says, of at most K entries. -/
def CellsAt (w : World) (b K : Nat) (m : Cl) : Prop :=
  ∃ D : DataW Unit, w.ownsMap Tryd.prog 3 valR b K D ∧ ∀ (i : Int) (zd : DataW Unit), D.atKey (.int .i64 i) zd = match m i with | none => zd | some V => valD V
section
variable {w w' : World} {b K : Nat} {m : Cl}
theorem CellsAt.lt (h : CellsAt w b K m) : b < w.heap.size := by obtain ⟨D, h1, _⟩ := h; exact h1.lt
theorem CellsAt.mono (h : CellsAt w b K m) {K' : Nat} (hK : K ≤ K') : CellsAt w b K' m := by obtain ⟨D, h1, h2⟩ := h; exact ⟨D, h1.mono hK, h2⟩
theorem CellsAt.kept {row : Option Nat} (h : CellsAt w b K m) (hg : w.grownBy w' row) (hne : some b ≠ row) : CellsAt w' b K m := by obtain ⟨D, h1, h2⟩ := h; exact ⟨D, h1.kept hg hne, h2⟩
theorem CellsAt.below {B : Nat} (h : CellsAt w b K m) (hb : Below B w w') (hB : b < B) : CellsAt w' b K m := by
  obtain ⟨D, ⟨es, clock, h1, h3⟩, h2⟩ := h
  exact ⟨D, ⟨es, clock, (hb.block b hB).trans h1, h3⟩, h2⟩
theorem CellsAt.drewN (h : CellsAt w b K m) (n : Nat) : CellsAt (w.drewN n) b K m := h
theorem CellsAt.setCell (h : CellsAt w b K m) (p : Addr) (hp : b ≠ p.block) (u : Value) : CellsAt (w.setCell p u) b K m := by
  obtain ⟨D, ⟨es, clock, h1, h3⟩, h2⟩ := h
  exact ⟨D, ⟨es, clock, (Below.heap_setCell w p u b hp).trans h1, h3⟩, h2⟩
theorem CellsAt.new (w : World) : CellsAt (w.alloc (.map #[] 0)) w.heap.size 0 noC :=
  ⟨_, World.ownsMap_made w Tryd.prog 3 valR, fun _ _ => rfl⟩
/-- A map is no row. -/
theorem CellsAt.not_row (h : CellsAt w b K m) {g : Nat} {cs : Array Value} {t : TypeId} {fr : Nat × Nat} (hg : w.heap[g]? = some (.cells cs t fr)) : b ≠ g := by
  obtain ⟨D, ⟨es, clock, h1, _⟩, _⟩ := h
  rintro rfl
  rw [h1] at hg
  cases hg
theorem key_int {i : Int} (hi : -9223372036854775808 ≤ i ∧ i ≤ 9223372036854775807) : keyOf Tryd.prog 3 (.int .i64 i) = some (.int .i64 i) := by
  have hw : (Lit.int .i64 i).wf = true := by
    show (decide (IntKind.i64.min ≤ i) && decide (i ≤ IntKind.i64.max)) = true
    rw [decide_eq_true (show IntKind.i64.min ≤ i from hi.1), decide_eq_true (show i ≤ IntKind.i64.max from hi.2)]
    rfl
  simp [keyOf, mapKey, Tryd.underlying3, hw]
theorem zeroV (w : World) : (zeroValue 33).run Tryd.prog w = .ok (vv 0) w := by kernel_rfl
/-- 'v, ok := m[i]'. -/
theorem CellsAt.look (h : CellsAt w b K m) (i : Int) (hi : -9223372036854775808 ≤ i ∧ i ≤ 9223372036854775807) :
    (Instr.lookup 86 (.map (some b)) (.int .i64 i) true).run Tryd.prog w = .ok (.tuple #[vv ((m i).getD 0), .bool (m i).isSome]) w := by
  obtain ⟨D, ⟨es, clock, hb, F, _, rfl⟩, h2⟩ := h
  have hkey := key_int hi
  have hat := h2 i
  rcases Maps.fit_look true Tryd.keyed_int Tryd.underlying86 (zeroV w) hb F hkey with ⟨hrun, _, h3⟩ | ⟨e0, y, _, _, hrun, hRv, h3, _⟩
  · cases hm : m i with
    | none => exact hrun
    | some V =>
      rw [hm] at hat
      have e1 := (h3 .nil).symm.trans (hat .nil)
      unfold valD at e1
      cases e1
  · cases hm : m i with
    | none =>
      rw [hm] at hat
      have e1 := (h3 .nil).symm.trans (hat .nil)
      have e2 := (h3 (.agg [])).symm.trans (hat (.agg []))
      rw [e1] at e2
      cases e2
    | some V =>
      rw [hm] at hat
      have e1 := (h3 .nil).symm.trans (hat .nil)
      obtain ⟨y1, y2⟩ := y
      dsimp only at e1
      subst e1
      rw [hrun, valR_inv hRv]
      rfl
/-- 'm[i] = v'. -/
theorem CellsAt.store (h : CellsAt w b K m) (i : Int) (hi : -9223372036854775808 ≤ i ∧ i ≤ 9223372036854775807) (V : Nat) (hK : K < maxLen) :
    ∃ w', (Instr.mapUpdate 86 (.map (some b)) (.int .i64 i) (vv V)).run Tryd.prog w = .ok () w' ∧ CellsAt w' b (K + 1) (updC m i V) ∧ w.grownBy w' (some b) := by
  obtain ⟨D, h1, h2⟩ := h
  have hkey := key_int hi
  have hM : Go.Maps.IsMap D := by rcases h1 with ⟨es, clock, _, _, _, e⟩; exact ⟨_, e⟩
  obtain ⟨w', hrun, ho, hg⟩ := h1.update Tryd.keyed_int Tryd.underlying86 hK hkey (valR_vv V)
  refine ⟨w', hrun, ⟨_, ho, fun j zd => ?_⟩, hg⟩
  unfold updC
  by_cases hj : j = i
  · subst hj
    rw [if_pos rfl, Go.Maps.atKey_put_same hM (show WideAt.IsKeyLit (.int .i64 j) from trivial)]
  · rw [if_neg hj, Go.Maps.atKey_put_other (fun e => hj (by injection e))]
    exact h2 j zd
end
end Go.Proofs.YtipjeihfhnilcaaDoor
end
