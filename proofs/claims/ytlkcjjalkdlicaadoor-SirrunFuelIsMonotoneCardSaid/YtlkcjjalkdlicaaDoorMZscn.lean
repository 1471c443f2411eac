import Derived.Test.YtlkcjjalkdlicaaDoorMZcyc
import Derived.Test.YtlkcjjalkdlicaaDoorMZmem
import Derived.Test.YtlkcjjalkdlicaaDoorMDprog
import Derived.Test.YtlkcjjalkdlicaaDoorMZvld
set_option linter.unusedVariables false
set_option linter.unusedSimpArgs false
section
/-
  The contract of spillframelaw08.scene: a right program, numbers, fuel. Conditions: those of the types.
-/
namespace Go.Proofs.YtlkcjjalkdlicaaDoor
open Go.RowKit

theorem right_targets {F : Pg} (h : pgE F = 0) : ∀ f ∈ F, ∀ x ∈ f.code, (x.op = 20 → 0 ≤ x.a ∧ x.a ≤ 1024) ∧ (x.op = 21 → 0 ≤ x.b ∧ x.b ≤ 1024) := by
  intro f hf x hx
  have h1 := fnE_zero.1 ((pgE_zero.1 h).2.2 f hf)
  have h2 := insE_zero.1 (h1.2.2.2.1 x hx)
  have hl := h1.1
  refine ⟨fun ho => ?_, fun ho => ?_⟩
  · have h3 := h2.2.1
    rw [ho] at h3
    have h4 := withB_true.1 (opndE_zero.1 (show opndE F.length f 6 x.a = 0 from h3))
    have : cntV F.length f 6 = f.code.length := rfl
    omega
  · have h3 := h2.2.2.1
    rw [ho] at h3
    have h4 := withB_true.1 (opndE_zero.1 (show opndE F.length f 6 x.b = 0 from h3))
    have : cntV F.length f 6 = f.code.length := rfl
    omega
theorem cyc_imm {F : Pg} {i : Nat} {f : Fn} {j : Int} (h : ImmF F) (hf : F[i]? = some f) : ImmF (F.set i (cycF f j)) := by
  intro g hg x hx
  rcases List.mem_or_eq_of_mem_set hg with hg | rfl
  · exact h g hg x hx
  · rcases List.mem_cons.1 hx with rfl | hx
    · exact ⟨Int.le_refl _, show (0 : Int) ≤ 18446744073709551615 by decide⟩
    · obtain ⟨y, hy, rfl⟩ := List.mem_map.1 hx
      exact h f (List.mem_of_getElem? hf) y hy
def ScnPost (w : World) (e : Ending) (w' : World) : Prop :=
  ∃ (A : Option Addr) (n c : Nat) (hs : List Hd) (F : Pg) (Ai : Option Addr) (ni ci : Nat) (inp : List Nat) (fu : Int) (lo g : Nat), e = .returned (.tuple #[gv A n c, .slice Ai ni ci, .int .i64 fu, .pointer (some ⟨g, 0, none⟩)]) ∧
    PgAt w' lo w'.heap.size A n c hs F ∧ pgE F = 0 ∧ ImmF F ∧ InAt w' w'.heap.size (.slice Ai ni ci) inp ∧ (∀ v ∈ inp, v < 18446744073709551616) ∧ (0 ≤ fu ∧ fu < 256) ∧ Below w.heap.size w w'
/-- What stands in front of the last line. -/
structure ScR (w W1 : World) (g lo gt : Nat) (A : Option Addr) (n c : Nat) (hs : List Hd) (F : Pg) (wx : World) : Prop where
  box : Row wx gt 26 [.slice A n c]
  res : Row wx w.heap.size 26 [.slice none 0 0]
  pg : ∀ wy : World, (∀ p : Addr, lo ≤ p.block → p.block ≠ gt → p.block < wx.heap.size → wy.cell? p = wx.cell? p) → wx.heap.size ≤ wy.heap.size → PgAt wy lo wy.heap.size A n c hs F
  err : pgE F = 0
  imm : ImmF F
  codes : Codes wx g
  grown : W1.grownBy wx (some g)
theorem ScR.step {w W1 wx wy : World} {g lo gt n c : Nat} {A : Option Addr} {hs : List Hd} {F : Pg} (h : ScR w W1 g lo gt A n c hs F wx) (hG : wx.grownBy wy (some g)) (hC : Codes wy g) (h1 : gt ≠ g) (h2 : w.heap.size ≠ g) (h3 : g < lo) : ScR w W1 g lo gt A n c hs F wy :=
  ⟨h.box.grown hG (fun e => h1 (by injection e)), h.res.grown hG (fun e => h2 (by injection e)), (fun wz hz hs => h.pg wz (fun p p1 p2 p3 => (hz p p1 p2 (Nat.lt_of_lt_of_le p3 hG.size)).trans (World.cell?_of_block (hG.block p.block p3 (fun e => by injection e with e; omega)))) (Nat.le_trans hG.size hs)), h.err, h.imm, hC, h.grown.trans hG⟩

theorem own_cap {w : World} {base e size n c : Nat} {A : Option Addr} {xs : List Value} (h : w.ownsRow base e size (.slice A n c) n xs) : c ≤ 9223372036854775807 := by
  rcases h.2 with ⟨h1, _⟩ | ⟨g, cap, cur, h1, _, _, _, h5, _⟩
  · injection h1 with _ _ h1; omega
  · injection h1 with _ _ h1; unfold maxLen at h5; omega
theorem own_away {w w' : World} {base e size n g : Nat} {v : Value} {xs : List Value} (h : w.ownsRow base e size v n xs) (hg : g < base) (hG : w.grownBy w' (some g)) : w'.ownsRow base e size v n xs := h.kept hG (by
  rcases e : v.ownBlock with _ | q
  · exact .inl rfl
  · exact .inr (fun h' => by have := (h.lt q e).1; injection h' with h'; omega))
theorem scn_end {w W1 w4 : World} {g lo gt n c base ni ci : Nat} {A Ai : Option Addr} {hs : List Hd} {F : Pg} {inp : List Nat} {fu : Int} (h : ScR w W1 g lo gt A n c hs F w4) (hB : Below w.heap.size w W1) (hwg : w.heap.size < g) (hg : g < lo) (ho : w4.ownsRow base 31 1 (.slice Ai ni ci) ni (ucells inp)) (hb : w.heap.size < base) (hl : inp.length = ni) (hA : Ai = none → ci = 0) (hv : ∀ v ∈ inp, v < 18446744073709551616) (f0 : 0 ≤ fu) (f1 : fu < 256) :
    ScnPost w (.returned (.tuple #[gv A n c, .slice Ai ni ci, .int .i64 fu, .pointer (some ⟨g, 0, none⟩)])) (w4.setCell ⟨w.heap.size, 0, none⟩ (.slice A n c)) := by
  have hb4 : Below w.heap.size w w4 := below_grown hB h.grown (by omega) hB.size
  have ho2 := own_away ho hb (grown_cell w4 w.heap.size 0 (.slice A n c))
  refine ⟨A, n, c, hs, F, Ai, ni, ci, inp, fu, lo, g, rfl, h.pg _ (fun p p1 _ _ => World.cell?_setCell_other _ _ _ _ (fun e => by subst e; simp at p1; omega)) (by simp [World.setCell]), h.err, h.imm, ⟨Ai, ni, ci, rfl, hl, own_le ho, own_cap ho, hA, Sees.ownN ho2⟩, hv, ⟨f0, f1⟩, hb4.setCell (p := ⟨w.heap.size, 0, none⟩) (by simp) _⟩

set_option maxRecDepth 100000 in
set_option maxHeartbeats 4000000 in
theorem scene_any (A0 : Option Addr) (n0 c0 : Nat) (zs : List Int) (w : World)
    (hA : Hid (A0 = none → c0 = 0)) (hn : Hid (zs.length = n0)) (hnc : n0 ≤ c0) (hm : n0 ≤ 9223372036854775807) (hs : Hid (Sees w w.heap.size A0 (cellsU8 zs))) (hz : Hid (∀ z ∈ zs, 0 ≤ z ∧ z ≤ 255)) :
    Calls Tryd.prog 9 #[.slice A0 n0 c0] w (ScnPost w) := by
  obtain ⟨W0, hW0⟩ : ∃ V, w.alloc (.cells #[.slice none 0 0] 26) = V := ⟨_, rfl⟩
  have HW0 := hide hW0
  have HB0 := hide (show Below w.heap.size w W0 by rw [← hW0]; exact below1 _ _)
  have HR0 := hide (show Row W0 w.heap.size 26 [.slice none 0 0] by rw [← hW0]; exact Row.new w _ _)
  have hs0 : W0.heap.size = w.heap.size + 1 := by rw [← hW0]; simp
  have HS0 := hide hs0
  clear hW0 hs0
  go_enter Tryd.func9, Tryd.ntmps9
  go_upto_region 1 with (fail)
  rw [HW0.out]
  clear HW0
  go_wp2_with fail
  refine (new_any A0 n0 c0 zs 300 W0 hA hn hnc hm (by omega) (hide ((hs.out.below HB0.out).more HB0.out.size)) hz).mono ?_
  rintro e W1 ⟨rfl, hC1, hb1⟩
  obtain ⟨g, hg⟩ : ∃ g, W0.heap.size = g := ⟨_, rfl⟩
  have HB1 := hide (below_call HB0.out hb1)
  have HR1 := hide (HR0.out.call hb1)
  rw [hg] at hC1 ⊢
  have HC1 := hide hC1
  have hgw : g = w.heap.size + 1 := by have := HS0.out; omega
  have HGW := hide hgw
  have hg1 := hC1.lt
  have hwg : w.heap.size < g := by omega
  clear hC1 hb1 hg hgw hs hz hA hn HB0 HR0 HS0
  go_upto_region 3 with (go_at_call 24; refine (prog_any g 4 12 W1 HC1 (by omega) (by omega) (by omega)).mono ?_; rintro e W2 ⟨A, n, c, hs, F, rfl, hpg, hgd, hC2, hG2⟩)
  obtain ⟨W3, hW3⟩ : ∃ V, W2.alloc (.cells #[.slice A n c] 26) = V := ⟨_, rfl⟩
  have hb3 : Below W2.heap.size W2 W3 := by rw [← hW3]; exact below1 _ _
  have hR3 : ScR w W1 g W1.heap.size W2.heap.size A n c hs F W3 := ⟨by rw [← hW3]; exact Row.new W2 _ _, (HR1.out.grown hG2 (fun e => by injection e with e; omega)).call hb3, (fun wy hy hs => (hpg.keep (fun p p1 p2 => (hy p p1 (by omega) (Nat.lt_of_lt_of_le p2 hb3.size)).trans (hb3.cell p2))).more (Nat.le_trans hb3.size hs) (Nat.le_refl _)), hgd.err, fun f hf x hx => by
    obtain ⟨k, hk, rfl⟩ := List.mem_iff_getElem.1 hf
    exact (hgd.fn k _ (List.getElem?_eq_getElem hk)).1.imm x hx, hC2.below hb3, hG2.andThen (grown_below hb3 none) (fun k hk => by cases hk)⟩
  have HN := hide (show 1 ≤ n ∧ n ≤ 80 by have h1 := hgd.one; have h2 := hgd.few; have h3 := hpg.len; omega)
  have HSH := hide (show ∀ f ∈ F, 1 ≤ f.code.length ∧ f.code.length ≤ 1000 from fun f hf => by
    obtain ⟨k, hk, rfl⟩ := List.mem_iff_getElem.1 hf
    have h1 := (hgd.fn k _ (List.getElem?_eq_getElem hk)).1
    exact ⟨h1.some, Nat.le_trans h1.short (by omega)⟩)
  have HR3 := hide hR3
  have hpg0 := hpg
  have hk3 : ∀ p : Addr, p.block < W2.heap.size → W3.cell? p = W2.cell? p := fun p hp => hb3.cell hp
  have HK3 := hide hk3
  have hgt : W1.heap.size ≤ W2.heap.size := hG2.size
  rw [hW3]
  obtain ⟨gt, hgt'⟩ : ∃ q, W2.heap.size = q := ⟨_, rfl⟩
  rw [hgt'] at HR3 hgt HK3 hpg0 ⊢
  obtain ⟨lo, hlo⟩ : ∃ q, W1.heap.size = q := ⟨_, rfl⟩
  rw [hlo] at HR3 hgt hg1 hpg0
  have hgtn : gt ≠ g := by omega
  have hwgn : w.heap.size ≠ g := by omega
  clear hW3 hb3 hR3 hpg hgd hC2 hG2 hgt' HR1 HC1 hk3
  have HB := hide (show ∀ W5 : World, Below W2.heap.size W2 W5 → True from fun _ _ => trivial)
  have HPG2 := hide hpg0
  clear HB
  go_wp2_with fail
  refine (next_any g 6 W3 (hide HR3.out.codes) (by omega) (by omega)).mono ?_
  rintro e W4 ⟨v, rfl, v0, v1, hC4, hG4, hz4⟩
  have HR4 := hide (HR3.out.step hG4 hC4 hgtn hwgn hg1)
  have hlo4 := hide (show lo ≤ W4.heap.size ∧ gt < W4.heap.size by have h1 := HR4.out.grown.size; have h2 := HR4.out.box.lt; omega)
  have b0 := HR4.out.box.cell (k := 0) rfl
  have HP4 := hide (show PgAt W4 lo gt A n c hs F from HPG2.out.keep fun p h1 h2 => (World.cell?_of_block (hG4.block p.block (by have := HR3.out.box.lt; omega) (fun e => by injection e with e; omega))).trans (HK3.out p h2))
  clear hC4 hG4 hz4 HR3 HPG2 HK3
  by_cases h5 : v = 5
  case' pos =>
    subst h5
    have cc := cyclic_any g lo gt A n c hs F W4 (hide HR4.out.codes) HP4 (by have := hlo4.out; omega) hg1 (by have := hlo4.out; omega) HN.out.1 HN.out.2 (hide fun f hf => ⟨HSH.out f hf, right_targets HR4.out.err f hf⟩)
    go_wp2_with fail
    refine cc.mono ?_
    rintro e W5 ⟨A2, c2, hs2, i, j, f, rfl, hfi, hj0, hj1, hpg, hC5, hG5⟩
    have hbox := HR4.out.box.grown hG5 (fun e => hgtn (by injection e))
    have hres := HR4.out.res.grown hG5 (fun e => hwgn (by injection e))
    have q0 := hbox.cell (k := 0) rfl
    have qf := hbox.free 0
    have hfl := HSH.out f (List.mem_of_getElem? hfi)
    obtain ⟨F2, hF2⟩ : ∃ F2, F.set i (cycF f j) = F2 := ⟨_, rfl⟩
    obtain ⟨WX, hWX⟩ : ∃ V, W5.setCell ⟨gt, 0, none⟩ (.slice A2 n c2) = V := ⟨_, rfl⟩
    have hl4 := hlo4.out
    have HRX := hide (show ScR w W1 g lo gt A2 n c2 hs2 F2 WX from by
      rw [← hWX, ← hF2]
      refine ⟨hbox.set_ 0 _, hres.far (p := ⟨gt, 0, none⟩) (by simp; omega) _, fun wy hy hs => hpg wy (fun p hp => ?_) (by simpa [World.setCell] using hs), cyc_pg HR4.out.err hfi (by omega) hj0 (by rw [HP4.out.len]; exact hj1), cyc_imm HR4.out.imm hfi, hC5.kept (grown_cell W5 gt 0 _) (fun k hk => by injection hk with hk; omega), (HR4.out.grown.trans hG5).andThen (grown_cell W5 gt 0 _) (fun q hq => .inl (by injection hq with hq; omega))⟩
      have h5s := hG5.size
      rcases hp with ⟨p1, p2⟩ | ⟨p1, p2⟩
      · exact (hy p p1 (by omega) (by simp [World.setCell]; omega)).trans (World.cell?_setCell_other _ _ _ _ (fun e => by subst e; simp at p2))
      · exact (hy p (by omega) (by omega) (by simpa [World.setCell] using p2)).trans (World.cell?_setCell_other _ _ _ _ (fun e => by subst e; simp at p1; omega)))
    have HWX := hide hWX
    clear hbox hres hpg hC5 hG5 cc b0 hWX hF2
    go_upto_region 5 with (fail)
    try rw [HWX.out]
  case' neg =>
    have b5 : (v == 5) = false := by simpa using h5
    clear h5
    obtain ⟨A2, hA2⟩ : ∃ x, A = x := ⟨_, rfl⟩
    obtain ⟨c2, hc2⟩ : ∃ x, c = x := ⟨_, rfl⟩
    obtain ⟨hs2, hhs2⟩ : ∃ x, hs = x := ⟨_, rfl⟩
    obtain ⟨F2, hF2⟩ : ∃ x, F = x := ⟨_, rfl⟩
    go_upto_region 5 with (fail)
    obtain ⟨WX, hWX⟩ : ∃ x, W4 = x := ⟨_, rfl⟩
    have HRX := HR4
    rw [hA2, hc2, hhs2, hF2, hWX] at HRX
    rw [hWX]
  all_goals
    clear HR4 HP4 HN HSH
    have b0 := HRX.out.box.cell (k := 0) rfl
    have hsx := hide (show lo ≤ WX.heap.size by have := HRX.out.grown.size; omega)
    go_region_law
      (first
        | (go_simp; go_at_call 27; refine (input_any g WX.drew (hide HRX.out.codes.drew)).mono ?_; rintro e w3 ⟨Ai, ni, ci, inp, rfl, hil, hin3, hAi, hio, hiv, hC3, hG3⟩; have hR3 := HRX.out.step (show WX.grownBy w3 (some g) from (grown_draws (World.grownBy.refl WX (some g)) 1).trans hG3) hC3 hgtn hwgn hg1; have b3 := hR3.box.cell (k := 0) rfl)
        | (go_simp; go_at_call 25; refine (next_any g 256 w3 (hide hC3) (by omega) (by omega)).mono ?_; rintro e w4 ⟨fu, rfl, f0, f1, hC4, hG4, hz4⟩; clear hz4; have hR4 := hR3.step hG4 hC4 hgtn hwgn hg1; have hio4 := own_away hio (show g < WX.heap.size by have := hsx.out; omega) hG4; have b4 := hR4.box.cell (k := 0) rfl; have r4 := hR4.res.cell (k := 0) rfl; have rf := hR4.res.free 0))
    all_goals
      have hfin := scn_end hR4 HB1.out hwg hg1 hio4 (show w.heap.size < WX.heap.size by have := hsx.out; omega) hil hAi hiv f0 f1
      have hcell := (hR4.res.set_ 0 (.slice A2 n c2)).cell (k := 0) rfl
      have HFIN := hide hfin
      obtain ⟨wf, hwf⟩ : ∃ wf, w4.setCell ⟨w.heap.size, 0, none⟩ (.slice A2 n c2) = wf := ⟨_, rfl⟩
      rw [hwf] at hcell HFIN
      have HWF := hide hwf
      clear hfin hwf
      go_wp2_with fail
      try rw [HWF.out]
      exact bodyPost_ret (v := .tuple #[gv A2 n c2, .slice Ai ni ci, .int .i64 fu, .pointer (some ⟨g, 0, none⟩)]) (by simp [results, Tryd.results9, go_sem, hcell]) rfl HFIN.out
end Go.Proofs.YtlkcjjalkdlicaaDoor
end
