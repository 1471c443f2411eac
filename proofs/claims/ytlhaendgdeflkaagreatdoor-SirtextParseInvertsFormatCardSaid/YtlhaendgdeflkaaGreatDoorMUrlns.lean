import Derived.Test.YtlhaendgdeflkaaGreatDoorMHc
set_option linter.unusedVariables false
set_option linter.unusedSimpArgs false
section
/-
  The reference's line (chapter 7) at lines of slots and of instructions. No condition but those of the types.
-/
namespace Go.Proofs.YtlhaendgdeflkaaGreatDoor
open Go.RowKit

theorem Tryz.info52u : (Tryz.prog.info? 52).map (fun i => (i.zero, i.size, i.bytes)) = some (some (.agg #[.int .i64 0, .int .i64 0]), 2, 16) := by kernel_rfl
theorem Tryz.info44u : (Tryz.prog.info? 44).map (fun i => (i.zero, i.size, i.bytes)) = some (some (.agg #[.int .i64 0, .int .i64 0, .int .i64 0, .int .i64 0, .int .u64 0]), 5, 40) := by kernel_rfl
theorem own_other {w : World} {base e size n : Nat} {v : Value} {xs : List Value} (h : w.ownsRow base e size v n xs) {p : Addr} (hp : v.ownBlock ≠ some p.block) (u : Value) : (w.setCell p u).ownsRow base e size v n xs := by
  refine ⟨h.1, ?_⟩
  rcases h.2 with h2 | ⟨g, cap, cur, hv, hg, hh, hr⟩
  · exact .inl h2
  · refine .inr ⟨g, cap, cur, hv, hg, (Below.heap_setCell w p u g ?_).trans hh, hr⟩
    intro e
    apply hp
    rw [hv, e]
    rfl
theorem own_grownN {w w' : World} {base e size n : Nat} {v : Value} {xs : List Value} (h : w.ownsRow base e size v n xs) (hg : w.grownBy w' none) : w'.ownsRow base e size v n xs := by
  refine ⟨h.1, ?_⟩
  rcases h.2 with h2 | ⟨g, cap, cur, hv, hg', hh, hr⟩
  · exact .inl h2
  · refine .inr ⟨g, cap, cur, hv, hg', ?_, hr⟩
    have hlt : g < w.heap.size := by
      rcases Nat.lt_or_ge g w.heap.size with h1 | h1
      · exact h1
      · rw [Array.getElem?_eq_none h1] at hh; cases hh
    rw [hg.block g hlt (fun e => by cases e)]; exact hh
/-- The end of a line of a slot or an instruction: the function's box stored back among the copied heads. -/
theorem ln_grow {w w7 : World} {lo k c L cL X j M : Nat} {A : Option Addr} {hs : List Hd} {F : Pg} {f g' : Fn} {h0 : Hd} {nv : Value} (P : Int) (A1 : Option Addr) (n1 c1 : Nat) (A2 : Option Addr) (n2 c2 : Nat) (H : PgAt w lo w.heap.size A (k + 1) c hs F) (hlo : lo ≤ w.heap.size) (hb : Below w.heap.size w w7) (hf : F.getLast? = some f) (h0k : hs[k]? = some h0)
    (ho : w7.ownsRow (w.heap.size + 2) 49 3 (.slice (some ⟨L, 0, none⟩) (k + 1) cL) (k + 1) (hcells hs)) (hX : w.heap.size + 2 ≤ X) (hLX : L ≠ X) (hn : k + 1 ≤ 1000000) (hM1 : X < M) (hM2 : L < M)
    (hd : ∀ wf : World, (∀ p : Addr, p.block < w.heap.size → wf.cell? p = w.cell? p) → (∀ p : Addr, M ≤ p.block → wf.cell? p = w7.cell? p) → HdAt wf lo w7.heap.size ⟨P, A1, n1, c1, A2, n2, c2⟩ g') (hr1 : Row w7 (w.heap.size + 1) 29 [.slice none 0 0]) {vp : Value} (hr0 : Row w7 w.heap.size 29 [vp])
    {r : Int × Pg} (hr : r = (0, F.dropLast ++ [g'])) (wx : World) (hwx : wx = ((((w7.setCell ⟨X, j, none⟩ nv).setCell ⟨L, k * 3, none⟩ (.int .i64 P)).setCell ⟨L, k * 3 + 1, none⟩ (.slice A1 n1 c1)).setCell ⟨L, k * 3 + 2, none⟩ (.slice A2 n2 c2)).setCell ⟨w.heap.size, 0, none⟩ (.slice (some ⟨L, 0, none⟩) (k + 1) cL)) :
    LnPost lo r w (.returned (.tuple #[gv (some ⟨L, 0, none⟩) (k + 1) cL, .int .i64 0])) (wx.setCell ⟨w.heap.size + 1, 0, none⟩ (.slice (some ⟨L, 0, none⟩) (k + 1) cL)) ∧ Row wx (w.heap.size + 1) 29 [.slice none 0 0] ∧ wx.cell? ⟨w.heap.size, 0, none⟩ = some (.slice (some ⟨L, 0, none⟩) (k + 1) cL) := by
  have hLl := ho.lt L rfl
  have hsz : wx.heap.size = w7.heap.size := by rw [hwx]; simp [World.setCell]
  have o1 := own_other ho (p := ⟨X, j, none⟩) (by simp [Value.ownBlock]; omega) nv
  have o4 := (((o1.stored (k * 3) (.int .i64 P)).1.stored (k * 3 + 1) (.slice A1 n1 c1)).1.stored (k * 3 + 2) (.slice A2 n2 c2)).1
  rw [hset3 hs k h0 ⟨P, A1, n1, c1, A2, n2, c2⟩ h0k] at o4
  have o5 := own_ufar o4 (p := ⟨w.heap.size, 0, none⟩) (by simp) (.slice (some ⟨L, 0, none⟩) (k + 1) cL)
  rw [← hwx] at o5
  have hbx : Below w.heap.size w wx := by
    rw [hwx]
    exact ((((hb.setCell (by simp only; omega) _).setCell (by simp only; omega) _).setCell (by simp only; omega) _).setCell (by simp only; omega) _).setCell (by simp) _
  have other : ∀ p : Addr, p.block ≠ X → p.block ≠ L → p.block ≠ w.heap.size → wx.cell? p = w7.cell? p := fun p h1 h2 h3 => by
    rw [hwx, World.cell?_setCell_other _ _ _ _ (fun e => by subst e; exact h3 rfl), World.cell?_setCell_other _ _ _ _ (fun e => by subst e; exact h2 rfl), World.cell?_setCell_other _ _ _ _ (fun e => by subst e; exact h2 rfl), World.cell?_setCell_other _ _ _ _ (fun e => by subst e; exact h2 rfl), World.cell?_setCell_other _ _ _ _ (fun e => by subst e; exact h1 rfl)]
  refine ⟨ln_last H hlo hbx (L := L) hf (by rw [Nat.add_sub_cancel]; exact o5) hn ?_ hr, ?_, ?_⟩
  · rw [hsz]
    refine hd _ (fun p hp => ?_) (fun p hp => ?_)
    · rw [put_res _ _ _ _ (by omega)]; exact hbx.cell hp
    · rw [put_res _ _ _ _ (by omega)]; exact other p (by omega) (by omega) (by omega)
  · rw [hwx]
    exact ((((hr1.far (p := ⟨X, j, none⟩) (by simp only; omega) _).far (p := ⟨L, k * 3, none⟩) (by simp only; omega) _).far (p := ⟨L, k * 3 + 1, none⟩) (by simp only; omega) _).far (p := ⟨L, k * 3 + 2, none⟩) (by simp only; omega) _).far (p := ⟨w.heap.size, 0, none⟩) (by simp) _
  · rw [hwx]
    exact (((((hr0.far (p := ⟨X, j, none⟩) (by simp only; omega) _).far (p := ⟨L, k * 3, none⟩) (by simp only; omega) _).far (p := ⟨L, k * 3 + 1, none⟩) (by simp only; omega) _).far (p := ⟨L, k * 3 + 2, none⟩) (by simp only; omega) _).set_ 0 _).cell (k := 0) rfl

set_option maxHeartbeats 2000000 in
set_option maxRecDepth 100000 in
theorem rline_first (lo : Nat) (A : Option Addr) (n c : Nat) (hs : List Hd) (F : Pg) (b1 o1 nw cw : Nat) (nm : List UInt8) (r : List (List UInt8)) (w : World) (H : Hid (PgAt w lo w.heap.size A n c hs F)) (hb1 : b1 < w.heap.size) (hS : Hid (Sees w w.heap.size (some ⟨b1, o1, none⟩) (wcells (nm :: r)))) (hn : nw = r.length + 1) (hne : nm ≠ kwF) (hF : n = 0) {rr : Int × Pg} (hr : Hid (rr = (10, F))) :
    Calls Tryz.prog 26 #[gv A n c, .slice (some ⟨b1, o1, none⟩) nw cw] w (LnPost lo rr w) := by
  obtain ⟨j0, ji, jz0, jz1, jz2⟩ := info_parts Tryz.info49u
  obtain ⟨W, hW, hbW, hsW, r0, r1⟩ := boxes2p w [.slice A n c] [.slice none 0 0] 29 29
  have HBW := hide hbW; have R0 := hide r0; have R1 := hide r1; have HSW := hide hsW
  obtain ⟨b1', o1', e1, _, q0⟩ := word_at hS.out (k := 0) rfl
  injection e1 with e1
  injection e1 with e1 e2
  subst e1 e2
  rw [Nat.add_zero] at q0
  have q1 : W.cell? ⟨b1, o1, none⟩ = some (.string ⟨nm.toArray⟩) := (hbW.cell (p := ⟨b1, o1, none⟩) (by simpa using hb1)).trans q0
  have z0 := r0.cell (k := 0) rfl
  have hneb : (nm == [102, 117, 110, 99]) = false := by simpa [kwF] using hne
  have t1 := r1.cell (k := 0) rfl
  have t2 := r1.free 0
  have f0 := (r1.set_ 0 (.slice A n c)).cell (k := 0) rfl
  have FIN := hide (ln_same H.out hbW hr.out)
  have HW := hide hW
  have hnz : 1 ≤ nw := by omega
  have hnz2 : (0 : Int) < (nw : Int) := by omega
  have hnz3 : 0 < nw := by omega
  have HN := hide hn
  clear hW hbW hsW r0 r1 q0 hne hn
  subst hF
  go_enter Tryz.func26, Tryz.ntmps26
  go_upto_region 1 with (fail)
  rw [HW.out]
  clear HW
  go_wp2_with fail
  exact bodyPost_ret (v := .tuple #[gv A 0 c, .int .i64 10]) (by simp [results, Tryz.results26, go_sem, f0]) rfl FIN.out


set_option maxHeartbeats 4000000 in
set_option maxRecDepth 100000 in
theorem rline_slot (lo : Nat) (A : Option Addr) (n c : Nat) (hs : List Hd) (F : Pg) (f : Fn) (b1 o1 nw cw : Nat) (r : List (List UInt8)) (w : World) (H : Hid (PgAt w lo w.heap.size A n c hs F)) (hlo : lo ≤ w.heap.size) (hb1 : b1 < w.heap.size) (hS : Hid (Sees w w.heap.size (some ⟨b1, o1, none⟩) (wcells (kwS :: r)))) (hn : nw = r.length + 1) (hnc : nw ≤ cw) (hnb : nw ≤ 100000001) (hlen : Hid (∀ x ∈ r, x.length ≤ 100000000)) (hf : Hid (F.getLast? = some f)) (hsm : Hid (SmallP 100000 F)) :
    Calls Tryz.prog 26 #[gv A n c, .slice (some ⟨b1, o1, none⟩) nw cw] w (LnPost lo (slotU F f r) w) := by
  obtain ⟨j0, ji, jz0, jz1, jz2⟩ := info_parts Tryz.info49u
  obtain ⟨W, hW, hbW, hsW, r0, r1⟩ := boxes2p w [.slice A n c] [.slice none 0 0] 29 29
  have HBW := hide hbW; have R0 := hide r0; have R1 := hide r1; have HSW := hide hsW
  obtain ⟨b1', o1', e1, _, q0⟩ := word_at hS.out (k := 0) rfl
  injection e1 with e1
  injection e1 with e1 e2
  subst e1 e2
  rw [Nat.add_zero] at q0
  have q1 : W.cell? ⟨b1, o1, none⟩ = some (.string ⟨#[115, 108, 111, 116]⟩) := (hbW.cell (p := ⟨b1, o1, none⟩) (by simpa using hb1)).trans q0
  obtain ⟨s0, si, sz0, sz1, sz2⟩ := info_parts Tryz.info52u
  obtain ⟨A2, hsl, hS2⟩ := tail_at hS.out hn hnc
  have HS2 := hide hS2
  obtain ⟨hn0, hFk⟩ := last_at hf.out H.out.len
  obtain ⟨k, rfl⟩ : ∃ k, n = k + 1 := ⟨n - 1, by omega⟩
  rw [Nat.add_sub_cancel] at hFk
  have hkh : k < hs.length := by rw [H.out.hd.len, H.out.len]; omega
  obtain ⟨⟨P, As, n1, c1, Ac, n2, c2⟩, hh0⟩ : ∃ h, hs[k]? = some h := ⟨hs[k], List.getElem?_eq_getElem hkh⟩
  have HH0 := hide hh0
  have hdk := H.out.hd.at_ k _ _ hh0 hFk
  have HDK := hide hdk
  have hk9 : k + 1 ≤ 100000 := by have := hsm.out.1; have := H.out.len; omega
  have hfm := hsm.out.2 f (List.mem_of_getElem? hFk)
  have hl1 := hdk.l1
  have hl2 := hdk.l2
  simp only at hl1 hl2
  have hn1 : n1 ≤ 100000 := by omega
  have hn2 : n2 ≤ 100000 := by omega
  have HL1 := hide hl1; have HL2 := hide hl2
  have z0 := r0.cell (k := 0) rfl
  have HCA := hide H.out.cap.1
  have HCL := hide (show (hcells hs).length = (k + 1) * 3 by rw [hcells_length, H.out.hd.len, H.out.len])
  have HCS := hide (H.out.below hbW).see
  have HCC := hide H.out.cap.2.1
  have HW := hide hW
  have hcw : 1 ≤ cw := by omega
  have hnz : 1 ≤ nw := by omega
  have hnz2 : (0 : Int) < (nw : Int) := by omega
  have hnz3 : 0 < nw := by omega
  have hwk : IntKind.i64.wrap ((k : Int) + 1 - 1) = (k : Int) := by rw [IntKind.wrap_i64]; omega
  have HWK := hide hwk
  have HN := hide hn
  clear hW hbW hsW r0 r1 q0 hn hFk hkh hh0 hdk hfm hl1 hl2 hwk hn0 hS2
  go_enter Tryz.func26, Tryz.ntmps26
  go_upto_region 1 with (fail)
  rw [HW.out]
  clear HW
  go_upto_region 11 with (at_builtin; refine wpList_append_seesN rfl (.const (.slice none 0 0)) (.tmp 49) 27 rfl W.heap.size 49 j0 (.agg #[.int .i64 0, .slice none 0 0, .slice none 0 0]) 3 56 Tryz.underlying27 ji jz0 jz1 jz2 rfl (by decide) (.slice none 0 0) 0 [] rfl (World.ownsRow_nil _ _ _ _) w.heap.size A (k + 1) c (hcells hs) rfl HCA HCL HCS HCC (hcells_oneCell _) (by unfold maxLen; omega) (by omega) (Nat.le_refl _) ?_; intro v1 w1 ho1 hg1)
  have hg1n : W.grownBy w1 none := hg1
  rw [Nat.zero_add, List.nil_append] at ho1
  have R01 := hide (R0.out.grown hg1n (fun e => by cases e))
  have R11 := hide (R1.out.grown hg1n (fun e => by cases e))
  have HB1 := hide (HBW.out.grown hg1n HBW.out.size (fun k hk => by cases hk))
  have hw1 := hide (show W.heap.size ≤ w1.heap.size from hg1n.size)
  obtain ⟨L, cL, rfl, hLb, hLl, -, -⟩ := own_block ho1 (by omega)
  obtain ⟨⟨u0, u1, u2⟩, -⟩ := hd_row ho1 HH0.out
  simp only at u0 u1 u2
  have HO1 := hide (own_base ho1 (show w.heap.size + 2 ≤ W.heap.size by have := HSW.out; omega))
  have HLL := hide (show w.heap.size + 2 ≤ L ∧ L < w1.heap.size from ⟨by have := HSW.out; omega, hLl⟩)
  have hwk := HWK.out
  obtain ⟨W2, hW2⟩ : ∃ W2, w1.alloc (.cells #[.int .i64 P, .slice As n1 c1, .slice Ac n2 c2] 49) = W2 := ⟨_, rfl⟩
  have HW2 := hide hW2
  have HB2 := hide (show Below w.heap.size w W2 by rw [← hW2]; exact HB1.out.alloc HB1.out.size _)
  have R02 := hide (show Row W2 w.heap.size 29 [.slice A (k + 1) c] by rw [← hW2]; exact R01.out.alloc _)
  have R12 := hide (show Row W2 (w.heap.size + 1) 29 [.slice none 0 0] by rw [← hW2]; exact R11.out.alloc _)
  have RX2 := hide (show Row W2 w1.heap.size 49 [.int .i64 P, .slice As n1 c1, .slice Ac n2 c2] by rw [← hW2]; exact Row.new w1 _ _)
  have HO2 := hide (show W2.ownsRow (w.heap.size + 2) 49 3 (.slice (some ⟨L, 0, none⟩) (k + 1) cL) (k + 1) (hcells hs) by rw [← hW2]; exact HO1.out.alloc _)
  clear hg1 hg1n ho1 hLb hLl hW2 z0
  go_upto_region 12 with (fail)
  rw [HW2.out]
  clear HW2 u0 u1 u2 hwk
  have q2 : W2.cell? ⟨b1, o1, none⟩ = W.cell? ⟨b1, o1, none⟩ := (HB2.out.cell (p := ⟨b1, o1, none⟩) (by simpa using hb1)).trans (HBW.out.cell (p := ⟨b1, o1, none⟩) (by simpa using hb1)).symm
  rw [q1] at q2
  obtain ⟨W3, hW3⟩ : ∃ W3, W2.alloc (.cells #[.string ⟨#[]⟩, .string ⟨#[]⟩] 9) = W3 := ⟨_, rfl⟩
  have HB3 := hide (show Below w.heap.size w W3 by rw [← hW3]; exact HB2.out.alloc HB2.out.size _)
  have hb23 := hide (show Below W2.heap.size W2 W3 by rw [← hW3]; exact below1 _ _)
  have hSm := hide (show Sees W3 W3.heap.size (some ⟨W2.heap.size, 0, none⟩) (wcells (mksT mkNN)) by rw [← hW3]; exact (Row.new W2 9 [.string ⟨#[]⟩, .string ⟨#[]⟩]).sees)
  have hS3 := hide ((HS2.out W3 (fun p hp => HB3.out.cell hp)).more HB3.out.size)
  have cn := rnumbers_any A2 (nw - 1) (cw - 1) r (some ⟨W2.heap.size, 0, none⟩) 2 2 mkNN false W3 W3.heap.size (Nat.le_refl _) hS3 hSm (hide (by have := HN.out; omega)) (hide rfl) hlen (hide (by intro m hm; simp [mkNN] at hm; subst hm; simp)) (by omega) (by omega)
    (hide (by intro i hi; have : i = 0 ∨ i = 1 := by simp [mkNN] at hi; omega
              rcases this with rfl | rfl <;> rfl))
  have HW3 := hide hW3
  clear hW3
  go_wp2_with fail
  rw [HW3.out]
  clear HW3
  refine cn.mono ?_
  rintro e w5 ⟨v5, rfl, ho5, hb5⟩
  have hb25 := hide (below_call hb23.out hb5)
  have HO5 := hide ho5
  clear hb5 ho5 cn q1 q2
  have HB5 := hide (HB2.out.trans (hb25.out.mono HB2.out.size))
  have R05 := hide (R02.out.call hb25.out)
  have R15 := hide (R12.out.call hb25.out)
  have RX5 := hide (RX2.out.call hb25.out)
  have HO25 := hide (own_below HO2.out hb25.out)
  have hXs := hide (show w1.heap.size < w5.heap.size from RX5.out.lt)
  have hXw := hide (show w.heap.size + 2 ≤ w1.heap.size by have := HSW.out; have := hw1.out; omega)
  have x2 := RX5.out.cell (k := 2) rfl
  by_cases hc0 : f.code = []
  · have h2z : ¬ ((0 : Int) < (n2 : Int)) := by have h3 := congrArg List.length hc0; have h4 := HL2.out; simp only [List.length_nil] at h3; omega
    by_cases hE : numsE mkNN r = 0
    · have o5 := HO5.out hE
      obtain ⟨z, hz1, hzv, hz0, hzb⟩ := numI_at hE (k := 0) (by simp [mkNN])
      obtain ⟨y, hy1, hyv, hy0, hyb⟩ := numI_at hE (k := 1) (by simp [mkNN])
      have hzb2 : z ≤ 2147483647 := by simp [mkNN, limU] at hzb; omega
      have hyb2 : y ≤ 2147483647 := by simp [mkNN, limU] at hyb; omega
      obtain ⟨g5, c5, rfl, -, hg5, hc5⟩ := num_cell o5 (by simp [mkNN])
      have y0 := hc5 0 z hz1
      have y1 := hc5 1 y hy1
      have HR := hide (show slotU F f r = (0, F.dropLast ++ [⟨f.params, f.slots ++ [(z, y)], f.code⟩]) by unfold slotU; rw [if_neg (by simp [hc0]), if_pos hE, hzv.out, hyv.out])
      have hml : mkNN.length = 2 := rfl
      have Y0 := hide y0; have Y1 := hide y1
      have HG5 := hide hg5
      have hwz : IntKind.i64.wrap z = z := by rw [IntKind.wrap_i64]; omega
      have hwy : IntKind.i64.wrap y = y := by rw [IntKind.wrap_i64]; omega
      have HWZ := hide hwz; have HWY := hide hwy
      rw [hE, hml]
      clear hE o5 hz1 hzv hzb hy1 hyv hyb hc5 hml hwz hwy
      have HDB := hide (HDK.out.below HB5.out)
      have SCA := hide HDK.out.k1.1
      have SCL := hide (show (pcells f.slots).length = n1 * 2 by rw [pcells_length, HL1.out])
      have SCS := hide HDB.out.s1
      have SCC := hide HDK.out.k1.2.1
      have hbs := hide HB5.out.size
      have a0 := RX5.out.cell (k := 1) rfl
      have a1 : ∀ o : Obj, (w5.alloc o).cell? ⟨w1.heap.size, 1, none⟩ = some (.slice As n1 c1) := fun o => (RX5.out.alloc o).cell (k := 1) rfl
      have HM1 := hide (show 0 + n1 ≤ maxLen by unfold maxLen; omega)
      have HM2 := hide (show (0 + n1) * 16 ≤ 140737488355328 by omega)
      have HM3 := hide (show 0 + n1 + 1 ≤ maxLen by unfold maxLen; omega)
      have HM4 := hide (show (0 + n1 + 1) * 16 ≤ 140737488355328 by omega)
      have hg5s : g5 < w5.heap.size + 1 := by omega
      have hg5n : ¬ g5 = w5.heap.size := by omega
      have hwz := HWZ.out
      have hwy := HWY.out
      go_upto_region 18 with (fail)
      go_region_law
        (first
          | (refine wp_append_seesN (.const (.slice none 0 0)) (.tmp 76) 46 rfl w5.heap.size 52 s0 (.agg #[.int .i64 0, .int .i64 0]) 2 16 Tryz.underlying46 si sz0 sz1 sz2 rfl (by decide) (.slice none 0 0) 0 [] rfl (World.ownsRow_nil _ _ _ _) w.heap.size As n1 c1 (pcells f.slots) rfl SCA SCL (hide (SCS.out.draws 1)) SCC (pcells_oneCell _) HM1.out HM2.out (Nat.le_refl _) ?_; intro v3 w6 ho3 hg3; have hG1 : w5.grownBy w6 none := (grown_draws (World.grownBy.refl w5 none) 1).trans hg3; have s20 := grown_cellk Y0.out hG1; have s21 := grown_cellk Y1.out hG1; have hg6 : g5 < w6.heap.size + 1 := Nat.lt_succ_of_lt (Nat.lt_of_lt_of_le HG5.out hG1.size))
          | (refine wp_append_seesN (.const (.slice none 0 0)) (.tmp 76) 46 rfl w5.heap.size 52 s0 (.agg #[.int .i64 0, .int .i64 0]) 2 16 Tryz.underlying46 si sz0 sz1 sz2 rfl (by decide) (.slice none 0 0) 0 [] rfl (World.ownsRow_nil _ _ _ _) w.heap.size As n1 c1 (pcells f.slots) rfl SCA SCL (hide ((SCS.out.draws 1).alloc hbs.out _)) SCC (pcells_oneCell _) HM1.out HM2.out (by simp) ?_; intro v3 w6 ho3 hg3; have hG1 : w5.grownBy w6 none := ((grown_draws (World.grownBy.refl w5 none) 1).trans (World.grownBy_alloc _ _ _)).trans hg3; have hN1 := ((Row.new (w5.drewN 1) 52 [.int .i64 z, .int .i64 y]).at_ (g' := w5.heap.size) rfl).grown hg3 (fun e => by cases e); have s20 := grown_cellk Y0.out hG1; have s21 := grown_cellk Y1.out hG1)
          | (refine wp_append_own _ (.tmp 77) (.tmp 87) 46 rfl w5.heap.size 52 s0 (.agg #[.int .i64 0, .int .i64 0]) 2 16 Tryz.underlying46 si sz0 sz1 sz2 rfl (by decide) v3 (0 + n1) ([] ++ pcells f.slots) rfl (ho3.alloc _) ⟨w6.heap.size, 0, none⟩ 1 1 [.int .i64 z, .int .i64 y] rfl rfl (fun j u hu => by rw [WideShapes.add_plain, Nat.zero_add]; exact (Row.new w6 52 [.int .i64 z, .int .i64 y]).cell hu) (pcells_oneCell [(z, y)]) HM3.out HM4.out (Nat.le_trans hG1.size (by simp)) ?_; intro v2 w7 ho2 hg2 _; have HG7 : Hid (w5.grownBy w7 none) := hide ((hG1.trans (World.grownBy_alloc _ _ _)).andThen hg2 (fun k hk => .inl (ho3.lt k hk).1)); obtain ⟨A7, c7, rfl, hA7, hc7, hf7, -⟩ := own_seen ho2; have p0 := (RX5.out.grown HG7.out (fun e => by cases e)).cell (k := 1) rfl; have p1 := (RX5.out.grown HG7.out (fun e => by cases e)).free 1)
          | (refine wp_append_own _ (.tmp 77) (.tmp 87) 46 rfl w5.heap.size 52 s0 (.agg #[.int .i64 0, .int .i64 0]) 2 16 Tryz.underlying46 si sz0 sz1 sz2 rfl (by decide) v3 (0 + n1) ([] ++ pcells f.slots) rfl ho3 ⟨w5.heap.size, 0, none⟩ 1 1 [.int .i64 z, .int .i64 y] rfl rfl (fun j u hu => by rw [WideShapes.add_plain, Nat.zero_add]; exact hN1.cell hu) (pcells_oneCell [(z, y)]) HM3.out HM4.out hG1.size ?_; intro v2 w7 ho2 hg2 _; have HG7 : Hid (w5.grownBy w7 none) := hide (hG1.andThen hg2 (fun k hk => .inl (ho3.lt k hk).1)); obtain ⟨A7, c7, rfl, hA7, hc7, hf7, -⟩ := own_seen ho2; have p0 := (RX5.out.grown HG7.out (fun e => by cases e)).cell (k := 1) rfl; have p1 := (RX5.out.grown HG7.out (fun e => by cases e)).free 1))
      all_goals
        clear hwz hwy
        simp only [Nat.zero_add, List.nil_append] at ho2
        have ho8 : w7.ownsRow w5.heap.size 52 2 (.slice A7 (n1 + 1) c7) (n1 + 1) (pcells (f.slots ++ [(z, y)])) := by
          rw [pcells_append]; exact ho2
        have HB7 := hide (HB5.out.grown HG7.out hbs.out (fun k hk => by cases hk))
        have R07 := hide (R05.out.grown HG7.out (fun e => by cases e))
        have R17 := hide (R15.out.grown HG7.out (fun e => by cases e))
        have RX7 := hide ((RX5.out.grown HG7.out (fun e => by cases e)).set_ 1 (.slice A7 (n1 + 1) c7))
        have HO7 := hide (own_grownN HO25.out HG7.out)
        have HOX := hide (own_other HO7.out (p := ⟨w1.heap.size, 1, none⟩) (by have := HLL.out; simp [Value.ownBlock]; omega) (.slice A7 (n1 + 1) c7))
        have hSN := hide (Sees.ownN ho8)
        have hk7 := hide (own_seen ho8)
        have HD := hide (show ∀ wf : World, (∀ p : Addr, p.block < w.heap.size → wf.cell? p = w.cell? p) → (∀ p : Addr, w5.heap.size ≤ p.block → wf.cell? p = w7.cell? p) → HdAt wf lo w7.heap.size ⟨P, A7, n1 + 1, c7, Ac, n2, c2⟩ ⟨f.params, f.slots ++ [(z, y)], f.code⟩ from fun wf h1 h2 => by
          have hd0 := HDK.out.keep (w' := wf) (fun p _ hp => h1 p hp)
          obtain ⟨A8, c8, e8, hA8, hc8, hf8, hs8⟩ := hk7.out
          injection e8 with e8 _ e9
          subst e8 e9
          have hsz : w.heap.size ≤ w7.heap.size := HB7.out.size
          have hlw : lo ≤ w5.heap.size := Nat.le_trans hlo HB5.out.size
          exact ⟨hd0.p, by rw [List.length_append, HL1.out]; rfl, hd0.l2, ⟨hA8, hc8, (show n1 + 1 ≤ 8796093022208 by omega)⟩, hd0.k2, hf8.more hlw, hd0.f2, hs8.keepF (lo := w5.heap.size) hf8 (fun p hp _ => h2 p hp), hd0.s2.more hsz⟩)
        obtain ⟨wx, hwx⟩ : ∃ wx, wx = ((((w7.setCell ⟨w1.heap.size, 1, none⟩ (.slice A7 (n1 + 1) c7)).setCell ⟨L, k * 3, none⟩ (.int .i64 P)).setCell ⟨L, k * 3 + 1, none⟩ (.slice A7 (n1 + 1) c7)).setCell ⟨L, k * 3 + 2, none⟩ (.slice Ac n2 c2)).setCell ⟨w.heap.size, 0, none⟩ (.slice (some ⟨L, 0, none⟩) (k + 1) cL) := ⟨_, rfl⟩
        obtain ⟨fin, rwx, t5⟩ := ln_grow P A7 (n1 + 1) c7 Ac n2 c2 H.out hlo HB7.out hf.out HH0.out HO7.out hXw.out (by have := HLL.out; omega) (by omega) hXs.out (by have := HLL.out; have := hXs.out; omega) HD.out R17.out R07.out HR.out wx hwx
        have FIN := hide fin; have RWX := hide rwx; have HWX := hide hwx.symm
        have v0 := RX7.out.cell (k := 0) rfl
        have v1 := RX7.out.cell (k := 1) rfl
        have v2 := RX7.out.cell (k := 2) rfl
        obtain ⟨⟨u0, u1, u2⟩, uf⟩ := hd_row HOX.out HH0.out
        simp only at u0 u1 u2
        have uf0 := uf (k * 3)
        have uf1 := uf (k * 3 + 1)
        have uf2 := uf (k * 3 + 2)
        have R0x := R07.out.far (p := ⟨w1.heap.size, 1, none⟩) (by have := hXw.out; simp only; omega) (.slice A7 (n1 + 1) c7)
        have t3 := R0x.cell (k := 0) rfl
        have t4 := R0x.free 0
        have hLg : ¬ L = w.heap.size := by have := HLL.out; omega
        have hgL : ¬ w.heap.size = L := by have := HLL.out; omega
        have hwk := HWK.out
        clear hA7 hc7 hf7 ho2 hg2 ho3 hg3 hG1 ho8 fin rwx hwx uf R0x p0 p1 a0 a1
        go_upto_region 25 with (fail)
        rw [HWX.out]
        clear HWX t3 t4 v0 v1 v2 u0 u1 u2 uf0 uf1 uf2
        have t6 := RWX.out.cell (k := 0) rfl
        have t7 := RWX.out.free 0
        have f0 := (RWX.out.set_ 0 (.slice (some ⟨L, 0, none⟩) (k + 1) cL)).cell (k := 0) rfl
        go_wp2_with fail
        exact bodyPost_ret (v := .tuple #[gv (some ⟨L, 0, none⟩) (k + 1) cL, .int .i64 0]) (by simp [results, Tryz.results26, go_sem, f0]) rfl FIN.out
    · have HR := hide (show slotU F f r = (numsE mkNN r, F) by unfold slotU; rw [if_neg (by simp [hc0]), if_neg hE])
      obtain ⟨x, hx⟩ : ∃ x, numsE mkNN r = x := ⟨_, rfl⟩
      rw [hx] at hE HR ⊢
      have hb : (x == 0) = false := by rw [beq_eq_false_iff_ne]; exact hE
      have t0 := R05.out.cell (k := 0) rfl
      have t1 := R15.out.cell (k := 0) rfl
      have t2 := R15.out.free 0
      have f0 := (R15.out.set_ 0 (.slice A (k + 1) c)).cell (k := 0) rfl
      have FIN := hide (ln_same H.out HB5.out HR.out)
      clear hE hx
      go_wp2_with fail
      exact bodyPost_ret (v := .tuple #[gv A (k + 1) c, .int .i64 x]) (by simp [results, Tryz.results26, go_sem, f0]) rfl FIN.out
  · have HR := hide (show slotU F f r = (10, F) by unfold slotU; rw [if_pos hc0])
    have h2z : (0 : Int) < (n2 : Int) := by
      have := HL2.out
      have h3 : f.code.length ≠ 0 := fun e => hc0 (List.eq_nil_of_length_eq_zero e)
      omega
    have t0 := R05.out.cell (k := 0) rfl
    have t1 := R15.out.cell (k := 0) rfl
    have t2 := R15.out.free 0
    have f0 := (R15.out.set_ 0 (.slice A (k + 1) c)).cell (k := 0) rfl
    have FIN := hide (ln_same H.out HB5.out HR.out)
    go_wp2_with fail
    exact bodyPost_ret (v := .tuple #[gv A (k + 1) c, .int .i64 10]) (by simp [results, Tryz.results26, go_sem, f0]) rfl FIN.out

set_option maxHeartbeats 4000000 in
set_option maxRecDepth 100000 in
theorem rline_ins (lo : Nat) (A : Option Addr) (n c : Nat) (hs : List Hd) (F : Pg) (f : Fn) (b1 o1 nw cw : Nat) (nm : List UInt8) (r : List (List UInt8)) (w : World) (H : Hid (PgAt w lo w.heap.size A n c hs F)) (hlo : lo ≤ w.heap.size) (hb1 : b1 < w.heap.size) (hS : Hid (Sees w w.heap.size (some ⟨b1, o1, none⟩) (wcells (nm :: r)))) (hn : nw = r.length + 1) (hnc : nw ≤ cw) (hnb : nw ≤ 100000001) (hlen : Hid (∀ x ∈ r, x.length ≤ 100000000)) (hne : nm ≠ kwF) (hns : nm ≠ kwS) (hf : Hid (F.getLast? = some f)) (hsm : Hid (SmallP 100000 F)) :
    Calls Tryz.prog 26 #[gv A n c, .slice (some ⟨b1, o1, none⟩) nw cw] w (LnPost lo (instU F f nm r) w) := by
  obtain ⟨j0, ji, jz0, jz1, jz2⟩ := info_parts Tryz.info49u
  obtain ⟨W, hW, hbW, hsW, r0, r1⟩ := boxes2p w [.slice A n c] [.slice none 0 0] 29 29
  have HBW := hide hbW; have R0 := hide r0; have R1 := hide r1; have HSW := hide hsW
  obtain ⟨b1', o1', e1, _, q0⟩ := word_at hS.out (k := 0) rfl
  injection e1 with e1
  injection e1 with e1 e2
  subst e1 e2
  rw [Nat.add_zero] at q0
  have q1 : W.cell? ⟨b1, o1, none⟩ = some (.string ⟨nm.toArray⟩) := (hbW.cell (p := ⟨b1, o1, none⟩) (by simpa using hb1)).trans q0
  have hneb : (nm == [102, 117, 110, 99]) = false := by simpa [kwF] using hne
  have hnsb : (nm == [115, 108, 111, 116]) = false := by simpa [kwS] using hns
  obtain ⟨s0, si, sz0, sz1, sz2⟩ := info_parts Tryz.info44u
  obtain ⟨hn0, hFk⟩ := last_at hf.out H.out.len
  obtain ⟨k, rfl⟩ : ∃ k, n = k + 1 := ⟨n - 1, by omega⟩
  rw [Nat.add_sub_cancel] at hFk
  have hkh : k < hs.length := by rw [H.out.hd.len, H.out.len]; omega
  obtain ⟨⟨P, As, n1, c1, Ac, n2, c2⟩, hh0⟩ : ∃ h, hs[k]? = some h := ⟨hs[k], List.getElem?_eq_getElem hkh⟩
  have HH0 := hide hh0
  have hdk := H.out.hd.at_ k _ _ hh0 hFk
  have HDK := hide hdk
  have hk9 : k + 1 ≤ 100000 := by have := hsm.out.1; have := H.out.len; omega
  have hfm := hsm.out.2 f (List.mem_of_getElem? hFk)
  have hl1 := hdk.l1
  have hl2 := hdk.l2
  simp only at hl1 hl2
  have hn1 : n1 ≤ 100000 := by omega
  have hn2 : n2 ≤ 100000 := by omega
  have HL1 := hide hl1; have HL2 := hide hl2
  have z0 := r0.cell (k := 0) rfl
  have HCA := hide H.out.cap.1
  have HCL := hide (show (hcells hs).length = (k + 1) * 3 by rw [hcells_length, H.out.hd.len, H.out.len])
  have HCS := hide (H.out.below hbW).see
  have HCC := hide H.out.cap.2.1
  have HW := hide hW
  have hcw : 1 ≤ cw := by omega
  have hnz : 1 ≤ nw := by omega
  have hnz2 : (0 : Int) < (nw : Int) := by omega
  have hnz3 : 0 < nw := by omega
  have hwk : IntKind.i64.wrap ((k : Int) + 1 - 1) = (k : Int) := by rw [IntKind.wrap_i64]; omega
  have HWK := hide hwk
  have HN := hide hn
  clear hW hbW hsW r0 r1 q0 hn hFk hkh hh0 hdk hfm hl1 hl2 hwk hn0 hne hns
  go_enter Tryz.func26, Tryz.ntmps26
  go_upto_region 1 with (fail)
  rw [HW.out]
  clear HW
  go_upto_region 11 with (at_builtin; refine wpList_append_seesN rfl (.const (.slice none 0 0)) (.tmp 49) 27 rfl W.heap.size 49 j0 (.agg #[.int .i64 0, .slice none 0 0, .slice none 0 0]) 3 56 Tryz.underlying27 ji jz0 jz1 jz2 rfl (by decide) (.slice none 0 0) 0 [] rfl (World.ownsRow_nil _ _ _ _) w.heap.size A (k + 1) c (hcells hs) rfl HCA HCL HCS HCC (hcells_oneCell _) (by unfold maxLen; omega) (by omega) (Nat.le_refl _) ?_; intro v1 w1 ho1 hg1)
  have hg1n : W.grownBy w1 none := hg1
  rw [Nat.zero_add, List.nil_append] at ho1
  have R01 := hide (R0.out.grown hg1n (fun e => by cases e))
  have R11 := hide (R1.out.grown hg1n (fun e => by cases e))
  have HB1 := hide (HBW.out.grown hg1n HBW.out.size (fun k hk => by cases hk))
  have hw1 := hide (show W.heap.size ≤ w1.heap.size from hg1n.size)
  obtain ⟨L, cL, rfl, hLb, hLl, -, -⟩ := own_block ho1 (by omega)
  obtain ⟨⟨u0, u1, u2⟩, -⟩ := hd_row ho1 HH0.out
  simp only at u0 u1 u2
  have HO1 := hide (own_base ho1 (show w.heap.size + 2 ≤ W.heap.size by have := HSW.out; omega))
  have HLL := hide (show w.heap.size + 2 ≤ L ∧ L < w1.heap.size from ⟨by have := HSW.out; omega, hLl⟩)
  have hwk := HWK.out
  obtain ⟨W2, hW2⟩ : ∃ W2, w1.alloc (.cells #[.int .i64 P, .slice As n1 c1, .slice Ac n2 c2] 49) = W2 := ⟨_, rfl⟩
  have HW2 := hide hW2
  have HB2 := hide (show Below w.heap.size w W2 by rw [← hW2]; exact HB1.out.alloc HB1.out.size _)
  have R02 := hide (show Row W2 w.heap.size 29 [.slice A (k + 1) c] by rw [← hW2]; exact R01.out.alloc _)
  have R12 := hide (show Row W2 (w.heap.size + 1) 29 [.slice none 0 0] by rw [← hW2]; exact R11.out.alloc _)
  have RX2 := hide (show Row W2 w1.heap.size 49 [.int .i64 P, .slice As n1 c1, .slice Ac n2 c2] by rw [← hW2]; exact Row.new w1 _ _)
  have HO2 := hide (show W2.ownsRow (w.heap.size + 2) 49 3 (.slice (some ⟨L, 0, none⟩) (k + 1) cL) (k + 1) (hcells hs) by rw [← hW2]; exact HO1.out.alloc _)
  clear hg1 hg1n ho1 hLb hLl hW2 z0
  go_upto_region 12 with (fail)
  rw [HW2.out]
  clear HW2 u0 u1 u2 hwk
  have q2 : W2.cell? ⟨b1, o1, none⟩ = W.cell? ⟨b1, o1, none⟩ := (HB2.out.cell (p := ⟨b1, o1, none⟩) (by simpa using hb1)).trans (HBW.out.cell (p := ⟨b1, o1, none⟩) (by simpa using hb1)).symm
  rw [q1] at q2
  have cn := rtinstr_any b1 o1 nw cw nm r W2 w.heap.size HB2.out.size hb1 (hide (hS.out.below HB2.out)) HN.out hnc hnb hlen
  go_wp2_with fail
  refine cn.mono ?_
  rintro e w5 ⟨rfl, hb5⟩
  have hb25 := hide hb5
  clear hb5 cn q1 q2
  have HB5 := hide (HB2.out.trans (hb25.out.mono HB2.out.size))
  have R05 := hide (R02.out.call hb25.out)
  have R15 := hide (R12.out.call hb25.out)
  have RX5 := hide (RX2.out.call hb25.out)
  have HO25 := hide (own_below HO2.out hb25.out)
  have hXs := hide (show w1.heap.size < w5.heap.size from RX5.out.lt)
  have hXw := hide (show w.heap.size + 2 ≤ w1.heap.size by have := HSW.out; have := hw1.out; omega)
  obtain ⟨x, hx⟩ : ∃ x, insX7 nm r = x := ⟨_, rfl⟩
  have HXX := hide hx
  rw [hx]
  obtain ⟨x0, x1, x2, x3, x4⟩ := x
  dsimp only at *
  obtain ⟨Wb, hWb⟩ : ∃ Wb, w5.alloc (.cells #[.int .i64 x0, .int .i64 x1, .int .i64 x2, .int .i64 x3, .int .u64 x4] 44) = Wb := ⟨_, rfl⟩
  have RI := hide (show Row Wb w5.heap.size 44 [.int .i64 x0, .int .i64 x1, .int .i64 x2, .int .i64 x3, .int .u64 x4] by rw [← hWb]; exact Row.new w5 _ _)
  have HB5 := hide (show Below w.heap.size w Wb by rw [← hWb]; exact HB5.out.alloc HB5.out.size _)
  have R05 := hide (show Row Wb w.heap.size 29 [.slice A (k + 1) c] by rw [← hWb]; exact R05.out.alloc _)
  have R15 := hide (show Row Wb (w.heap.size + 1) 29 [.slice none 0 0] by rw [← hWb]; exact R15.out.alloc _)
  have RX5 := hide (show Row Wb w1.heap.size 49 [.int .i64 P, .slice As n1 c1, .slice Ac n2 c2] by rw [← hWb]; exact RX5.out.alloc _)
  have HO25 := hide (show Wb.ownsRow (w.heap.size + 2) 49 3 (.slice (some ⟨L, 0, none⟩) (k + 1) cL) (k + 1) (hcells hs) by rw [← hWb]; exact HO25.out.alloc _)
  have hXs := hide (show w1.heap.size < Wb.heap.size from RX5.out.lt)
  have HWb := hide hWb
  clear hx hWb
  go_upto_region 20 with (fail)
  rw [HWb.out]
  clear HWb
  by_cases hE : insE7 nm r = 0
  · have HR := hide (show instU F f nm r = (0, F.dropLast ++ [⟨f.params, f.slots, f.code ++ [⟨x0, x1, x2, x3, x4⟩]⟩]) by rw [instU_eq, if_pos hE, HXX.out])
    rw [hE]
    clear hE
    have HDB := hide (HDK.out.below HB5.out)
    have SCA := hide HDK.out.k2.1
    have SCL := hide (show (icells f.code).length = n2 * 5 by rw [icells_length, HL2.out])
    have SCS := hide HDB.out.s2
    have SCC := hide HDK.out.k2.2.1
    have hbs := hide HB5.out.size
    have a0 := RX5.out.cell (k := 2) rfl
    have a1 : ∀ o : Obj, (Wb.alloc o).cell? ⟨w1.heap.size, 2, none⟩ = some (.slice Ac n2 c2) := fun o => (RX5.out.alloc o).cell (k := 2) rfl
    have HM1 := hide (show 0 + n2 ≤ maxLen by unfold maxLen; omega)
    have HM2 := hide (show (0 + n2) * 40 ≤ 140737488355328 by omega)
    have HM3 := hide (show 0 + n2 + 1 ≤ maxLen by unfold maxLen; omega)
    have HM4 := hide (show (0 + n2 + 1) * 40 ≤ 140737488355328 by omega)
    have i0 := RI.out.cell (k := 0) rfl
    have i1 := RI.out.cell (k := 1) rfl
    have i2 := RI.out.cell (k := 2) rfl
    have i3 := RI.out.cell (k := 3) rfl
    have i4 := RI.out.cell (k := 4) rfl
    have HRIL := hide RI.out.lt
    go_upto_region 22 with (fail)
    go_region_law
      (first
        | (refine wp_append_seesN (.const (.slice none 0 0)) (.tmp 100) 47 rfl Wb.heap.size 44 s0 (.agg #[.int .i64 0, .int .i64 0, .int .i64 0, .int .i64 0, .int .u64 0]) 5 40 Tryz.underlying47 si sz0 sz1 sz2 rfl (by decide) (.slice none 0 0) 0 [] rfl (World.ownsRow_nil _ _ _ _) w.heap.size Ac n2 c2 (icells f.code) rfl SCA SCL (hide (SCS.out.draws 1)) SCC (icells_oneCell _) HM1.out HM2.out (Nat.le_refl _) ?_; intro v3 w6 ho3 hg3; have hG1 : Wb.grownBy w6 none := (grown_draws (World.grownBy.refl Wb none) 1).trans hg3; have s20 := (RI.out.grown hG1 (fun e => by cases e)).cell (k := 0) rfl; have s21 := (RI.out.grown hG1 (fun e => by cases e)).cell (k := 1) rfl; have s22 := (RI.out.grown hG1 (fun e => by cases e)).cell (k := 2) rfl; have s23 := (RI.out.grown hG1 (fun e => by cases e)).cell (k := 3) rfl; have s24 := (RI.out.grown hG1 (fun e => by cases e)).cell (k := 4) rfl)
        | (refine wp_append_seesN (.const (.slice none 0 0)) (.tmp 100) 47 rfl Wb.heap.size 44 s0 (.agg #[.int .i64 0, .int .i64 0, .int .i64 0, .int .i64 0, .int .u64 0]) 5 40 Tryz.underlying47 si sz0 sz1 sz2 rfl (by decide) (.slice none 0 0) 0 [] rfl (World.ownsRow_nil _ _ _ _) w.heap.size Ac n2 c2 (icells f.code) rfl SCA SCL (hide ((SCS.out.draws 1).alloc hbs.out _)) SCC (icells_oneCell _) HM1.out HM2.out (by simp) ?_; intro v3 w6 ho3 hg3; have hG1 : Wb.grownBy w6 none := ((grown_draws (World.grownBy.refl Wb none) 1).trans (World.grownBy_alloc _ _ _)).trans hg3; have hN1 := ((Row.new (Wb.drewN 1) 44 [.int .i64 x0, .int .i64 x1, .int .i64 x2, .int .i64 x3, .int .u64 x4]).at_ (g' := Wb.heap.size) rfl).grown hg3 (fun e => by cases e); skip)
        | (refine wp_append_own _ (.tmp 101) (.tmp 103) 47 rfl Wb.heap.size 44 s0 (.agg #[.int .i64 0, .int .i64 0, .int .i64 0, .int .i64 0, .int .u64 0]) 5 40 Tryz.underlying47 si sz0 sz1 sz2 rfl (by decide) v3 (0 + n2) ([] ++ icells f.code) rfl (ho3.alloc _) ⟨w6.heap.size, 0, none⟩ 1 1 [.int .i64 x0, .int .i64 x1, .int .i64 x2, .int .i64 x3, .int .u64 x4] rfl rfl (fun j u hu => by rw [WideShapes.add_plain, Nat.zero_add]; exact (Row.new w6 44 [.int .i64 x0, .int .i64 x1, .int .i64 x2, .int .i64 x3, .int .u64 x4]).cell hu) (icells_oneCell [⟨x0, x1, x2, x3, x4⟩]) HM3.out HM4.out (Nat.le_trans hG1.size (by simp)) ?_; intro v2 w7 ho2 hg2 _; have HG7 : Hid (Wb.grownBy w7 none) := hide ((hG1.trans (World.grownBy_alloc _ _ _)).andThen hg2 (fun k hk => .inl (ho3.lt k hk).1)); obtain ⟨A7, c7, rfl, hA7, hc7, hf7, -⟩ := own_seen ho2; have p0 := (RX5.out.grown HG7.out (fun e => by cases e)).cell (k := 2) rfl; have p1 := (RX5.out.grown HG7.out (fun e => by cases e)).free 2)
        | (refine wp_append_own _ (.tmp 101) (.tmp 103) 47 rfl Wb.heap.size 44 s0 (.agg #[.int .i64 0, .int .i64 0, .int .i64 0, .int .i64 0, .int .u64 0]) 5 40 Tryz.underlying47 si sz0 sz1 sz2 rfl (by decide) v3 (0 + n2) ([] ++ icells f.code) rfl ho3 ⟨Wb.heap.size, 0, none⟩ 1 1 [.int .i64 x0, .int .i64 x1, .int .i64 x2, .int .i64 x3, .int .u64 x4] rfl rfl (fun j u hu => by rw [WideShapes.add_plain, Nat.zero_add]; exact hN1.cell hu) (icells_oneCell [⟨x0, x1, x2, x3, x4⟩]) HM3.out HM4.out hG1.size ?_; intro v2 w7 ho2 hg2 _; have HG7 : Hid (Wb.grownBy w7 none) := hide (hG1.andThen hg2 (fun k hk => .inl (ho3.lt k hk).1)); obtain ⟨A7, c7, rfl, hA7, hc7, hf7, -⟩ := own_seen ho2; have p0 := (RX5.out.grown HG7.out (fun e => by cases e)).cell (k := 2) rfl; have p1 := (RX5.out.grown HG7.out (fun e => by cases e)).free 2))
    all_goals
      simp only [Nat.zero_add, List.nil_append] at ho2
      have ho8 : w7.ownsRow Wb.heap.size 44 5 (.slice A7 (n2 + 1) c7) (n2 + 1) (icells (f.code ++ [⟨x0, x1, x2, x3, x4⟩])) := by
        rw [icells_append]; exact ho2
      have HB7 := hide (HB5.out.grown HG7.out hbs.out (fun k hk => by cases hk))
      have R07 := hide (R05.out.grown HG7.out (fun e => by cases e))
      have R17 := hide (R15.out.grown HG7.out (fun e => by cases e))
      have RX7 := hide ((RX5.out.grown HG7.out (fun e => by cases e)).set_ 2 (.slice A7 (n2 + 1) c7))
      have HO7 := hide (own_grownN HO25.out HG7.out)
      have HOX := hide (own_other HO7.out (p := ⟨w1.heap.size, 2, none⟩) (by have := HLL.out; simp [Value.ownBlock]; omega) (.slice A7 (n2 + 1) c7))
      have hSN := hide (Sees.ownN ho8)
      have hk7 := hide (own_seen ho8)
      have HD := hide (show ∀ wf : World, (∀ p : Addr, p.block < w.heap.size → wf.cell? p = w.cell? p) → (∀ p : Addr, Wb.heap.size ≤ p.block → wf.cell? p = w7.cell? p) → HdAt wf lo w7.heap.size ⟨P, As, n1, c1, A7, n2 + 1, c7⟩ ⟨f.params, f.slots, f.code ++ [⟨x0, x1, x2, x3, x4⟩]⟩ from fun wf h1 h2 => by
        have hd0 := HDK.out.keep (w' := wf) (fun p _ hp => h1 p hp)
        obtain ⟨A8, c8, e8, hA8, hc8, hf8, hs8⟩ := hk7.out
        injection e8 with e8 _ e9
        subst e8 e9
        have hsz : w.heap.size ≤ w7.heap.size := HB7.out.size
        have hlw : lo ≤ Wb.heap.size := Nat.le_trans hlo HB5.out.size
        exact ⟨hd0.p, hd0.l1, by rw [List.length_append, HL2.out]; rfl, hd0.k1, ⟨hA8, hc8, (show n2 + 1 ≤ 8796093022208 by omega)⟩, hd0.f1, hf8.more hlw, hd0.s1.more hsz, hs8.keepF (lo := Wb.heap.size) hf8 (fun p hp _ => h2 p hp)⟩)
      obtain ⟨wx, hwx⟩ : ∃ wx, wx = ((((w7.setCell ⟨w1.heap.size, 2, none⟩ (.slice A7 (n2 + 1) c7)).setCell ⟨L, k * 3, none⟩ (.int .i64 P)).setCell ⟨L, k * 3 + 1, none⟩ (.slice As n1 c1)).setCell ⟨L, k * 3 + 2, none⟩ (.slice A7 (n2 + 1) c7)).setCell ⟨w.heap.size, 0, none⟩ (.slice (some ⟨L, 0, none⟩) (k + 1) cL) := ⟨_, rfl⟩
      obtain ⟨fin, rwx, t5⟩ := ln_grow P As n1 c1 A7 (n2 + 1) c7 H.out hlo HB7.out hf.out HH0.out HO7.out hXw.out (by have := HLL.out; omega) (by omega) hXs.out (by have := HLL.out; have := hXs.out; omega) HD.out R17.out R07.out HR.out wx hwx
      have FIN := hide fin; have RWX := hide rwx; have HWX := hide hwx.symm
      have v0 := RX7.out.cell (k := 0) rfl
      have v1 := RX7.out.cell (k := 1) rfl
      have v2 := RX7.out.cell (k := 2) rfl
      obtain ⟨⟨u0, u1, u2⟩, uf⟩ := hd_row HOX.out HH0.out
      simp only at u0 u1 u2
      have uf0 := uf (k * 3)
      have uf1 := uf (k * 3 + 1)
      have uf2 := uf (k * 3 + 2)
      have R0x := R07.out.far (p := ⟨w1.heap.size, 2, none⟩) (by have := hXw.out; simp only; omega) (.slice A7 (n2 + 1) c7)
      have t3 := R0x.cell (k := 0) rfl
      have t4 := R0x.free 0
      have hLg : ¬ L = w.heap.size := by have := HLL.out; omega
      have hgL : ¬ w.heap.size = L := by have := HLL.out; omega
      have hwk := HWK.out
      clear hA7 hc7 hf7 ho2 hg2 ho3 hg3 hG1 ho8 fin rwx hwx uf R0x p0 p1 a0 a1
      go_upto_region 25 with (fail)
      rw [HWX.out]
      clear HWX t3 t4 v0 v1 v2 u0 u1 u2 uf0 uf1 uf2
      have t6 := RWX.out.cell (k := 0) rfl
      have t7 := RWX.out.free 0
      have f0 := (RWX.out.set_ 0 (.slice (some ⟨L, 0, none⟩) (k + 1) cL)).cell (k := 0) rfl
      go_wp2_with fail
      exact bodyPost_ret (v := .tuple #[gv (some ⟨L, 0, none⟩) (k + 1) cL, .int .i64 0]) (by simp [results, Tryz.results26, go_sem, f0]) rfl FIN.out
  · have HR := hide (show instU F f nm r = (insE7 nm r, F) by rw [instU_eq, if_neg hE])
    obtain ⟨x, hx⟩ : ∃ x, insE7 nm r = x := ⟨_, rfl⟩
    rw [hx] at hE HR ⊢
    have hb : (x == 0) = false := by rw [beq_eq_false_iff_ne]; exact hE
    have t0 := R05.out.cell (k := 0) rfl
    have t1 := R15.out.cell (k := 0) rfl
    have t2 := R15.out.free 0
    have f0 := (R15.out.set_ 0 (.slice A (k + 1) c)).cell (k := 0) rfl
    have FIN := hide (ln_same H.out HB5.out HR.out)
    clear hE hx
    go_wp2_with fail
    exact bodyPost_ret (v := .tuple #[gv A (k + 1) c, .int .i64 x]) (by simp [results, Tryz.results26, go_sem, f0]) rfl FIN.out
end Go.Proofs.YtlhaendgdeflkaaGreatDoor
end
