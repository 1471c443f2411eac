import Derived.Test.YtgcjckbndkddmaaDoorMGu
import Derived.Test.YtgcjckbndkddmaaDoorMDodd
import Derived.Deep.RegionHeld3
set_option linter.unusedVariables false
set_option linter.unusedSimpArgs false
section
/-
  The walk of the law on Encode. Conditions: those of the types; the listed tables lie as their initialisers lay them.
-/
namespace Go.Proofs.YtgcjckbndkddmaaDoor
open Go.RowKit

theorem enc_len (F : Pg) : (if encE F = 0 then encY F else []).length ≤ 1048576 := by
  by_cases h : encE F = 0
  · rw [if_pos h]
    unfold encE at h
    by_cases h1 : pgE F ≠ 0
    · rw [if_pos h1] at h; exact absurd h h1
    · rw [if_neg h1] at h
      by_cases h2 : 1048576 < (encY F).length
      · rw [if_pos h2] at h; cases h
      · omega
  · rw [if_neg h]; simp
set_option maxRecDepth 100000 in
set_option maxHeartbeats 4000000 in
theorem enclaw_walk (A0 : Option Addr) (n0 c0 : Nat) (zs : List Int) (w : World) (h : Hid (BsAt w w.heap.size A0 n0 c0 zs)) (hT : Hid (Tab w)) (hS : Hid (Shapes w)) :
    Calls Tryd.prog 3 #[.slice A0 n0 c0] w fun e w' => e = .returned (.bool true) ∧ Below w.heap.size w w' := by
  go_enter Tryd.func3, Tryd.ntmps3
  go_wp2_with fail
  refine (awake_any w hT hS).mono ?_
  rintro e w1 ⟨rfl, hb1⟩
  have B1 := hide hb1
  have C1 := hide (h.out.call hb1)
  clear hb1
  go_wp2_with fail
  refine (new_any A0 n0 c0 zs 200 w1 (hide C1.out.nil_) (hide C1.out.len) C1.out.nc (by have := C1.out.cm; have := C1.out.nc; omega) (by omega) (hide C1.out.see) (hide C1.out.byt)).mono ?_
  rintro e w2 ⟨rfl, hC2, hb2⟩
  have HC2 := hide hC2
  have B2 := hide (below_call B1.out hb2)
  have hg2 : w1.heap.size < w2.heap.size := hC2.lt
  have hgw : w.heap.size ≤ w1.heap.size := B1.out.size
  clear hC2 hb2
  go_wp2_with fail
  refine (prog_any w1.heap.size 4 10 w2 HC2 (by omega) (by omega) (by omega)).mono ?_
  rintro e w3 ⟨AP, nP, cP, hsP, F, rfl, hpg, hgood, hC3, hG3⟩
  obtain ⟨hW, hE, hL, hL14, him⟩ := drawn_small hgood (by omega) (by omega)
  have HIM := hide him
  have hn1 : 1 ≤ nP := by have := hgood.one; have := hpg.len; omega
  have hn80 : nP ≤ 80 := by have := hgood.few; have := hpg.len; omega
  have HGD : Hid (∀ f ∈ F, 1 ≤ f.code.length ∧ f.code.length ≤ 1024 ∧ f.slots.length ≤ 512) := hide (fun f hfm => by
    obtain ⟨k, hk, rfl⟩ := List.getElem_of_mem hfm
    have := hgood.fn k _ (List.getElem?_eq_getElem hk)
    exact ⟨this.1.some, by have := this.1.short; omega, by have := this.1.few; omega⟩)
  have B3 := hide (below_inner B2.out hG3 (by omega))
  have hw3 : w2.heap.size ≤ w3.heap.size := hG3.size
  obtain ⟨P, hP⟩ : ∃ P, w3.heap.size = P := ⟨_, rfl⟩
  obtain ⟨W4, hW4⟩ : ∃ W4, w3.alloc (.cells #[.slice AP nP cP] 28) = W4 := ⟨_, rfl⟩
  have HW4 := hide hW4
  have HPP := hide hP
  have R4 := hide (show Row W4 P 28 [.slice AP nP cP] by rw [← hW4, ← hP]; exact Row.new w3 28 [.slice AP nP cP])
  have B4 := hide (show Below w.heap.size w W4 by rw [← hW4]; exact B3.out.alloc B3.out.size _)
  have G4 := hide (show PgAt W4 w2.heap.size W4.heap.size AP nP cP hsP F by rw [← hW4]; exact hpg.alloc _)
  have C4 := hide (show Codes W4 w1.heap.size by rw [← hW4]; exact hC3.alloc _)
  have hs4 : P < W4.heap.size := R4.out.lt
  have hPw : w2.heap.size ≤ P := by omega
  have hw4 : w2.heap.size ≤ W4.heap.size := by omega
  have p4 := R4.out.cell (k := 0) rfl
  clear hpg hgood hC3 hG3 hW hE hL hL14 him hP hW4
  go_upto_region 5 with (fail)
  rw [HW4.out, HPP.out]
  clear HW4 HPP
  have co := fun q => odd_any w1.heap.size w2.heap.size AP nP cP hsP F (W4.drewN q) (hide (C4.out.drewN q)) (hide (G4.out.drewN q)) hg2 hw4 hn1 hn80 HGD HIM
  go_region_held3 (fun w' => w'.cell? ⟨P, 0, none⟩ = some (.slice AP nP cP)) (first | go_keep | exact m5)
    (first | (go_at_call 11; refine (co _).mono ?_; rintro e w5 ⟨A5, c5, hs5, F5, rfl, hp5, hC5, hG5, hI5⟩; have m5 := ((R4.out.drewN _).grown hG5 (fun e => by injection e with e; omega)).cell (k := 0) rfl))
  have B5 := hide (below_inner (below_draws B4.out _) hG5 (by omega))
  have G5 := hide (((G4.out.drewN _).grown hG5 hg2 (Nat.le_refl _)).more hG5.size (Nat.le_refl _))
  have H5 := hide hp5
  have HI5 := hide hI5
  obtain ⟨Z, hZ⟩ : ∃ Z, w5.heap.size = Z := ⟨_, rfl⟩
  obtain ⟨wl, hwl⟩ : ∃ wl, w5.alloc (.cells #[.slice AP nP cP, .slice A5 nP c5, .slice none 0 0] 28) = wl := ⟨_, rfl⟩
  have BL := hide (show Below w.heap.size w wl by rw [← hwl]; exact B5.out.alloc B5.out.size _)
  have RZ := hide (show Row wl Z 28 [.slice AP nP cP, .slice A5 nP c5, .slice none 0 0] by rw [← hwl, ← hZ]; exact Row.new w5 28 [.slice AP nP cP, .slice A5 nP c5, .slice none 0 0])
  have PROGS := hide (fun (k : Nat) (hk : k < 3) => (show ∃ (A : Option Addr) (n c : Nat) (hs : List Hd) (F : Pg) (lo : Nat), wl.cell? ⟨Z, k, none⟩ = some (.slice A n c) ∧ PgAt wl lo wl.heap.size A n c hs F ∧ ∀ f ∈ F, ∀ x ∈ f.code, 0 ≤ x.imm ∧ x.imm ≤ 18446744073709551615 from by
    rcases (show k = 0 ∨ k = 1 ∨ k = 2 by omega) with rfl | rfl | rfl
    · exact ⟨_, _, _, _, _, _, RZ.out.cell (k := 0) rfl, by rw [← hwl]; exact G5.out.alloc _, HIM.out⟩
    · exact ⟨_, _, _, _, _, _, RZ.out.cell (k := 1) rfl, by rw [← hwl]; exact H5.out.alloc _, HI5.out⟩
    · exact ⟨none, 0, 0, [], [], 0, RZ.out.cell (k := 2) rfl, zero_pg _ _ _, fun f hf => by cases hf⟩))
  rw [hwl, hZ]
  clear hp5 hC5 hG5 hI5 m5 hwl hZ co R4 B4 G4 C4 p4
  go_wp2_with fail
  go_loopw [6, 7, 8, 9, 10, 24] (fun _ _ _ _ _ iv wr => ∃ i : Nat, i ≤ 3 ∧ iv = .int .i64 (i : Int) ∧ Hid (Below wl.heap.size wl wr)) (fun _ _ _ _ _ iv _ => 3 - (intOf iv).toNat)
  case atStart => exact ⟨0, by omega, rfl, hide (Below.refl _ _)⟩
  case round =>
    obtain ⟨i, hi3, rfl, hbr⟩ := hrel
    by_cases hlt : i < 3
    · have hiz : (0 : Int) ≤ (i : Int) := by omega
      have hiz2 : (i : Int) < 3 := by omega
      obtain ⟨A, n, c, hs, FX, lo, hcell, hpx, himx⟩ := PROGS.out i hlt
      have z0 := keep_cellB hbr.out hcell
      obtain ⟨T, hTe⟩ : ∃ T, wr.heap.size = T := ⟨_, rfl⟩
      obtain ⟨Wt, hWt⟩ : ∃ Wt, wr.alloc (.cells #[.slice A n c] 28) = Wt := ⟨_, rfl⟩
      have HWt := hide hWt
      have HTE := hide hTe
      have RT := hide (show Row Wt T 28 [.slice A n c] by rw [← hWt, ← hTe]; exact Row.new wr 28 [.slice A n c])
      have BT := hide (show Below wl.heap.size wl Wt by rw [← hWt]; exact hbr.out.alloc hbr.out.size _)
      have BW := hide (BL.out.trans (BT.out.mono BL.out.size))
      have GT := hide (hpx.call BT.out)
      have HIX := hide himx
      obtain ⟨x, hx⟩ : ∃ x, encE FX = x := ⟨_, rfl⟩
      obtain ⟨ys, hys⟩ : ∃ ys, (if encE FX = 0 then encY FX else []) = ys := ⟨_, rfl⟩
      have HX := hide hx
      have HYS := hide hys
      have t0 := RT.out.cell (k := 0) rfl
      have hxx : (x != x) = false := by simp
      clear hcell hpx himx hWt hTe hx hys
      go_upto_region 8 with (fail)
      rw [HWt.out, HTE.out]
      clear HWt HTE
      go_wp2_with fail
      refine (dencode_any Wt lo A n c hs FX GT HIX (hide (hT.out.below BW.out)) (hide (hS.out.below BW.out))).mono ?_
      rintro e w6 ⟨r6, n6, rfl, ho6, hb6⟩
      rw [HYS.out] at ho6
      rw [HX.out]
      have hl6 : ys.length = n6 := by have := own_len ho6; simpa [cellsU8] using this
      obtain ⟨A6, c6, rfl, -, -, -, -⟩ := own_seen ho6
      have O6 := hide ho6
      have B6 := hide (BT.out.trans (hb6.mono BT.out.size))
      have G6 := hide (GT.out.call hb6)
      have t6 := (RT.out.call hb6).cell (k := 0) rfl
      have HL6 := hide hl6
      clear ho6 hb6 hl6 t0
      go_wp2_with fail
      refine (rencode_any w6 lo A n c hs FX G6 HIX).mono ?_
      rintro e w7 ⟨r7, n7, rfl, ho7, hb7⟩
      rw [HYS.out] at ho7
      rw [HX.out]
      have hl7 : ys.length = n7 := by have := own_len ho7; simpa [cellsU8] using this
      obtain ⟨A7, c7, rfl, -, -, -, -⟩ := own_seen ho7
      have O7 := hide ho7
      have S6 := hide (Sees.own (own_below O6.out hb7))
      have B7 := hide (B6.out.trans (hb7.mono B6.out.size))
      have hcm : n6 ≤ 4611686018427387904 := by have h1 := enc_len FX; rw [HYS.out, HL6.out] at h1; omega
      have cs := same_any A6 A7 n6 c6 n7 c7 ys w7.heap.size w7 HL6 (hide (hl7.symm.trans HL6.out)) hcm S6.out (Sees.own O7.out)
      clear ho7 hb7 hl7 t6
      go_wp2_with fail
      refine cs.mono ?_
      rintro e w8 ⟨rfl, q, rfl⟩
      have HN := hide (below_draws B7.out q)
      clear cs
      go_wp2_with fail
      go_roundw
      case rel => exact ⟨i + 1, by omega, by go_num, HN⟩
      case measure => simp [intOf]; omega
    · obtain rfl : i = 3 := by omega
      have hlz : ¬ (((3 : Nat) : Int) < 3) := by omega
      have FIN := hide (BL.out.trans (hbr.out.mono BL.out.size))
      clear hlt
      go_wp2_with fail
      go_ret
      exact ⟨rfl, FIN.out⟩
end Go.Proofs.YtgcjckbndkddmaaDoor
end
