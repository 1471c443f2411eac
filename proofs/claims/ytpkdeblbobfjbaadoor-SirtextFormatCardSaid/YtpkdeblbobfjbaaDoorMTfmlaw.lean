import Derived.Test.YtpkdeblbobfjbaaDoorMGy
import Derived.Test.YtpkdeblbobfjbaaDoorMDodd
import Derived.Test.YtpkdeblbobfjbaaDoorMDprog
import Derived.Test.YtpkdeblbobfjbaaDoorMGx
import Derived.Deep.RegionHeld3
set_option linter.unusedVariables false
set_option linter.unusedSimpArgs false
section
/-
  The walk of the law on Format (chapter 7): for all choices it returns true, and what was in memory before the call is as it was. Conditions: those of the types; the listed tables lie as their initialisers lay them.
-/
namespace Go.Proofs.YtpkdeblbobfjbaaDoor
open Go.RowKit

theorem good_imm {funcs most : Nat} {F : Pg} (h : PgGood funcs most F) : ∀ f ∈ F, ∀ x ∈ f.code, 0 ≤ x.imm ∧ x.imm ≤ 18446744073709551615 := fun f hfm => by
  obtain ⟨k, hk, rfl⟩ := List.getElem_of_mem hfm
  exact (h.fn k _ (List.getElem?_eq_getElem hk)).1.imm
set_option maxRecDepth 100000 in
set_option maxHeartbeats 4000000 in
theorem fmlaw_walk (A0 : Option Addr) (n0 c0 : Nat) (zs : List Int) (w : World) (h : Hid (BsAt w w.heap.size A0 n0 c0 zs)) (hT : Hid (Tabs w.heap.size w)) (hS : Hid (Shapes w)) :
    Calls Tryd.prog 4 #[.slice A0 n0 c0] w fun e w' => e = .returned (.bool true) ∧ Below w.heap.size w w' := by
  go_enter Tryd.func4, Tryd.ntmps4
  go_wp2_with fail
  refine (awake_any w hT.out.p.here (hide hT.out.s)).mono ?_
  rintro e w1 ⟨rfl, hb1⟩
  have B1 := hide hb1
  have C1 := hide (h.out.call hb1)
  clear hb1
  go_wp2_with fail
  refine (new_any A0 n0 c0 zs 200 w1 (hide C1.out.nil_) (hide C1.out.len) C1.out.nc (by have := C1.out.cm; have := C1.out.nc; omega) (by omega) (hide C1.out.see) (hide C1.out.byt)).mono ?_
  rintro e w2 ⟨rfl, hC2, hb2⟩
  have HC2 := hide hC2
  have B2 := hide (below_call B1.out hb2)
  have hg2 : w1.heap.size < w2.heap.size := hC2.lt
  have hgw : w.heap.size ≤ w1.heap.size := B1.out.size
  clear hC2 hb2
  go_wp2_with fail
  refine (prog_any w1.heap.size 4 10 w2 HC2 (by omega) (by omega) (by omega)).mono ?_
  rintro e w3 ⟨AP, nP, cP, hsP, F, rfl, hpg, hgood, hC3, hG3⟩
  have HIM := hide (good_imm hgood)
  have hn1 : 1 ≤ nP := by have := hgood.one; have := hpg.len; omega
  have hn80 : nP ≤ 80 := by have := hgood.few; have := hpg.len; omega
  have HGD : Hid (∀ f ∈ F, 1 ≤ f.code.length ∧ f.code.length ≤ 1024 ∧ f.slots.length ≤ 512) := hide (fun f hfm => by
    obtain ⟨k, hk, rfl⟩ := List.getElem_of_mem hfm
    have := hgood.fn k _ (List.getElem?_eq_getElem hk)
    exact ⟨this.1.some, by have := this.1.short; omega, by have := this.1.few; omega⟩)
  have B3 := hide (below_inner B2.out hG3 (by omega))
  have hw3 : w2.heap.size ≤ w3.heap.size := hG3.size
  obtain ⟨P, hP⟩ : ∃ P, w3.heap.size = P := ⟨_, rfl⟩
  obtain ⟨W4, hW4⟩ : ∃ W4, w3.alloc (.cells #[.slice AP nP cP] 33) = W4 := ⟨_, rfl⟩
  have HW4 := hide hW4
  have HPP := hide hP
  have R4 := hide (show Row W4 P 33 [.slice AP nP cP] by rw [← hW4, ← hP]; exact Row.new w3 33 [.slice AP nP cP])
  have B4 := hide (show Below w.heap.size w W4 by rw [← hW4]; exact B3.out.alloc B3.out.size _)
  have G4 := hide (show PgAt W4 w2.heap.size W4.heap.size AP nP cP hsP F by rw [← hW4]; exact hpg.alloc _)
  have C4 := hide (show Codes W4 w1.heap.size by rw [← hW4]; exact hC3.alloc _)
  have hs4 : P < W4.heap.size := R4.out.lt
  have hPw : w2.heap.size ≤ P := by omega
  have hw4 : w2.heap.size ≤ W4.heap.size := by omega
  have p4 := R4.out.cell (k := 0) rfl
  clear hpg hgood hC3 hG3 hP hW4
  go_upto_region 5 with (fail)
  rw [HW4.out, HPP.out]
  clear HW4 HPP
  have co := fun q => odd_any w1.heap.size w2.heap.size AP nP cP hsP F (W4.drewN q) (hide (C4.out.drewN q)) (hide (G4.out.drewN q)) hg2 hw4 hn1 hn80 HGD HIM
  go_region_held3 (fun w' => w'.cell? ⟨P, 0, none⟩ = some (.slice AP nP cP)) (first | go_keep | exact m5)
    (first | (go_at_call 10; refine (co _).mono ?_; rintro e w5 ⟨A5, c5, hs5, F5, rfl, hp5, hC5, hG5, hI5⟩; have m5 := ((R4.out.drewN _).grown hG5 (fun e => by injection e with e; omega)).cell (k := 0) rfl))
  have B5 := hide (below_inner (below_draws B4.out _) hG5 (by omega))
  have G5 := hide (((G4.out.drewN _).grown hG5 hg2 (Nat.le_refl _)).more hG5.size (Nat.le_refl _))
  have H5 := hide hp5
  have HI5 := hide hI5
  obtain ⟨Z, hZ⟩ : ∃ Z, w5.heap.size = Z := ⟨_, rfl⟩
  obtain ⟨wl, hwl⟩ : ∃ wl, w5.alloc (.cells #[.slice AP nP cP, .slice A5 nP c5, .slice none 0 0] 33) = wl := ⟨_, rfl⟩
  have BL := hide (show Below w.heap.size w wl by rw [← hwl]; exact B5.out.alloc B5.out.size _)
  have RZ := hide (show Row wl Z 33 [.slice AP nP cP, .slice A5 nP c5, .slice none 0 0] by rw [← hwl, ← hZ]; exact Row.new w5 33 [.slice AP nP cP, .slice A5 nP c5, .slice none 0 0])
  have PROGS := hide (fun (k : Nat) (hk : k < 3) => (show ∃ (A : Option Addr) (n c : Nat) (hs : List Hd) (F : Pg) (lo : Nat), wl.cell? ⟨Z, k, none⟩ = some (.slice A n c) ∧ PgAt wl lo wl.heap.size A n c hs F ∧ ∀ f ∈ F, ∀ x ∈ f.code, 0 ≤ x.imm ∧ x.imm ≤ 18446744073709551615 from by
    rcases (show k = 0 ∨ k = 1 ∨ k = 2 by omega) with rfl | rfl | rfl
    · exact ⟨_, _, _, _, _, _, RZ.out.cell (k := 0) rfl, by rw [← hwl]; exact G5.out.alloc _, HIM.out⟩
    · exact ⟨_, _, _, _, _, _, RZ.out.cell (k := 1) rfl, by rw [← hwl]; exact H5.out.alloc _, HI5.out⟩
    · exact ⟨none, 0, 0, [], [], 0, RZ.out.cell (k := 2) rfl, zero_pg _ _ _, fun f hf => by cases hf⟩))
  rw [hwl, hZ]
  clear hp5 hC5 hG5 hI5 m5 hwl hZ co R4 B4 G4 C4 p4
  go_wp2_with fail
  go_loopw [6, 7, 8, 9, 10, 24] (fun _ _ _ _ _ iv wr => ∃ i : Nat, i ≤ 3 ∧ iv = .int .i64 (i : Int) ∧ Hid (Below wl.heap.size wl wr)) (fun _ _ _ _ _ iv _ => 3 - (intOf iv).toNat)
  case atStart => exact ⟨0, by omega, rfl, hide (Below.refl _ _)⟩
  case round =>
    obtain ⟨i, hi3, rfl, hbr⟩ := hrel
    by_cases hlt : i < 3
    · have hiz : (0 : Int) ≤ (i : Int) := by omega
      have hiz2 : (i : Int) < 3 := by omega
      obtain ⟨A, n, c, hs, FX, lo, hcell, hpx, himx⟩ := PROGS.out i hlt
      have z0 := keep_cellB hbr.out hcell
      obtain ⟨T, hTe⟩ : ∃ T, wr.heap.size = T := ⟨_, rfl⟩
      obtain ⟨Wt, hWt⟩ : ∃ Wt, wr.alloc (.cells #[.slice A n c] 33) = Wt := ⟨_, rfl⟩
      have HWt := hide hWt
      have HTE := hide hTe
      have RT := hide (show Row Wt T 33 [.slice A n c] by rw [← hWt, ← hTe]; exact Row.new wr 33 [.slice A n c])
      have BT := hide (show Below wl.heap.size wl Wt by rw [← hWt]; exact hbr.out.alloc hbr.out.size _)
      have BW := hide (BL.out.trans (BT.out.mono BL.out.size))
      have GT := hide (hpx.call BT.out)
      have HIX := hide himx
      obtain ⟨x, hx⟩ : ∃ x, fmtE FX = x := ⟨_, rfl⟩
      obtain ⟨ys, hys⟩ : ∃ ys, fmtT FX = ys := ⟨_, rfl⟩
      have t0 := RT.out.cell (k := 0) rfl
      have c1 := dformat_any Wt lo A n c hs FX GT HIX (hide ((hT.out.on BW.out).more BW.out.size)) (hide (hS.out.below BW.out))
      unfold FmtPost at c1
      rw [hx, hys] at c1
      have HXE := hide hx
      have HYS := hide hys
      clear hcell hpx himx hWt hTe hx hys
      go_upto_region 8 with (fail)
      rw [HWt.out, HTE.out]
      clear HWt HTE
      go_wp2_with fail
      refine c1.mono ?_
      rintro e w6 ⟨rfl, hb6⟩
      have B6 := hide (BT.out.trans (hb6.mono BT.out.size))
      have G6 := hide (GT.out.call hb6)
      have t6 := (RT.out.call hb6).cell (k := 0) rfl
      have c2 := rformat_any w6 lo A n c hs FX G6 HIX
      unfold FmtPost at c2
      rw [HXE.out, HYS.out] at c2
      clear hb6 t0 c1
      go_wp2_with fail
      refine c2.mono ?_
      rintro e w7 ⟨rfl, hb7⟩
      have B7 := hide (B6.out.trans (hb7.mono B6.out.size))
      clear hb7 t6 c2
      go_wp2_with fail
      go_roundw
      case rel => exact ⟨i + 1, by omega, by go_num, B7⟩
      case measure => simp [intOf]; omega
    · obtain rfl : i = 3 := by omega
      have hlz : ¬ (((3 : Nat) : Int) < 3) := by omega
      have FIN := hide (BL.out.trans (hbr.out.mono BL.out.size))
      clear hlt
      go_wp2_with fail
      go_ret
      exact ⟨rfl, FIN.out⟩
end Go.Proofs.YtpkdeblbobfjbaaDoor
end
