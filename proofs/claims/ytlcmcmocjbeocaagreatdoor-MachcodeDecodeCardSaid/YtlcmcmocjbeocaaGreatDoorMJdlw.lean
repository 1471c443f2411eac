import Derived.Test.YtlcmcmocjbeocaaGreatDoorMJrde
import Derived.Test.YtlcmcmocjbeocaaGreatDoorMMod
import Derived.Test.YtlcmcmocjbeocaaGreatDoorMJdt
import Derived.Test.YtlcmcmocjbeocaaGreatDoorMJgd
import Derived.Test.YtlcmcmocjbeocaaGreatDoorMMrsam
import Derived.Test.YtlcmcmocjbeocaaGreatDoorMKit
import Derived.Lib.SmallJoins
import Derived.Laws.BitsAllLaws
import Derived.OpenShut
import Derived.Carry
set_option linter.unusedVariables false
set_option linter.unusedSimpArgs false
section
/-
  MachcodeDecode's law, walked: both Decodes give the same at seven lists of bytes. Conditions: those of the types; the table of TrailingZeros64 lies as it is laid.
-/
namespace Go.Proofs.YtlcmcmocjbeocaaGreatDoor
open Go.RowKit

theorem jmend_length {zs : List Int} : (jmend zs).length = zs.length := by
  unfold jmend
  split
  · rfl
  · rename_i h
    show (zs.take (zs.length - 4) ++ crcI (crcN (zs.take (zs.length - 4)))).length = zs.length
    rw [List.length_append, List.length_take, show (crcI (crcN (zs.take (zs.length - 4)))).length = 4 from rfl]
    omega

set_option maxRecDepth 100000 in
set_option maxHeartbeats 4000000 in
theorem jdecode_walk (A1 : Option Addr) (n1 c1 : Nat) (bs : List Int) (A0 : Option Addr) (n0 c0 : Nat) (zs : List Int) (x y : Int) (w : World) (h' : Hid (BsAt w w.heap.size A1 n1 c1 bs)) (h : Hid (BsAt w w.heap.size A0 n0 c0 zs)) (y0 : 0 ≤ y) (y1 : y ≤ 255) (hT : Hid (Tab w)) :
    Calls Tryz.prog 4 #[.slice A1 n1 c1, .slice A0 n0 c0, .int .i64 x, .int .u8 y] w fun e w' => e = .returned (.bool true) ∧ Below w.heap.size w w' := by
  by_cases h500 : 500 < n1
  · have hz : (500 : Int) < (n1 : Int) := by omega
    go_enter Tryz.func4, Tryz.ntmps4
    go_wp2_with fail
    refine (awake11_any w hT).mono ?_
    rintro e w1 ⟨rfl, hb1⟩
    have B1 := hide hb1
    clear hb1
    go_wp2_with fail
    go_ret
    exact ⟨rfl, B1.out⟩
  · have hz : ¬ ((500 : Int) < (n1 : Int)) := by omega
    have H500 := hide h500
    obtain ⟨i0, hi, hz0, hz1, hz2⟩ := info_parts Tryz.info5
    clear h500
    go_enter Tryz.func4, Tryz.ntmps4
    go_wp2_with fail
    refine (awake11_any w hT).mono ?_
    rintro e w1 ⟨rfl, hb1⟩
    have B1 := hide hb1
    have C1 := hide (h.out.call hb1)
    clear hb1
    go_wp2_with fail
    refine (new_any A0 n0 c0 zs 250 w1 (hide C1.out.nil_) (hide C1.out.len) C1.out.nc (by have := C1.out.cm; have := C1.out.nc; omega) (by omega) (hide C1.out.see) (hide C1.out.byt)).mono ?_
    rintro e w2 ⟨rfl, hC2, hb2⟩
    have HC2 := hide hC2
    have B2 := hide (below_call B1.out hb2)
    have hg2 : w1.heap.size < w2.heap.size := hC2.lt
    have hgw : w.heap.size ≤ w1.heap.size := B1.out.size
    clear hC2 hb2
    go_wp2_with fail
    refine (dtx_any w1.heap.size 3 8 w2 HC2 (by omega) (by omega) (by omega)).mono ?_
    rintro e w3 ⟨FP, AP, nP, cP, hsP, G, rfl, htg, hnp1, hnp2, hFl, hgd, hap, h16, hsv, -, hG3⟩
    have hgood := draw_good (bd := 48) hgd (by omega) (by omega) hap h16 hsv (bndB_iff.2 (by omega))
    obtain ⟨al, hal⟩ : ∃ a, alP FP nP = a := ⟨_, rfl⟩
    rw [hal] at hgood ⊢
    have HGD := hide hgood
    have B3 := hide (below_inner B2.out hG3 (by omega))
    have G3 := hide htg
    have cR := rencode_any al 48 AP nP cP hsP G w2.heap.size w3 G3 (hide HGD.out.i)
    unfold JcPost at cR
    rw [HGD.out.e] at cR
    clear htg hgd hG3 hap h16 hsv hgood hal
    go_wp2_with fail
    refine cR.mono ?_
    rintro e w5 ⟨A5, n5, c5, rfl, h0, -, hb5⟩
    obtain ⟨hn5', ho5⟩ := h0 trivial
    have hlen := encJ_len al 48 G
    have h7 := tgY_len al 48 G
    have hmx := HGD.out.parts.2.2.1
    have hYB : Byt (encJ al 48 G) := (tgY_byt HGD.out.parts.2.2.2).app (crcI_bytes _)
    obtain ⟨Y, hY⟩ : ∃ Y, encJ al 48 G = Y := ⟨_, rfl⟩
    rw [hY] at hn5' ho5 hlen hmx hYB
    have hn5 : Y.length = n5 := hn5'.symm
    have HYB := hide hYB
    have D5 := hide (BsAt.own ho5 hYB)
    have B5 := hide (below_call B3.out hb5)
    have E5 := hide (h'.out.call B5.out)
    have hn5a : n5 ≤ 1048576 := by omega
    have hn5b : 11 ≤ n5 := by omega
    have HN5 := hide hn5
    obtain ⟨g5, c5', hA5, -, -, -, -⟩ := own_block ho5 (by omega)
    injection hA5 with hA5 _ hc5
    subst hA5 hc5
    clear ho5 hb5 hn5 hn5' h0 hlen h7 hmx hYB hY cR
    go_wp2_with (at_builtin; refine wpList_append_seesN rfl (.const (.slice none 0 0)) (.tmp 39) 22 rfl w5.heap.size 5 i0 (.int .u8 0) 1 1 Tryz.underlying22 hi hz0 hz1 hz2 rfl (by decide) (.slice none 0 0) 0 [] rfl (World.ownsRow_nil _ _ _ _) w5.heap.size (some ⟨g5, 0, none⟩) n5 c5 (cellsU8 Y) rfl (hide D5.out.nil_) (hide (by have := D5.out.len; simp [cellsU8]; omega)) (hide D5.out.see) (hide D5.out.nc) (one_u8 _) (by unfold maxLen; omega) (by omega) (Nat.le_refl _) ?_)
    intro v9 w9 ho0 hg9
    have ho9 : w9.ownsRow w5.heap.size 5 1 v9 n5 (cellsU8 Y) := by simpa using ho0
    have b9 : Below w5.heap.size w5 w9 := (Below.refl w5.heap.size w5).grown hg9 (Nat.le_refl _) (fun k hk => by cases hk)
    have B9 := hide (below_call B5.out b9)
    have b9s := b9.size
    have D9 := hide (D5.out.below b9)
    have E9 := hide (E5.out.below b9)
    obtain ⟨g, c9, rfl, hg8, hg9', -, -⟩ := own_block ho9 (by omega)
    have O9 := hide ho9
    clear ho0 hg9 ho9 b9 D5 E5
    go_wp2_with fail
    refine (jmod_nat x n5 _ (by omega) (by omega)).mono ?_
    rintro e w' ⟨⟨i, hin, rfl⟩, rfl⟩
    have hil : i < Y.length := by rw [HN5.out]; exact hin
    have hzi := hide (List.getElem?_eq_getElem hil)
    obtain ⟨z, hzz⟩ : ∃ z, Y[i] = z := ⟨_, rfl⟩
    have hzb := HYB.out z (by rw [← hzz]; exact List.getElem_mem _)
    rw [hzz] at hzi
    have hc : w9.cell? ⟨g, i, none⟩ = some (.int .u8 z) := by rw [O9.out.cellAt i (by omega)]; simp [cellsU8, hzi.out]
    have hf : w9.frozen? ⟨g, i, none⟩ = false := O9.out.frozenAt i
    have hiz : (0 : Int) ≤ (i : Int) := by omega
    have hiz2 : (i : Int) < (n5 : Int) := by omega
    have hx8 := jxor_byte z y hzb.1 hzb.2 y0 y1
    obtain ⟨z', hz'⟩ : ∃ z', bits BinOp.xor IntKind.u8 z y = z' := ⟨_, rfl⟩
    rw [hz'] at hx8
    have HX8 := hide hx8
    have HZ' := hide hz'
    obtain ⟨W10, hW10⟩ : ∃ W10, w9.setCell ⟨g, i, none⟩ (.int .u8 z') = W10 := ⟨_, rfl⟩
    have O10 := hide (show W10.ownsRow w5.heap.size 5 1 (.slice (some ⟨g, 0, none⟩) n5 c9) n5 (cellsU8 (Y.set i z')) by
      have := (O9.out.stored i (.int .u8 z')).1
      rw [hW10] at this
      rwa [show (cellsU8 Y).set i (.int .u8 z') = cellsU8 (Y.set i z') by simp [cellsU8, List.map_set]] at this)
    have b10 : Below w5.heap.size w9 W10 := by rw [← hW10]; exact (Below.refl w5.heap.size w9).setCell (p := ⟨g, i, none⟩) (by simp; omega) _
    have B10 := hide (show Below w.heap.size w W10 by rw [← hW10]; exact B9.out.setCell (p := ⟨g, i, none⟩) (by have := B5.out.size; simp; omega) _)
    have D10 := hide (BsAt.own O10.out (HYB.out.set i HX8.out.1 HX8.out.2.1))
    have hs10 : w5.heap.size ≤ W10.heap.size := Nat.le_trans b9s b10.size
    have P10 := hide ((D9.out.below b10).more hs10)
    have E10 := hide ((E9.out.below b10).more hs10)
    have HW10 := hide hW10
    have hn5c : (n5 : Int) ≤ (c5 : Int) := by have := P10.out.nc; omega
    clear hzz hx8 hz' hW10 hzb b10 hs10 D9 E9
    go_upto_region 6 with (fail)
    rw [HZ'.out, HW10.out]
    clear hc hf HZ' HW10
    go_wp2_with fail
    refine (jmod_nat x n5 _ (by omega) (by omega)).mono ?_
    rintro e w' ⟨⟨i2, hi2, rfl⟩, rfl⟩
    have hj0 : (0 : Int) ≤ (i2 : Int) := by omega
    have hj1 : (i2 : Int) ≤ (c5 : Int) := by omega
    have kc := Joins.run_convert_bytes_const_at (P := Tryz.prog) W10 22 5 #[.int .u8 70, .int .u8 82, .int .u8 77, .int .u8 49] 4 4 W10.heap.size rfl Tryz.underlying22 Tryz.underlying5
    obtain ⟨wm, hwm⟩ : ∃ wm, W10.alloc (.cells #[.int .u8 70, .int .u8 82, .int .u8 77, .int .u8 49] 5 ((#[.int .u8 70, .int .u8 82, .int .u8 77, .int .u8 49] : Array Value).size, (#[.int .u8 70, .int .u8 82, .int .u8 77, .int .u8 49] : Array Value).size + 1)) = wm := ⟨_, rfl⟩
    rw [hwm] at kc
    have hsm := hide (show Sees wm (W10.heap.size + 1) (some ⟨W10.heap.size, 0, none⟩) (cellsU8 jmagic) from fun k u hu => ⟨W10.heap.size, 0, rfl, by omega, by
      rw [← hwm, Nat.zero_add, Joins.cell_alloc_mark_at _ _ _ _ _ _ rfl]
      rw [← hu]
      simp [cellsU8, jmagic]⟩)
    have bm : Below W10.heap.size W10 wm := by rw [← hwm]; exact below1 W10 _
    have hwms : W10.heap.size + 1 ≤ wm.heap.size := by rw [← hwm]; simp
    have Bm := hide (below_call B10.out bm)
    have Pm := hide (P10.out.call bm)
    have Em := hide (E10.out.call bm)
    have Mm := hide (D10.out.call bm)
    have hn1m : n1 ≤ 1048576 := by have := H500.out; omega
    clear hwm bm P10 E10 D10 O10 O9
    go_wp2_with (at_builtin; refine wpList_append_lit rfl (.tmp 58) (.tmp 59) 22 rfl i0 Tryz.underlying22 hi hz0 hz1 hz2 W10.heap.size 4 jmagic (W10.heap.size + 1) rfl hwms rfl hsm (by omega) A1 n1 c1 bs rfl Em hn1m ?_)
    intro v7 w7 hx7 hb7
    have X7 := hide hx7
    have B7 := hide (below_call Bm.out hb7)
    have P7 := hide (Pm.out.below hb7)
    have E7 := hide (Em.out.below hb7)
    have M7 := hide (Mm.out.below hb7)
    have hs7 := hb7.size
    clear hx7 hb7 kc Pm Em Mm hsm
    obtain ⟨W8, hW8⟩ : ∃ W8, w7.alloc (.cells #[.int .u8 0, .int .u8 0, .int .u8 0, .int .u8 0] 5) = W8 := ⟨_, rfl⟩
    obtain ⟨gz, hgz⟩ : ∃ gz, w7.heap.size = gz := ⟨_, rfl⟩
    have b8 : Below w7.heap.size w7 W8 := by rw [← hW8]; exact below1 w7 _
    have RZ8 := show Row W8 gz 5 [.int .u8 0, .int .u8 0, .int .u8 0, .int .u8 0] by rw [← hW8, ← hgz]; exact Row.new w7 5 [.int .u8 0, .int .u8 0, .int .u8 0, .int .u8 0]
    have Z8 := hide (show ∀ (j : Nat) (u : Value), (cellsU8 [0, 0, 0, 0])[j]? = some u → W8.cell? ⟨gz, j, none⟩ = some u from fun j u hu => RZ8.cell (k := j) hu)
    have X8 := hide (show Ext wm.heap.size W8 v7 (4 + n1) (jmagic ++ bs) by rw [← hW8]; exact X7.out.alloc _)
    have hs8 : wm.heap.size ≤ W8.heap.size := Nat.le_trans hs7 b8.size
    have B8 := hide (below_call B7.out b8)
    have P8 := hide (P7.out.below (b8.mono hs7))
    have E8 := hide (E7.out.below (b8.mono hs7))
    have M8 := hide (M7.out.below (b8.mono hs7))
    have HW8 := hide hW8
    have HGZ := hide hgz
    clear hW8 hgz RZ8 P7 E7 M7 X7 b8
    go_wp2_with (at_builtin; rw [HW8.out, HGZ.out]; refine wpList_append_ext rfl (.tmp 60) (.tmp 61) 22 rfl i0 Tryz.underlying22 hi hz0 hz1 hz2 wm.heap.size (4 + n1) v7 (jmagic ++ bs) rfl X8 hs8 (by omega) gz 4 4 [0, 0, 0, 0] rfl rfl (by omega) Z8 ?_)
    intro v11 w11 ho11 hb11
    have hs11 : wm.heap.size ≤ w11.heap.size := Nat.le_trans hs8 hb11.size
    have hbz : Byt ((jmagic ++ bs) ++ [0, 0, 0, 0]) := ((show Byt jmagic from fun z hz => by simp [jmagic] at hz; omega).app h'.out.byt).app (show Byt [0, 0, 0, 0] from fun z hz => by simp at hz; omega)
    obtain ⟨A11, c11, rfl, -, -, -, -⟩ := own_seen ho11
    have D11 := hide (BsAt.own ho11 hbz)
    have B11 := hide (B8.out.trans (hb11.mono Bm.out.size))
    have P11 := hide ((P8.out.below hb11).more hs11)
    have E11 := hide ((E8.out.below hb11).more hs11)
    have M11 := hide ((M8.out.below hb11).more hs11)
    have K11 := hide (P11.out.take (k := i2) (by omega))
    clear ho11 hb11 P8 E8 M8 X8 Z8 hbz HW8 HGZ
    go_wp2_with fail
    refine (jmended_any (some ⟨g, 0, none⟩) n5 c9 (Y.set i z') w11 M11 (by omega)).mono ?_
    rintro e w12 ⟨A12, n12, c12, rfl, hm12, hb12⟩
    have B12 := hide (below_call B11.out hb12)
    have D12 := hide (D11.out.call hb12)
    have P12 := hide (P11.out.call hb12)
    have E12 := hide (E11.out.call hb12)
    have M12 := hide (M11.out.call hb12)
    have K12 := hide (K11.out.call hb12)
    have Q12 := hide hm12
    clear hm12 hb12 D11 P11 E11 M11 K11
    go_wp2_with fail
    refine (jmended_any (some ⟨g5, 0, none⟩) i2 c5 (Y.take i2) w12 K12 (by omega)).mono ?_
    rintro e w13 ⟨A13, n13, c13, rfl, hm13, hb13⟩
    have B13 := hide (below_call B12.out hb13)
    have D13 := hide (D12.out.call hb13)
    have P13 := hide (P12.out.call hb13)
    have E13 := hide (E12.out.call hb13)
    have M13 := hide (M12.out.call hb13)
    have K13 := hide (K12.out.call hb13)
    have Q13 := hide (Q12.out.call hb13)
    have U13 := hide hm13
    clear hm13 hb13 D12 P12 E12 M12 K12 Q12
    go_wp2_with fail
    refine (jmended_any A11 (4 + n1 + 4) c11 ((jmagic ++ bs) ++ [0, 0, 0, 0]) w13 D13 (by omega)).mono ?_
    rintro e w14 ⟨A14, n14, c14, rfl, hm14, hb14⟩
    have B14 := hide (below_call B13.out hb14)
    have P14 := hide (P13.out.call hb14)
    have E14 := hide (E13.out.call hb14)
    have M14 := hide (M13.out.call hb14)
    have K14 := hide (K13.out.call hb14)
    have Q14 := hide (Q13.out.call hb14)
    have U14 := hide (U13.out.call hb14)
    obtain ⟨Z, hZ⟩ : ∃ Z, w14.heap.size = Z := ⟨_, rfl⟩
    obtain ⟨wl, hwl⟩ : ∃ wl, w14.alloc (.cells #[.slice A1 n1 c1, .slice (some ⟨g5, 0, none⟩) n5 c5, .slice (some ⟨g, 0, none⟩) n5 c9, .slice A12 n12 c12, .slice (some ⟨g5, 0, none⟩) i2 c5, .slice A13 n13 c13, .slice A14 n14 c14] 22) = wl := ⟨_, rfl⟩
    have BL := hide (show Below w.heap.size w wl by rw [← hwl]; exact B14.out.alloc B14.out.size _)
    have RZ := hide (show Row wl Z 22 [.slice A1 n1 c1, .slice (some ⟨g5, 0, none⟩) n5 c5, .slice (some ⟨g, 0, none⟩) n5 c9, .slice A12 n12 c12, .slice (some ⟨g5, 0, none⟩) i2 c5, .slice A13 n13 c13, .slice A14 n14 c14] by rw [← hwl, ← hZ]; exact Row.new w14 22 [.slice A1 n1 c1, .slice (some ⟨g5, 0, none⟩) n5 c5, .slice (some ⟨g, 0, none⟩) n5 c9, .slice A12 n12 c12, .slice (some ⟨g5, 0, none⟩) i2 c5, .slice A13 n13 c13, .slice A14 n14 c14])
    have l12 : n12 ≤ 1048576 := by have h1 := Q14.out.len; have h2 := jmend_length (zs := Y.set i z'); rw [List.length_set, HN5.out] at h2; omega
    have l13 : n13 ≤ 1048576 := by have h1 := U14.out.len; have h2 := jmend_length (zs := Y.take i2); rw [List.length_take, HN5.out] at h2; omega
    have l14 : n14 ≤ 1048600 := by have h1 := hm14.len; have h2 := jmend_length (zs := (jmagic ++ bs) ++ [0, 0, 0, 0]); have h3 := E14.out.len; rw [List.length_append, List.length_append, h3] at h2; have h4 : jmagic.length = 4 := rfl; have h5 : ([0, 0, 0, 0] : List Int).length = 4 := rfl; omega
    have SLS := hide (fun (k : Nat) (hk : k < 7) => (show ∃ (A : Option Addr) (n c : Nat) (ys : List Int), wl.cell? ⟨Z, k, none⟩ = some (.slice A n c) ∧ BsAt wl wl.heap.size A n c ys ∧ n ≤ 4611686018427387904 from by
      rcases (show k = 0 ∨ k = 1 ∨ k = 2 ∨ k = 3 ∨ k = 4 ∨ k = 5 ∨ k = 6 by omega) with rfl | rfl | rfl | rfl | rfl | rfl | rfl
      · exact ⟨_, _, _, _, RZ.out.cell (k := 0) rfl, by rw [← hwl]; exact E14.out.call (below1 w14 _), by omega⟩
      · exact ⟨_, _, _, _, RZ.out.cell (k := 1) rfl, by rw [← hwl]; exact P14.out.call (below1 w14 _), by omega⟩
      · exact ⟨_, _, _, _, RZ.out.cell (k := 2) rfl, by rw [← hwl]; exact M14.out.call (below1 w14 _), by omega⟩
      · exact ⟨_, _, _, _, RZ.out.cell (k := 3) rfl, by rw [← hwl]; exact Q14.out.call (below1 w14 _), by omega⟩
      · exact ⟨_, _, _, _, RZ.out.cell (k := 4) rfl, by rw [← hwl]; exact K14.out.call (below1 w14 _), by omega⟩
      · exact ⟨_, _, _, _, RZ.out.cell (k := 5) rfl, by rw [← hwl]; exact U14.out.call (below1 w14 _), by omega⟩
      · exact ⟨_, _, _, _, RZ.out.cell (k := 6) rfl, by rw [← hwl]; exact hm14.call (below1 w14 _), by omega⟩))
    have HWL := hide hwl
    have HZ := hide hZ
    clear hm14 hb14 hwl hZ P14 E14 M14 K14 Q14 U14 D13 P13 E13 M13 K13 Q13 U13 l12 l13 l14
    go_upto_region 9 with (fail)
    rw [HWL.out, HZ.out]
    clear HWL HZ
    go_loopw [15, 16, 17, 18, 19, 20, 21, 75] (fun _ _ _ _ _ _ _ iv wr => ∃ i : Nat, i ≤ 7 ∧ iv = .int .i64 (i : Int) ∧ Hid (Below wl.heap.size wl wr)) (fun _ _ _ _ _ _ _ iv _ => 7 - (intOf iv).toNat)
    case atStart => exact ⟨0, by omega, rfl, hide (Below.refl _ _)⟩
    case round =>
      obtain ⟨i, hi4, rfl, hbr⟩ := hrel
      by_cases hlt : i < 7
      · have hiz : (0 : Int) ≤ (i : Int) := by omega
        have hiz2 : (i : Int) < 7 := by omega
        obtain ⟨A, n, c, ys, hcell, hbs, hnm⟩ := SLS.out i hlt
        have z0 := keep_cellB hbr.out hcell
        have HBS := hide (hbs.call hbr.out)
        have BW := hide (BL.out.trans (hbr.out.mono BL.out.size))
        clear hcell hbs
        have cD := jdecode_any A n c ys wr hnm HBS (hide (hT.out.below BW.out))
        go_wp2_with fail
        refine cD.mono ?_
        rintro e wd ⟨er, Al, bd, F6, A7, n7, c7, hs7', rfl, hjd, hp7, him, hb7⟩
        have HJD := hide hjd
        obtain ⟨Q, hQ⟩ : ∃ Q, wd.heap.size = Q := ⟨_, rfl⟩
        obtain ⟨W7, hW7⟩ : ∃ W7, wd.alloc (.cells #[.int .i64 Al, .slice A7 n7 c7] 53) = W7 := ⟨_, rfl⟩
        have HW7 := hide hW7
        have HQQ := hide hQ
        have B7' := hide (show Below wl.heap.size wl W7 by rw [← hW7]; exact (hbr.out.trans (hb7.mono hbr.out.size)).alloc (Nat.le_trans hbr.out.size hb7.size) _)
        have Q7 := hide (show Row W7 Q 53 [.int .i64 Al, .slice A7 n7 c7] by rw [← hW7, ← hQ]; exact Row.new wd 53 [.int .i64 Al, .slice A7 n7 c7])
        have G7 := hide (show TgAt W7 wr.heap.size W7.heap.size A7 n7 c7 hs7' F6 by rw [← hW7]; exact hp7.call (below1 wd _))
        have S7 := hide (show BsAt W7 W7.heap.size A n c ys by rw [← hW7]; exact (HBS.out.call hb7).call (below1 wd _))
        clear hp7 hb7 hQ hW7 cD z0 HBS hjd him
        go_upto_region 12 with (fail)
        rw [HW7.out, HQQ.out]
        clear HW7 HQQ
        go_wp2_with fail
        refine (sdecode_any A n c ys W7 hnm S7).mono ?_
        rintro e we ⟨er', Al', bd', F', A8, n8, c8, hs8', rfl, hjd, hp8, -, hb8⟩
        obtain ⟨rfl, rfl, rfl, rfl⟩ := hjd.unique HJD.out
        obtain ⟨Q', hQ'⟩ : ∃ Q, we.heap.size = Q := ⟨_, rfl⟩
        obtain ⟨W9, hW9⟩ : ∃ W9, we.alloc (.cells #[.int .i64 Al', .slice A8 n8 c8] 53) = W9 := ⟨_, rfl⟩
        have HW9 := hide hW9
        have HQQ := hide hQ'
        have h79 : Below W7.heap.size W7 W9 := by rw [← hW9]; exact hb8.alloc hb8.size _
        have B9' := hide (B7'.out.trans (h79.mono B7'.out.size))
        have Q9 := hide (Q7.out.call h79)
        have R9 := hide (show Row W9 Q' 53 [.int .i64 Al', .slice A8 n8 c8] by rw [← hW9, ← hQ']; exact Row.new we 53 [.int .i64 Al', .slice A8 n8 c8])
        have G9 := hide (G7.out.call h79)
        have H9 := hide (show TgAt W9 W7.heap.size W9.heap.size A8 n8 c8 hs8' F' by rw [← hW9]; exact hp8.call (below1 we _))
        have q7 := Q9.out.cell (k := 0) rfl
        have q8 := Q9.out.cell (k := 1) rfl
        have q9 := R9.out.cell (k := 0) rfl
        have q10 := R9.out.cell (k := 1) rfl
        have hne1 : (er' != er') = false := by simp
        have hne2 : (bd' != bd') = false := by simp
        have cS := rsame10_any Al' A7 n7 c7 hs7' F' Al' A8 n8 c8 hs8' F' _ _ W9.heap.size W9.heap.size W9 G9 H9 (Nat.le_refl _) (Nat.le_refl _)
        rw [decide_eq_true (show Al' = Al' ∧ F' = F' from ⟨rfl, rfl⟩)] at cS
        clear hp8 hb8 hQ' hW9 hjd HJD h79 S7 G7 Q7
        go_upto_region 13 with (fail)
        rw [HW9.out, HQQ.out]
        clear HW9 HQQ
        go_wp2_with fail
        refine cS.mono ?_
        rintro e w8 ⟨rfl, hb8⟩
        have HN := hide (B9'.out.trans (hb8.mono B9'.out.size))
        clear cS hb8 q7 q8 q9 q10
        go_wp2_with fail
        go_roundw
        case rel => exact ⟨i + 1, by omega, by go_num, HN⟩
        case measure => simp [intOf]; omega
      · obtain rfl : i = 7 := by omega
        have hlz : ¬ (((7 : Nat) : Int) < 7) := by omega
        have FIN := hide (BL.out.trans (hbr.out.mono BL.out.size))
        clear hlt
        go_wp2_with fail
        go_ret
        exact ⟨rfl, FIN.out⟩
end Go.Proofs.YtlcmcmocjbeocaaGreatDoor
end

section
/-
  From the walk of a law to its row: a law that returns true and leaves all that was in memory as it was meets 'true; the input reads as it did'; what a slice of bytes that came in gives. No function of the program is named here.
-/
namespace Go.Proofs.YtlcmcmocjbeocaaGreatDoor
open Go.ChangeShapes Go.WideShapes Go.ChangeAt Go.RowKit

theorem bounds_u64 {n : Int} (h : (Lit.int .u64 n).wf = true) : 0 ≤ n ∧ n ≤ 18446744073709551615 := by
  simp [Lit.wf, IntKind.min, IntKind.max, IntKind.signed, IntKind.bits] at h
  omega

section
variable {H : Type} {enc : TypeId × Value → H} {P : Program}

theorem trodAll_after (hl : laidOutB P = true) {W W' : World} (hb : Below W.heap.size W W') : ∀ (ts : List TypeId) (vs : List Value) (ds : List (DataW H)) (ps : List MemPlace),
    (∀ t ∈ ts, P.readableRec t = true ∧ t < P.types.size) → DataW.TrodAll enc P W 0 (fun _ => true) true ts vs ds ps → (∀ x ∈ ps, x.block < W.heap.size) →
    DataW.TrodAll enc P W' 0 (fun b => decide (b < W.heap.size)) true ts vs ds ps := by
  intro ts
  induction ts with
  | nil => intro vs ds ps _ h _
           rcases vs with _ | ⟨v, vs⟩ <;> rcases ds with _ | ⟨d, ds⟩ <;> simp_all [DataW.TrodAll]
  | cons t ts ih =>
    intro vs ds ps hr h hlt
    rcases vs with _ | ⟨v, vs⟩
    · simp [DataW.TrodAll] at h
    rcases ds with _ | ⟨d, ds⟩
    · simp [DataW.TrodAll] at h
    obtain ⟨p, q, h1, h2, rfl⟩ := h
    have ht := hr t List.mem_cons_self
    exact ⟨p, q, Below.trod hl ht.1 ht.2 h1 hb (fun x hx => hlt x (List.mem_append_left _ hx)), ih vs ds q (fun t' h' => hr t' (List.mem_cons_of_mem _ h')) h2 (fun x hx => hlt x (List.mem_append_right _ hx)), rfl⟩

/-- What a law's row asks at the end. -/
theorem law_post {f : Func} {s : ChangeSpec} {apart : Bool} {W W' : World} {args : Array Value} {ds gs : List (DataW H)} {before : List MemPlace} {tb : TypeId} (hl : laidOutB P = true)
    (hp : ∀ t ∈ f.params.toList, P.readableRec t = true ∧ t < P.types.size) (hv : s.vars = []) (hr : f.resultTypes = #[tb]) (hb : P.underlying tb = some .bool)
    (hs : s.fn H ds = { results := [.lit (.bool true)], args := ds, vars := [] })
    (hW : DataW.Whole enc P f.params.toList s.vars apart W args.toList ds gs before) (hB : Below W.heap.size W W') :
    s.post enc P f apart true false false W args (.bool true) W' := by
  have hW' := hW
  obtain ⟨p, q, hA, hV, rfl, hfz, hnd⟩ := hW
  rw [hv] at hV
  obtain ⟨rfl, rfl⟩ := trodVars_none hV
  have e : s.fn H (ds ++ []) = { results := [.lit (.bool true)], args := ds, vars := [] } := by rw [List.append_nil]; exact hs
  refine ⟨ds, [], p ++ [], [], p, [], hW', ?_, ?_, ?_, hB.frame _, fun h => by cases h⟩
  · rw [e, hr]
    exact trodAll_mk1 (shut_bool hb _)
  · rw [e]
    exact trodAll_after hl hB _ _ _ _ hp hA (fun x hx => hW'.lt x (List.mem_append_left _ hx))
  · rw [e, hv]
    rfl

/-- What a slice of bytes that came in gives. -/
theorem open_u8s {W : World} {base : Nat} {t e : TypeId} {v : Value} {d : DataW H} {p : List MemPlace} (ht : P.underlying t = some (.slice e)) (he : P.underlying e = some (.int .u8)) (hc : P.cellsOf e = 1)
    (hval : Value.okWide P W .any base t v) (h : DataW.Trod enc P W 0 (fun _ => true) true t v d p) :
    ∃ (A : Option Addr) (n c : Nat) (zs : List Int), v = .slice A n c ∧ (A = none → c = 0) ∧ zs.length = n ∧ n ≤ 9223372036854775807 ∧ Sees W W.heap.size A (cellsU8 zs) ∧ (∀ z ∈ zs, 0 ≤ z ∧ z ≤ 255) ∧ n ≤ c := by
  obtain ⟨a1, len, cap, rfl⟩ := okWide_slice ht hval
  obtain ⟨fuel, hf⟩ := h
  rcases open_ints ht he hc hf with ⟨hcs, hx⟩ | ⟨a, len', cap', zs, hcs, _, hlc, hm, hz, hx, hcell, hwz⟩
  · simp [Value.cells] at hcs
    obtain ⟨rfl, rfl, rfl⟩ := hcs
    exact ⟨none, 0, 0, [], rfl, fun _ => rfl, rfl, by omega, Sees.nil_ _ _ _, fun z hz => (by cases hz), Nat.le_refl _⟩
  · simp [Value.cells] at hcs
    obtain ⟨rfl, rfl, rfl⟩ := hcs
    simp only [if_true] at hz
    have hlen : (zs.take len).length = len := by simp; omega
    refine ⟨some a, len, cap, zs.take len, rfl, fun hn => by simp at hn, hlen, by unfold maxLen at hm; omega, ?_, fun z hz' => ?_, hlc⟩
    · intro k u hu
      have hk : k < len := by
        rcases Nat.lt_or_ge k len with h1 | h1
        · exact h1
        · rw [List.getElem?_eq_none (by simp [cellsU8]; omega)] at hu; simp at hu
      rw [get_u8 (by omega)] at hu
      have hu' : u = .int .u8 (zs.getD k 0) := by
        injection hu with hu
        rw [← hu]
        simp [hk]
      subst hu'
      obtain ⟨ab, ao, spot⟩ := a
      have h0 := hcell 0 (by omega)
      have hspot : spot = none := by simpa [Addr.add] using World.cell?_spot h0
      subst hspot
      have hck := hcell k (by omega)
      rw [WideShapes.add_plain] at hck
      exact ⟨ab, ao, rfl, World.block_lt_of_cell? _ _ hck, hck⟩
    · have := bounds_u8 (hwz z (List.mem_of_mem_take hz'))
      exact ⟨by omega, by omega⟩
end
end Go.Proofs.YtlcmcmocjbeocaaGreatDoor
end
