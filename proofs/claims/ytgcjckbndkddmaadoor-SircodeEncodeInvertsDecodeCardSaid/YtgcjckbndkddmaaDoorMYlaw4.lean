import Derived.Test.YtgcjckbndkddmaaDoorMYapp
import Derived.Lib.SmallJoins
set_option linter.unusedVariables false
set_option linter.unusedSimpArgs false
section
/-
  The walk of the law that Encode inverts Decode. Conditions: those of the types; the listed tables lie as their initialisers lay them.
-/
namespace Go.Proofs.YtgcjckbndkddmaaDoor
open Go.RowKit

set_option maxRecDepth 100000 in
set_option maxHeartbeats 4000000 in
theorem einvlaw_walk (A1 : Option Addr) (n1 c1 : Nat) (bs : List Int) (A0 : Option Addr) (n0 c0 : Nat) (zs : List Int) (x y : Int) (w : World) (h' : Hid (BsAt w w.heap.size A1 n1 c1 bs)) (h : Hid (BsAt w w.heap.size A0 n0 c0 zs)) (y0 : 0 ≤ y) (y1 : y ≤ 255) (hT : Hid (Tab w)) (hS : Hid (Shapes w)) :
    Calls Tryd.prog 6 #[.slice A1 n1 c1, .slice A0 n0 c0, .int .i64 x, .int .u8 y] w fun e w' => e = .returned (.bool true) ∧ Below w.heap.size w w' := by
  by_cases h500 : 500 < n1
  · have hz : (500 : Int) < (n1 : Int) := by omega
    go_enter Tryd.func6, Tryd.ntmps6
    go_wp2_with fail
    refine (awake_any w hT hS).mono ?_
    rintro e w1 ⟨rfl, hb1⟩
    have B1 := hide hb1
    clear hb1
    go_wp2_with fail
    go_ret
    exact ⟨rfl, B1.out⟩
  · have hz : ¬ ((500 : Int) < (n1 : Int)) := by omega
    have H500 := hide h500
    obtain ⟨i0, hi, hz0, hz1, hz2⟩ := info_parts Tryd.info5
    clear h500
    go_enter Tryd.func6, Tryd.ntmps6
    go_wp2_with fail
    refine (awake_any w hT hS).mono ?_
    rintro e w1 ⟨rfl, hb1⟩
    have B1 := hide hb1
    have C1 := hide (h.out.call hb1)
    clear hb1
    go_wp2_with fail
    refine (new_any A0 n0 c0 zs 200 w1 (hide C1.out.nil_) (hide C1.out.len) C1.out.nc (by have := C1.out.cm; have := C1.out.nc; omega) (by omega) (hide C1.out.see) (hide C1.out.byt)).mono ?_
    rintro e w2 ⟨rfl, hC2, hb2⟩
    have HC2 := hide hC2
    have B2 := hide (below_call B1.out hb2)
    have hg2 : w1.heap.size < w2.heap.size := hC2.lt
    have hgw : w.heap.size ≤ w1.heap.size := B1.out.size
    clear hC2 hb2
    go_wp2_with fail
    refine (prog_any w1.heap.size 3 8 w2 HC2 (by omega) (by omega) (by omega)).mono ?_
    rintro e w3 ⟨AP, nP, cP, hsP, F, rfl, hpg, hgood, hC3, hG3⟩
    obtain ⟨hW, hE, hL, hL14, him⟩ := drawn_small hgood (by omega) (by omega)
    have HW := hide hW
    have HE := hide hE
    have HL := hide hL
    have HL14 := hide hL14
    have HIM := hide him
    have B3 := hide (below_inner B2.out hG3 (by omega))
    have G3 := hide hpg
    clear hpg hgood hC3 hG3 hW hE hL hL14 him
    go_wp2_with fail
    refine (rencode_any w3 w2.heap.size AP nP cP hsP F G3 HIM).mono ?_
    rintro e w5 ⟨r5, n5, rfl, ho5, hb5⟩
    rw [HE.out] at ho5 ⊢
    rw [if_pos rfl] at ho5
    have hn5 : (encY F).length = n5 := by have := own_len ho5; simpa [cellsU8] using this
    obtain ⟨A5, c5, rfl, -, -, -, -⟩ := own_seen ho5
    have D5 := hide (BsAt.own ho5 (encY_byt HW.out))
    have B5 := hide (below_call B3.out hb5)
    have E5 := hide (h'.out.call B5.out)
    have hn5a : n5 ≤ 20000 := by have := HL.out; omega
    have hn5b : 14 ≤ n5 := by have := HL14.out; omega
    have HN5 := hide hn5
    clear ho5 hb5 hn5
    go_wp2_with (at_builtin; refine wpList_append_seesN rfl (.const (.slice none 0 0)) (.tmp 35) 22 rfl w5.heap.size 5 i0 (.int .u8 0) 1 1 Tryd.underlying22 hi hz0 hz1 hz2 rfl (by decide) (.slice none 0 0) 0 [] rfl (World.ownsRow_nil _ _ _ _) w5.heap.size A5 n5 c5 (cellsU8 (encY F)) rfl (hide D5.out.nil_) (hide (by have := D5.out.len; simp [cellsU8]; omega)) (hide D5.out.see) (hide D5.out.nc) (one_u8 _) (by unfold maxLen; omega) (by omega) (Nat.le_refl _) ?_)
    intro v9 w9 ho0 hg9
    have ho9 : w9.ownsRow w5.heap.size 5 1 v9 n5 (cellsU8 (encY F)) := by simpa using ho0
    have b9 : Below w5.heap.size w5 w9 := (Below.refl w5.heap.size w5).grown hg9 (Nat.le_refl _) (fun k hk => by cases hk)
    have B9 := hide (below_call B5.out b9)
    have b9s := b9.size
    have D9 := hide (D5.out.below b9)
    have E9 := hide (E5.out.below b9)
    obtain ⟨g, c9, rfl, hg8, hg9', -, -⟩ := own_block ho9 (by omega)
    have O9 := hide ho9
    clear ho0 hg9 ho9 b9 D5 E5
    go_wp2_with fail
    refine (mod_nat x n5 _ (by omega) (by omega)).mono ?_
    rintro e w' ⟨⟨i, hin, rfl⟩, rfl⟩
    have hil : i < (encY F).length := by rw [HN5.out]; exact hin
    have hzi := hide (List.getElem?_eq_getElem hil)
    obtain ⟨z, hzz⟩ : ∃ z, (encY F)[i] = z := ⟨_, rfl⟩
    have hzb := encY_byt HW.out z (by rw [← hzz]; exact List.getElem_mem _)
    rw [hzz] at hzi
    have hc : w9.cell? ⟨g, i, none⟩ = some (.int .u8 z) := by rw [O9.out.cellAt i (by omega)]; simp [cellsU8, hzi.out]
    have hf : w9.frozen? ⟨g, i, none⟩ = false := O9.out.frozenAt i
    have hiz : (0 : Int) ≤ (i : Int) := by omega
    have hiz2 : (i : Int) < (n5 : Int) := by omega
    have hx8 := xor_byte z y hzb.1 hzb.2 y0 y1
    obtain ⟨z', hz'⟩ : ∃ z', bits BinOp.xor IntKind.u8 z y = z' := ⟨_, rfl⟩
    rw [hz'] at hx8
    have HX8 := hide hx8
    have HZ' := hide hz'
    obtain ⟨W10, hW10⟩ : ∃ W10, w9.setCell ⟨g, i, none⟩ (.int .u8 z') = W10 := ⟨_, rfl⟩
    have O10 := hide (show W10.ownsRow w5.heap.size 5 1 (.slice (some ⟨g, 0, none⟩) n5 c9) n5 (cellsU8 ((encY F).set i z')) by
      have := (O9.out.stored i (.int .u8 z')).1
      rw [hW10] at this
      rwa [show (cellsU8 (encY F)).set i (.int .u8 z') = cellsU8 ((encY F).set i z') by simp [cellsU8, List.map_set]] at this)
    have b10 : Below w5.heap.size w9 W10 := by rw [← hW10]; exact below_put (Below.refl _ _) (by omega) (by omega) i _
    have B10 := hide (show Below w.heap.size w W10 by rw [← hW10]; exact below_put B9.out B9.out.size (by have := B5.out.size; omega) i _)
    have D10 := hide (BsAt.own O10.out ((encY_byt HW.out).set i HX8.out.1 HX8.out.2.1))
    have hs10 : w5.heap.size ≤ W10.heap.size := Nat.le_trans b9s b10.size
    have P10 := hide ((D9.out.below b10).more hs10)
    have E10 := hide ((E9.out.below b10).more hs10)
    have HW10 := hide hW10
    clear hzz hx8 hz' hW10 hzb b10 hs10 D9 E9
    go_upto_region 6 with (fail)
    rw [HZ'.out, HW10.out]
    clear hc hf HZ' HW10
    go_wp2_with fail
    refine (mended_any (some ⟨g, 0, none⟩) n5 c9 ((encY F).set i z') W10 D10 (by omega)).mono ?_
    rintro e w6 ⟨A6, n6, c6, rfl, hm6, hb6⟩
    have B6 := hide (below_call B10.out hb6)
    have P6 := hide (P10.out.call hb6)
    have E6 := hide (E10.out.call hb6)
    have M6 := hide hm6
    have kc := Joins.run_convert_bytes_const_at (P := Tryd.prog) w6 22 5 #[.int .u8 83, .int .u8 73, .int .u8 82, .int .u8 49] 4 4 w6.heap.size rfl Tryd.underlying22 Tryd.underlying5
    obtain ⟨wm, hwm⟩ : ∃ wm, w6.alloc (.cells #[.int .u8 83, .int .u8 73, .int .u8 82, .int .u8 49] 5 ((#[.int .u8 83, .int .u8 73, .int .u8 82, .int .u8 49] : Array Value).size, (#[.int .u8 83, .int .u8 73, .int .u8 82, .int .u8 49] : Array Value).size + 1)) = wm := ⟨_, rfl⟩
    rw [hwm] at kc
    have hsm := hide (show Sees wm (w6.heap.size + 1) (some ⟨w6.heap.size, 0, none⟩) (cellsU8 magic) from fun k u hu => ⟨w6.heap.size, 0, rfl, by omega, by
      rw [← hwm, Nat.zero_add, Joins.cell_alloc_mark_at _ _ _ _ _ _ rfl]
      rw [← hu]
      simp [cellsU8, magic]⟩)
    have bm : Below w6.heap.size w6 wm := by rw [← hwm]; exact below1 w6 _
    have hwms : w6.heap.size + 1 ≤ wm.heap.size := by rw [← hwm]; simp
    have Bm := hide (below_call B6.out bm)
    have Pm := hide (P6.out.call bm)
    have Em := hide (E6.out.call bm)
    have Mm := hide (M6.out.call bm)
    have hn1m : n1 ≤ 1048576 := by have := H500.out; omega
    clear hm6 hb6 hwm bm P6 E6 M6
    go_wp2_with (at_builtin; refine wpList_append_lit rfl (.tmp 52) (.tmp 53) 22 rfl i0 Tryd.underlying22 hi hz0 hz1 hz2 w6.heap.size 4 magic (w6.heap.size + 1) rfl hwms rfl hsm (by omega) A1 n1 c1 bs rfl Em hn1m ?_)
    intro v7 w7 hx7 hb7
    have X7 := hide hx7
    have B7 := hide (below_call Bm.out hb7)
    have P7 := hide (Pm.out.below hb7)
    have E7 := hide (Em.out.below hb7)
    have M7 := hide (Mm.out.below hb7)
    have hs7 := hb7.size
    clear hx7 hb7 kc Pm Em Mm hsm
    obtain ⟨W8, hW8⟩ : ∃ W8, w7.alloc (.cells #[.int .u8 0, .int .u8 0, .int .u8 0, .int .u8 0] 5) = W8 := ⟨_, rfl⟩
    obtain ⟨gz, hgz⟩ : ∃ gz, w7.heap.size = gz := ⟨_, rfl⟩
    have b8 : Below w7.heap.size w7 W8 := by rw [← hW8]; exact below1 w7 _
    have RZ8 := show Row W8 gz 5 [.int .u8 0, .int .u8 0, .int .u8 0, .int .u8 0] by rw [← hW8, ← hgz]; exact Row.new w7 5 [.int .u8 0, .int .u8 0, .int .u8 0, .int .u8 0]
    have Z8 := hide (show ∀ (j : Nat) (u : Value), (cellsU8 [0, 0, 0, 0])[j]? = some u → W8.cell? ⟨gz, j, none⟩ = some u from fun j u hu => RZ8.cell (k := j) hu)
    have X8 := hide (show Ext wm.heap.size W8 v7 (4 + n1) (magic ++ bs) by rw [← hW8]; exact X7.out.alloc _)
    have hs8 : wm.heap.size ≤ W8.heap.size := Nat.le_trans hs7 b8.size
    have B8 := hide (below_call B7.out b8)
    have P8 := hide (P7.out.below (b8.mono hs7))
    have E8 := hide (E7.out.below (b8.mono hs7))
    have M8 := hide (M7.out.below (b8.mono hs7))
    have HW8 := hide hW8
    have HGZ := hide hgz
    clear hW8 hgz RZ8 P7 E7 M7 X7 b8
    go_wp2_with (at_builtin; rw [HW8.out, HGZ.out]; refine wpList_append_ext rfl (.tmp 54) (.tmp 55) 22 rfl i0 Tryd.underlying22 hi hz0 hz1 hz2 wm.heap.size (4 + n1) v7 (magic ++ bs) rfl X8 hs8 (by omega) gz 4 4 [0, 0, 0, 0] rfl rfl (by omega) Z8 ?_)
    intro v11 w11 ho11 hb11
    have hs11 : wm.heap.size ≤ w11.heap.size := Nat.le_trans hs8 hb11.size
    have hbz : Byt ((magic ++ bs) ++ [0, 0, 0, 0]) := ((show Byt magic from fun z hz => by simp [magic] at hz; omega).app h'.out.byt).app (show Byt [0, 0, 0, 0] from fun z hz => by simp at hz; omega)
    obtain ⟨A11, c11, rfl, -, -, -, -⟩ := own_seen ho11
    have D11 := hide (BsAt.own ho11 hbz)
    have B11 := hide (B8.out.trans (hb11.mono Bm.out.size))
    have P11 := hide ((P8.out.below hb11).more hs11)
    have E11 := hide ((E8.out.below hb11).more hs11)
    have M11 := hide ((M8.out.below hb11).more hs11)
    clear ho11 hb11 P8 E8 M8 X8 Z8 hbz HW8 HGZ
    go_wp2_with fail
    refine (mended_any A11 (4 + n1 + 4) c11 ((magic ++ bs) ++ [0, 0, 0, 0]) w11 D11 (by omega)).mono ?_
    rintro e w12 ⟨A12, n12, c12, rfl, hm12, hb12⟩
    have B12 := hide (below_call B11.out hb12)
    have P12 := hide (P11.out.call hb12)
    have E12 := hide (E11.out.call hb12)
    have M12 := hide (M11.out.call hb12)
    obtain ⟨Z, hZ⟩ : ∃ Z, w12.heap.size = Z := ⟨_, rfl⟩
    obtain ⟨wl, hwl⟩ : ∃ wl, w12.alloc (.cells #[.slice A1 n1 c1, .slice A5 n5 c5, .slice A6 n6 c6, .slice A12 n12 c12] 22) = wl := ⟨_, rfl⟩
    have BL := hide (show Below w.heap.size w wl by rw [← hwl]; exact B12.out.alloc B12.out.size _)
    have RZ := hide (show Row wl Z 22 [.slice A1 n1 c1, .slice A5 n5 c5, .slice A6 n6 c6, .slice A12 n12 c12] by rw [← hwl, ← hZ]; exact Row.new w12 22 [.slice A1 n1 c1, .slice A5 n5 c5, .slice A6 n6 c6, .slice A12 n12 c12])
    have SLS := hide (fun (k : Nat) (hk : k < 4) => (show ∃ (A : Option Addr) (n c : Nat) (ys : List Int), wl.cell? ⟨Z, k, none⟩ = some (.slice A n c) ∧ BsAt wl wl.heap.size A n c ys from by
      rcases (show k = 0 ∨ k = 1 ∨ k = 2 ∨ k = 3 by omega) with rfl | rfl | rfl | rfl
      · exact ⟨_, _, _, _, RZ.out.cell (k := 0) rfl, by rw [← hwl]; exact E12.out.call (below1 w12 _)⟩
      · exact ⟨_, _, _, _, RZ.out.cell (k := 1) rfl, by rw [← hwl]; exact P12.out.call (below1 w12 _)⟩
      · exact ⟨_, _, _, _, RZ.out.cell (k := 2) rfl, by rw [← hwl]; exact M12.out.call (below1 w12 _)⟩
      · exact ⟨_, _, _, _, RZ.out.cell (k := 3) rfl, by rw [← hwl]; exact hm12.call (below1 w12 _)⟩))
    have HWL := hide hwl
    have HZ := hide hZ
    clear hm12 hb12 hwl hZ P12 E12 M12 P11 E11 M11
    go_upto_region 7 with (fail)
    rw [HWL.out, HZ.out]
    clear HWL HZ
    go_loopw [13, 14, 15, 16, 17, 60] (fun _ _ _ _ _ iv wr => ∃ i : Nat, i ≤ 4 ∧ iv = .int .i64 (i : Int) ∧ Hid (Below wl.heap.size wl wr)) (fun _ _ _ _ _ iv _ => 4 - (intOf iv).toNat)
    case atStart => exact ⟨0, by omega, rfl, hide (Below.refl _ _)⟩
    case round =>
      obtain ⟨i, hi4, rfl, hbr⟩ := hrel
      by_cases hlt : i < 4
      · have hiz : (0 : Int) ≤ (i : Int) := by omega
        have hiz2 : (i : Int) < 4 := by omega
        obtain ⟨A, n, c, ys, hcell, hbs⟩ := SLS.out i hlt
        have z0 := keep_cellB hbr.out hcell
        have HBS := hide (hbs.call hbr.out)
        have BW := hide (BL.out.trans (hbr.out.mono BL.out.size))
        clear hcell hbs
        obtain ⟨x, hx⟩ : ∃ x, decE ys = x := ⟨_, rfl⟩
        obtain ⟨F6, hF6⟩ : ∃ F6, decF ys = F6 := ⟨_, rfl⟩
        have cD := ddecode_any A n c ys wr (hide HBS.out.len) HBS.out.nc HBS.out.cm (hide HBS.out.see) (hide HBS.out.byt) (hide (hS.out.below BW.out))
        rw [hx, hF6] at cD
        have HX := hide hx
        have HF6 := hide hF6
        clear hx hF6
        go_wp2_with fail
        refine cD.mono ?_
        rintro e wd ⟨A7, n7, c7, hs7', rfl, hp7, hb7⟩
        obtain ⟨Q, hQ⟩ : ∃ Q, wd.heap.size = Q := ⟨_, rfl⟩
        obtain ⟨W7, hW7⟩ : ∃ W7, wd.alloc (.cells #[.slice A7 n7 c7] 28) = W7 := ⟨_, rfl⟩
        have HW7 := hide hW7
        have HQQ := hide hQ
        have B7' := hide (show Below wl.heap.size wl W7 by rw [← hW7]; exact (hbr.out.trans (hb7.mono hbr.out.size)).alloc (Nat.le_trans hbr.out.size hb7.size) _)
        have BW7 := hide (BL.out.trans (B7'.out.mono BL.out.size))
        have Q7 := hide (show Row W7 Q 28 [.slice A7 n7 c7] by rw [← hW7, ← hQ]; exact Row.new wd 28 [.slice A7 n7 c7])
        have G7 := hide (show PgAt W7 wr.heap.size W7.heap.size A7 n7 c7 hs7' F6 by rw [← hW7]; exact hp7.alloc _)
        have S7 := hide (show BsAt W7 W7.heap.size A n c ys by rw [← hW7]; exact (HBS.out.call hb7).call (below1 wd _))
        have q7 := Q7.out.cell (k := 0) rfl
        clear hp7 hb7 hQ hW7 cD z0 HBS
        go_upto_region 10 with (fail)
        rw [HW7.out, HQQ.out]
        clear HW7 HQQ
        by_cases hx0 : x = 0
        · subst hx0
          obtain ⟨he, hy, hyl, him⟩ := enc_dec S7.out.byt HX.out
          rw [HF6.out] at he hy him
          have HI7 := hide him
          have HLY := hide S7.out.len
          have hn20 : n ≤ 4611686018427387904 := by have := S7.out.len; omega
          have cE := dencode_any W7 wr.heap.size A7 n7 c7 hs7' F6 G7 HI7 (hide (hT.out.below BW7.out)) (hide (hS.out.below BW7.out))
          clear him hyl
          go_wp2_with fail
          refine cE.mono ?_
          rintro e w8 ⟨r8, n8, rfl, ho8, hb8⟩
          rw [he] at ho8 ⊢
          rw [if_pos rfl, hy] at ho8
          have hl8 : ys.length = n8 := by have := own_len ho8; simpa [cellsU8] using this
          obtain ⟨A8, c8, rfl, -, -, -, -⟩ := own_seen ho8
          have B8' := hide (B7'.out.trans (hb8.mono B7'.out.size))
          have cs := same_any A A8 n c n8 c8 ys w8.heap.size w8 HLY (hide (hl8.symm.trans HLY.out)) hn20 (S7.out.call hb8).see (Sees.own ho8)
          clear ho8 hb8 hl8 cE q7 he hy
          go_wp2_with fail
          refine cs.mono ?_
          rintro e w9' ⟨rfl, q, rfl⟩
          have HN := hide (below_draws B8'.out q)
          clear cs
          go_wp2_with fail
          go_roundw
          case rel => exact ⟨i + 1, by omega, by go_num, HN⟩
          case measure => simp [intOf]; omega
        · have hne : (x != 0) = true := by simpa using hx0
          clear hx0 q7
          go_wp2_with fail
          go_roundw
          case rel => exact ⟨i + 1, by omega, by go_num, B7'⟩
          case measure => simp [intOf]; omega
      · obtain rfl : i = 4 := by omega
        have hlz : ¬ (((4 : Nat) : Int) < 4) := by omega
        have FIN := hide (BL.out.trans (hbr.out.mono BL.out.size))
        clear hlt
        go_wp2_with fail
        go_ret
        exact ⟨rfl, FIN.out⟩
end Go.Proofs.YtgcjckbndkddmaaDoor
end
