import Derived.Test.YtlkcjjalkdlicaaDoorMJall
import Derived.Test.YtlkcjjalkdlicaaDoorMJgood
import Derived.Laws.BitsAllLaws
set_option linter.unusedVariables false
set_option linter.unusedSimpArgs false
section
/-
  Chapter 11's awake; MachcodeDecodeInvertsEncode's law, walked. Conditions: those of the types; the table of TrailingZeros64 lies as it is laid.
-/
namespace Go.Proofs.YtlkcjjalkdlicaaDoor
open Go.RowKit

theorem jmod_nat (x : Int) (n : Nat) (w : World) (hn : 1 ≤ n) (hn2 : n ≤ 2000000) : Calls Tryd.prog 17 #[.int .i64 x, .int .i64 n] w fun e w' => (∃ i : Nat, i < n ∧ e = .returned (.int .i64 (i : Int))) ∧ w = w' :=
  (mod_any x n w (by omega) (by omega)).mono fun e w' ⟨he, hw⟩ => ⟨⟨(x % n).toNat, by have := Int.emod_lt_of_pos x (show (0 : Int) < n by omega); have := Int.emod_nonneg x (show (n : Int) ≠ 0 by omega); omega, by
    rw [he, Int.toNat_of_nonneg (Int.emod_nonneg x (by omega))]⟩, hw⟩
theorem jxor_byte (z y : Int) (z0 : 0 ≤ z) (z1 : z ≤ 255) (y0 : 0 ≤ y) (y1 : y ≤ 255) : 0 ≤ bits BinOp.xor IntKind.u8 z y ∧ bits BinOp.xor IntKind.u8 z y ≤ 255 ∧ (y ≠ 0 → bits BinOp.xor IntKind.u8 z y ≠ z) := by
  obtain ⟨a, rfl⟩ := Int.eq_ofNat_of_zero_le z0
  obtain ⟨b, rfl⟩ := Int.eq_ofNat_of_zero_le y0
  rw [u8_xor_nat a b (by omega) (by omega)]
  have hx : a ^^^ b < 2 ^ 8 := Nat.xor_lt_two_pow (by omega) (by omega)
  refine ⟨by omega, by omega, fun hne h => ?_⟩
  have h1 : a ^^^ b = a ^^^ 0 := by rw [Nat.xor_zero]; omega
  have := xor_inj' h1
  omega
def awT : Tg := [⟨0, 0, [⟨23, 0, 0, 0, 0⟩]⟩]
theorem awT_len : (encJ 16 0 awT).length = 15 := by
  rw [encJ_len]
  have e1 : lenv 4 = 1 := lenv_small (by omega)
  have e2 : lenv 0 = 1 := lenv_small (by omega)
  have e3 : lenv 1 = 1 := lenv_small (by omega)
  have e4 : expo 16 = 4 := expo_pow 4
  have e5 : (minsY ⟨23, 0, 0, 0, 0⟩).length = 1 := rfl
  simp only [tgY, awT, List.length_append, digsI_length, e4, frY, List.flatMap_cons, List.flatMap_nil, List.length_cons, List.length_nil, e5]
  rw [show ((0 : Int)).toNat = 0 from rfl, show ((0 : Int) / 16).toNat = 0 from rfl, e1, e2, e3]
  rfl
theorem awT_e : encJE 16 0 awT = 0 := by
  unfold encJE
  rw [if_neg (by decide), if_neg (by decide), if_neg (by rw [awT_len]; omega)]
theorem awT_i : ImmT awT := by
  intro f hf x hx
  simp [awT] at hf
  subst hf
  simp at hx
  subst hx
  exact ⟨Int.le_refl _, show (0 : Int) ≤ 18446744073709551615 by decide⟩

set_option maxRecDepth 100000 in
set_option maxHeartbeats 4000000 in
theorem awake11_any (w : World) (hTab : Hid (Tab w)) : Calls Tryd.prog 13 #[] w fun e w' => e = .returned (.bool true) ∧ Below w.heap.size w w' := by
  obtain ⟨W, hW⟩ : ∃ W, (w.alloc (.cells #[.int .i64 23, .int .i64 0, .int .i64 0, .int .i64 0, .int .u64 0] 65)).alloc (.cells #[.int .i64 0, .int .i64 0, .slice (some ⟨w.heap.size, 0, none⟩) 1 1] 83) = W := ⟨_, rfl⟩
  have HW := hide hW
  have hb := hide (show Below w.heap.size w W by rw [← hW]; exact below2 w _ _)
  have r0 := hide (show Row W w.heap.size 65 (icells [⟨23, 0, 0, 0, 0⟩]) by rw [← hW]; exact (Row.new w _ (icells [⟨23, 0, 0, 0, 0⟩])).alloc _)
  have r1 := hide (show Row W (w.heap.size + 1) 83 (fdcells [⟨0, 0, some ⟨w.heap.size, 0, none⟩, 1, 1⟩]) by rw [← hW]; exact (Row.new _ 83 [.int .i64 0, .int .i64 0, .slice (some ⟨w.heap.size, 0, none⟩) 1 1]).at_ (by simp))
  have HT := hide (show TgAt W 0 W.heap.size (some ⟨w.heap.size + 1, 0, none⟩) 1 1 [⟨0, 0, some ⟨w.heap.size, 0, none⟩, 1, 1⟩] awT from
    ⟨rfl, ⟨(fun e => by cases e), Nat.le_refl _, by omega⟩, Far.zero _, fun k u hu => ⟨w.heap.size + 1, 0, rfl, r1.out.lt, by rw [Nat.zero_add]; exact r1.out.cell hu⟩, ⟨rfl, fun j h f h1 h2 => by
      rcases j with _ | j
      · injection h1 with h1
        injection h2 with h2
        subst h1
        subst h2
        exact ⟨rfl, rfl, rfl, ⟨(fun e => by cases e), Nat.le_refl _, show (1 : Nat) ≤ 8796093022208 by omega⟩, Far.zero _, fun k u hu => ⟨w.heap.size, 0, rfl, r0.out.lt, by rw [Nat.zero_add]; exact r0.out.cell hu⟩⟩
      · simp at h1⟩⟩)
  have cc := jencode_any 16 0 (some ⟨w.heap.size + 1, 0, none⟩) 1 1 _ awT 0 W HT (hide awT_i) (hide (hTab.out.below hb.out))
  unfold JcPost at cc
  rw [awT_e] at cc
  clear hW
  go_enter Tryd.func13, Tryd.ntmps13
  go_wp2_with fail
  rw [HW.out]
  refine cc.mono ?_
  rintro e w2 ⟨A, n, c, rfl, h0, -, hb2⟩
  have hn : n = 15 := by rw [(h0 trivial).1, awT_len]
  subst hn
  have HB := hide (hb.out.trans (hb2.mono hb.out.size))
  clear h0 hb2 cc r0 r1 HW hb
  go_wp2_with fail
  go_ret
  exact ⟨rfl, HB.out⟩

set_option maxRecDepth 100000 in
set_option maxHeartbeats 8000000 in
theorem dieinv_walk (A0 : Option Addr) (n0 c0 : Nat) (zs0 : List Int) (bd at_ y : Int) (w : World)
    (hA : Hid (A0 = none → c0 = 0)) (hn : Hid (zs0.length = n0)) (hnc : n0 ≤ c0) (hm : n0 ≤ 9223372036854775807) (hs : Hid (Sees w w.heap.size A0 (cellsU8 zs0))) (hz : Hid (∀ z ∈ zs0, 0 ≤ z ∧ z ≤ 255)) (y0 : 0 ≤ y) (y1 : y ≤ 255) (hTab : Hid (Tab w)) :
    Calls Tryd.prog 6 #[.slice A0 n0 c0, .int .i64 bd, .int .i64 at_, .int .u8 y] w fun e w' => e = .returned (.bool true) ∧ Below w.heap.size w w' := by
  obtain ⟨i0, hi, hz0, hz1, hz2⟩ := info_parts Tryd.info5
  go_enter Tryd.func6, Tryd.ntmps6
  go_wp2_with fail
  refine (awake11_any w hTab).mono ?_
  rintro e w1 ⟨rfl, hb1⟩
  have HB1 := hide hb1
  have HT1 := hide (hTab.out.below hb1)
  have cn := new_any A0 n0 c0 zs0 300 w1 hA hn hnc hm (by omega) (hide ((hs.out.below hb1).more hb1.size)) hz
  rw [show ((300 : Nat) : Int) = 300 from rfl] at cn
  clear hb1 hs hA hn hz
  go_wp2_with fail
  refine cn.mono ?_
  rintro e w2 ⟨rfl, hC2, hb2⟩
  obtain ⟨g, hg⟩ : ∃ g, w1.heap.size = g := ⟨_, rfl⟩
  have HB2 := hide (below_call HB1.out hb2)
  have HT2 := hide (HT1.out.below hb2)
  have hwg : w.heap.size ≤ g := by rw [← hg]; exact HB1.out.size
  rw [hg] at hC2 ⊢
  have hgl := hC2.lt
  have cd := dtx_any g 5 12 w2 (hide hC2) (by omega) (by omega) (by omega)
  rw [show ((5 : Nat) : Int) = 5 from rfl, show ((12 : Nat) : Int) = 12 from rfl] at cd
  clear hb2 cn hg hC2
  go_wp2_with fail
  refine cd.mono ?_
  rintro e w3 ⟨F, A, n, c, hh, G, rfl, htg, hn1, hn2, hFl, hgd, hap, h16, hsv, -, hG3⟩
  obtain ⟨N, hN⟩ : ∃ N, bd % 2147483647 = N := ⟨_, rfl⟩
  have hNb : 0 ≤ N ∧ N < 2147483647 := by rw [← hN]; exact ⟨Int.emod_nonneg _ (by decide), Int.emod_lt_of_pos _ (by decide)⟩
  have hgood := draw_good (bd := N) hgd (by omega) (by omega) hap h16 hsv (bndB_iff.2 (by omega))
  obtain ⟨al, hal⟩ : ∃ a, alP F n = a := ⟨_, rfl⟩
  rw [hal] at hgood ⊢
  obtain ⟨P, hP⟩ : ∃ P, w3.heap.size = P := ⟨_, rfl⟩
  obtain ⟨W4, hW4⟩ : ∃ V, w3.alloc (.cells #[.int .i64 al, .slice A n c] 47) = V := ⟨_, rfl⟩
  have HW4 := hide hW4
  have HPP := hide hP
  have hb3 : Below w.heap.size w w3 := below_grown HB2.out hG3 hwg HB2.out.size
  have h34 : Below w3.heap.size w3 W4 := by rw [← hW4]; exact below1 w3 _
  have B4 := hide (below_call hb3 h34)
  have R4 := hide (show Row W4 P 47 [.int .i64 al, .slice A n c] by rw [← hW4, ← hP]; exact Row.new w3 _ _)
  have G4 := hide (htg.call h34)
  have HT4 := hide (show Tab W4 from hTab.out.below B4.out)
  have HGD := hide hgood
  clear hal hP hW4 hb3 h34 htg hG3 hgd hap h16 hsv hgood cd HB2 HT2 HB1 HT1
  go_upto_region 4 with (fail)
  rw [HW4.out, HPP.out]
  clear HW4 HPP
  have cm := mod_any bd 2147483647 W4 (by omega) (by omega)
  rw [hN] at cm
  clear hN
  go_wp2_with fail
  refine cm.mono ?_
  rintro e w' ⟨rfl, rfl⟩
  have p0 := R4.out.cell (k := 0) rfl
  have p1 := R4.out.cell (k := 1) rfl
  have ce := jencode_any al N A n c hh G _ W4 G4 (hide HGD.out.i) HT4
  unfold JcPost at ce
  rw [HGD.out.e] at ce
  clear cm
  go_wp2_with fail
  refine ce.mono ?_
  rintro e w5 ⟨A5, n5, c5, rfl, h0, -, hb5⟩
  obtain ⟨hn5, ho5⟩ := h0 trivial
  have hlen := encJ_len al N G
  have h7 := tgY_len al N G
  have hmx := HGD.out.parts.2.2.1
  have HBY := hide (tgY_byt HGD.out.parts.2.2.2)
  have HBZ := hide (show Byt (encJ al N G) from HBY.out.app (crcI_bytes _))
  have HJD := hide (JDec.good (zs := encJ al N G) (by omega) (by omega) HGD.out rfl)
  obtain ⟨ys, hys⟩ : ∃ ys, encJ al N G = ys := ⟨_, rfl⟩
  have HYS := hide hys
  rw [hys] at hn5 ho5 hlen hmx HJD HBZ
  have D5 := hide (BsAt.own ho5 HBZ.out)
  have B5 := hide (below_call B4.out hb5)
  have R5 := hide (R4.out.call hb5)
  have G5 := hide (G4.out.call hb5)
  have HT5 := hide (HT4.out.below hb5)
  have hn5a : n5 ≤ 1048576 := by omega
  have hn5b : 11 ≤ n5 := by omega
  have HN5 := hide hn5
  have cD := jdecode_any A5 n5 c5 ys w5 (by omega) D5 HT5
  clear h0 ho5 hb5 hn5 p0 p1 ce hys hlen hmx h7
  go_wp2_with fail
  refine cD.mono ?_
  rintro e w6 ⟨er, Al6, bd6, F6, A6, n6, c6, hs6, rfl, hjd, hp6, -, hb6⟩
  obtain ⟨rfl, rfl, rfl, rfl⟩ := HJD.out.unique hjd
  obtain ⟨Q, hQ⟩ : ∃ Q, w6.heap.size = Q := ⟨_, rfl⟩
  obtain ⟨W7, hW7⟩ : ∃ W7, w6.alloc (.cells #[.int .i64 al, .slice A6 n6 c6] 47) = W7 := ⟨_, rfl⟩
  have HW7 := hide hW7
  have HQQ := hide hQ
  have B6 := hide (below_call B5.out hb6)
  have h67 : Below w6.heap.size w6 W7 := by rw [← hW7]; exact below1 w6 _
  have B7 := hide (below_call B6.out h67)
  have R7 := hide ((R5.out.call hb6).call h67)
  have Q7 := hide (show Row W7 Q 47 [.int .i64 al, .slice A6 n6 c6] by rw [← hW7, ← hQ]; exact Row.new w6 _ _)
  have G7 := hide ((G5.out.call hb6).call h67)
  have H7 := hide (hp6.call h67)
  have D7 := hide ((D5.out.call hb6).call h67)
  have p0 := R7.out.cell (k := 0) rfl
  have p1 := R7.out.cell (k := 1) rfl
  have q0 := Q7.out.cell (k := 0) rfl
  have q1 := Q7.out.cell (k := 1) rfl
  have hn0 : ((n5 : Int) == 0) = false := by rw [beq_eq_false_iff_ne]; omega
  have cS := rsame10_any al A n c hh G al A6 n6 c6 hs6 G _ _ W7.heap.size W7.heap.size W7 G7 H7 (Nat.le_refl _) (Nat.le_refl _)
  rw [decide_eq_true (show al = al ∧ G = G from ⟨rfl, rfl⟩)] at cS
  clear hp6 hb6 hQ hW7 cD h67 hjd
  go_upto_region 7 with (fail)
  rw [HW7.out, HQQ.out]
  clear HW7 HQQ
  go_wp2_with fail
  refine cS.mono ?_
  rintro e w8 ⟨rfl, hb8⟩
  have B8 := hide (below_call B7.out hb8)
  have D8 := hide (D7.out.call hb8)
  clear hb8 cS p0 p1 q0 q1
  go_wp2_with (at_builtin; refine wpList_append_seesN rfl (.const (.slice none 0 0)) (.tmp 61) 22 rfl w8.heap.size 5 i0 (.int .u8 0) 1 1 Tryd.underlying22 hi hz0 hz1 hz2 rfl (by decide) (.slice none 0 0) 0 [] rfl (World.ownsRow_nil _ _ _ _) w8.heap.size A5 n5 c5 (cellsU8 ys) rfl (hide D8.out.nil_) (hide (by have := D8.out.len; simp [cellsU8]; omega)) (hide D8.out.see) (hide D8.out.nc) (one_u8 _) (by unfold maxLen; omega) (by omega) (Nat.le_refl _) ?_)
  intro v9 w9 ho0 hg9
  have ho9 : w9.ownsRow w8.heap.size 5 1 v9 n5 (cellsU8 ys) := by simpa using ho0
  have B9 := hide (below_call B8.out ((Below.refl w8.heap.size w8).grown hg9 (Nat.le_refl _) (fun k hk => by cases hk)))
  obtain ⟨gr, c9, rfl, hg8, hg9', -, -⟩ := own_block ho9 (by omega)
  have O9 := hide ho9
  clear ho0 hg9 ho9
  go_wp2_with fail
  refine (jmod_nat at_ n5 _ (by omega) (by omega)).mono ?_
  rintro e w' ⟨⟨i, hin, rfl⟩, rfl⟩
  have hil : i < ys.length := by have := HN5.out; omega
  have hzi := hide (List.getElem?_eq_getElem hil)
  obtain ⟨z, hzz⟩ : ∃ z, ys[i] = z := ⟨_, rfl⟩
  have hzb := HBZ.out z (by rw [← hzz]; exact List.getElem_mem _)
  rw [hzz] at hzi
  have hc : w9.cell? ⟨gr, i, none⟩ = some (.int .u8 z) := by rw [O9.out.cellAt i (by omega)]; simp [cellsU8, hzi.out]
  have hf : w9.frozen? ⟨gr, i, none⟩ = false := O9.out.frozenAt i
  have hiz : (0 : Int) ≤ (i : Int) := by omega
  have hiz2 : (i : Int) < (n5 : Int) := by omega
  have hx8 := jxor_byte z (max y 1) hzb.1 hzb.2 (by omega) (by omega)
  obtain ⟨z', hz'⟩ : ∃ z', bits BinOp.xor IntKind.u8 z (max y 1) = z' := ⟨_, rfl⟩
  rw [hz'] at hx8
  have HX8 := hide hx8
  have HZ' := hide hz'
  obtain ⟨W10, hW10⟩ : ∃ W10, w9.setCell ⟨gr, i, none⟩ (.int .u8 z') = W10 := ⟨_, rfl⟩
  have O10 := hide (show W10.ownsRow w8.heap.size 5 1 (.slice (some ⟨gr, 0, none⟩) n5 c9) n5 (cellsU8 (ys.set i z')) by
    have := (O9.out.stored i (.int .u8 z')).1
    rw [hW10] at this
    rwa [show (cellsU8 ys).set i (.int .u8 z') = cellsU8 (ys.set i z') by simp [cellsU8, List.map_set]] at this)
  have B10 := hide (show Below w.heap.size w W10 by rw [← hW10]; exact B9.out.setCell (p := ⟨gr, i, none⟩) (by have := B8.out.size; simp; omega) _)
  have D10 := hide (BsAt.own O10.out (HBZ.out.set i HX8.out.1 HX8.out.2.1))
  have HNO := hide (show ∀ (er a b : Int) (T : Tg), JDec (ys.set i z') er a b T → er = 2 from fun er a b T h => by
    have hl : (ys.set i z').length = n5 := by rw [List.length_set]; exact HN5.out.symm
    unfold JDec at h
    rw [if_neg (by omega), if_neg (by omega)] at h
    rcases h with ⟨_, _, he⟩ | ⟨h2, _⟩
    · exfalso
      have hq := hzi.out
      rw [← HYS.out] at hq he
      exact jturned HBY.out i hq HX8.out.1 HX8.out.2.1 (HX8.out.2.2 (by omega)) (tgY a b T) he
    · exact h2)
  have cD := jdecode_any (some ⟨gr, 0, none⟩) n5 c9 (ys.set i z') W10 (by omega) D10 (hide (hTab.out.below B10.out))
  have HW10 := hide hW10
  clear hzz hx8 hz' hW10 hzb
  go_upto_region 11 with (fail)
  rw [HZ'.out, HW10.out]
  clear hc hf HZ' HW10
  go_wp2_with fail
  refine cD.mono ?_
  rintro e w11 ⟨er, Al11, bd11, F11, A11, n11, c11, hs11, rfl, hjd, -, -, hb11⟩
  obtain rfl := HNO.out _ _ _ _ hjd
  have B11 := hide ((below_call B10.out hb11))
  have B12 := hide (B11.out.alloc B11.out.size (.cells #[.int .i64 Al11, .slice A11 n11 c11] 47))
  clear hb11 cD hjd HNO
  go_wp2_with fail
  go_ret
  exact ⟨rfl, B12.out⟩
end Go.Proofs.YtlkcjjalkdlicaaDoor
end
