/-
  The walk of the law BitsetLattice: for all codes it returns true, and what was in memory before the call is as it was. Conditions: those of the types; the table of TrailingZeros64 lies as its initialiser lays it.
-/
import Derived.Test.YtfpdopfomagngaaDoorBlaws
namespace Go.Proofs.YtfpdopfomagngaaDoor
open Go.RowKit

set_option maxRecDepth 100000 in
set_option maxHeartbeats 8000000 in
theorem latlaw_walk (A : Option Addr) (n c : Nat) (zs : List Int) (w : World) (hA : Hid (A = none → c = 0)) (hn : Hid (zs.length = n)) (hnc : n ≤ c) (hm : n ≤ 9223372036854775807) (hs : Hid (Sees w w.heap.size A (cellsU8 zs))) (hz : Hid (∀ z ∈ zs, 0 ≤ z ∧ z ≤ 255)) (hT : Hid (Tab w)) :
    Calls Tryd.prog 6 #[.slice A n c] w fun e w' => e = .returned (.bool true) ∧ Below w.heap.size w w' := by
  go_enter Tryd.func6, Tryd.ntmps6
  go_wp2_with fail
  refine (awake_any w hT).mono ?_
  rintro e w1 ⟨rfl, hb1⟩
  have HB1 := hide hb1
  clear hb1
  go_wp2_with fail
  refine (new_any A n c zs 180 w1 hA hn hnc hm (by omega) (hide ((hs.out.below HB1.out).more HB1.out.size)) hz).mono ?_
  rintro e w2 ⟨rfl, hC2, hb2⟩
  have HC2 := hide hC2
  have hg2 : w1.heap.size < w2.heap.size := hC2.lt
  have HB2 := hide (below_call HB1.out hb2)
  clear hC2 hb2
  go_wp2_with fail
  refine (set_any w1.heap.size w2 HC2).mono ?_
  rintro e w3 ⟨A_x, c_x, x, rfl, hA_, ho_, ha_, hC_, hG_⟩
  have HA_x := hide hA_
  have HO_x := hide ho_
  have HS_x := hide ha_
  have HC3 := hide hC_
  have hg3 : w1.heap.size < w3.heap.size := hC_.lt
  have HB3 := hide (below_turned HB2.out hG_ HB1.out.size HB2.out.size)
  clear hA_ ho_ ha_ hC_ hG_
  go_wp2_with fail
  refine (set_any w1.heap.size w3 HC3).mono ?_
  rintro e w4 ⟨A_y, c_y, y, rfl, hA_, ho_, ha_, hC_, hG_⟩
  have HA_y := hide hA_
  have HO_y := hide ho_
  have HS_y := hide ha_
  have HC4 := hide hC_
  have hg4 : w1.heap.size < w4.heap.size := hC_.lt
  have HB4 := hide (below_turned HB3.out hG_ HB1.out.size HB3.out.size)
  replace HO_x := hide (own_over HO_x.out hg2 hG_)
  clear hA_ ho_ ha_ hC_ hG_ HB3
  go_wp2_with fail
  refine (set_any w1.heap.size w4 HC4).mono ?_
  rintro e w5 ⟨A_z, c_z, z, rfl, hA_, ho_, ha_, hC_, hG_⟩
  have HA_z := hide hA_
  have HO_z := hide ho_
  have HS_z := hide ha_
  have HC5 := hide hC_
  have hg5 : w1.heap.size < w5.heap.size := hC_.lt
  have HB5 := hide (below_turned HB4.out hG_ HB1.out.size HB4.out.size)
  replace HO_x := hide (own_over HO_x.out hg2 hG_)
  replace HO_y := hide (own_over HO_y.out hg3 hG_)
  clear hA_ ho_ ha_ hC_ hG_ HB4
  have HL_x : Hid (Lst w5 A_x x.length x) := hide ⟨rfl, by have := HS_x.out.length; omega, Sees.own HO_x.out, asc_rng HS_x.out⟩
  clear HO_x
  have HL_y : Hid (Lst w5 A_y y.length y) := hide ⟨rfl, by have := HS_y.out.length; omega, Sees.own HO_y.out, asc_rng HS_y.out⟩
  clear HO_y
  have HL_z : Hid (Lst w5 A_z z.length z) := hide ⟨rfl, by have := HS_z.out.length; omega, Sees.own HO_z.out, asc_rng HS_z.out⟩
  clear HO_z
  obtain ⟨U, e_⟩ : ∃ l, unionL x y = l := ⟨_, rfl⟩
  have HE_U := hide e_
  have HS_U : Hid (Asc U) := hide (e_ ▸ unionL_asc HS_x.out)
  clear e_
  obtain ⟨M, e_⟩ : ∃ l, meetL x y = l := ⟨_, rfl⟩
  have HE_M := hide e_
  have HS_M : Hid (Asc M) := hide (e_ ▸ meet_asc HS_x.out)
  clear e_
  obtain ⟨U2, e_⟩ : ∃ l, unionL y z = l := ⟨_, rfl⟩
  have HE_U2 := hide e_
  have HS_U2 : Hid (Asc U2) := hide (e_ ▸ unionL_asc HS_y.out)
  clear e_
  obtain ⟨R, e_⟩ : ∃ l, meetL x U2 = l := ⟨_, rfl⟩
  have HE_R := hide e_
  have HS_R : Hid (Asc R) := hide (e_ ▸ meet_asc HS_x.out)
  clear e_
  obtain ⟨M2, e_⟩ : ∃ l, meetL x z = l := ⟨_, rfl⟩
  have HE_M2 := hide e_
  have HS_M2 : Hid (Asc M2) := hide (e_ ▸ meet_asc HS_x.out)
  clear e_
  obtain ⟨D, e_⟩ : ∃ l, minusL x y = l := ⟨_, rfl⟩
  have HE_D := hide e_
  have HS_D : Hid (Asc D) := hide (e_ ▸ minus_asc HS_x.out)
  clear e_
  obtain ⟨E, e_⟩ : ∃ l, meetL D y = l := ⟨_, rfl⟩
  have HE_E := hide e_
  have HS_E : Hid (Asc E) := hide (e_ ▸ meet_asc HS_D.out)
  clear e_
  obtain ⟨R2, e_⟩ : ∃ l, minusL x U2 = l := ⟨_, rfl⟩
  have HE_R2 := hide e_
  have HS_R2 : Hid (Asc R2) := hide (e_ ▸ minus_asc HS_x.out)
  clear e_
  obtain ⟨V, e_⟩ : ∃ l, decide (minusL x y = []) = l := ⟨_, rfl⟩
  have HE_V := hide e_
  clear e_
  have hE0 : ((E.length : Int) == 0) = true := by rw [← HE_E.out, ← HE_D.out, apart]; rfl
  go_wp2_with fail
  refine (t_union c_x c_y HL_x HL_y HS_x HS_y (hide (hT.out.below HB5.out)) HE_U).mono ?_
  rintro e w6 hP
  obtain ⟨A_u1, c_u1, rfl, HL_u1, HA_u1, hb_⟩ := hP.open HS_U
  clear hP
  have HB6 := hide (below_call HB5.out hb_)
  replace HL_x := hide (HL_x.out.below hb_)
  replace HL_y := hide (HL_y.out.below hb_)
  replace HL_z := hide (HL_z.out.below hb_)
  clear hb_ HB5
  go_wp2_with fail
  refine (t_meet c_x c_u1 HL_x HL_u1 HS_x (hide (hT.out.below HB6.out)) (show Hid (meetL x U = x) from hide (by rw [← HE_U.out]; exact absorb1 HS_x.out HS_y.out))).mono ?_
  rintro e w7 hP
  obtain ⟨A_r1, c_r1, rfl, HL_r1, HA_r1, hb_⟩ := hP.open HS_x
  clear hP
  have HB7 := hide (below_call HB6.out hb_)
  replace HL_x := hide (HL_x.out.below hb_)
  replace HL_y := hide (HL_y.out.below hb_)
  replace HL_z := hide (HL_z.out.below hb_)
  replace HL_u1 := hide (HL_u1.out.below hb_)
  clear hb_ HB6
  go_wp2_with fail
  refine (s_same c_r1 c_x HL_r1 HL_x (hide (decide_eq_true rfl))).mono ?_
  rintro e w8 ⟨rfl, hb_⟩
  have HB8 := hide (below_call HB7.out hb_)
  replace HL_x := hide (HL_x.out.below hb_)
  replace HL_y := hide (HL_y.out.below hb_)
  replace HL_z := hide (HL_z.out.below hb_)
  clear HL_u1
  clear HL_r1
  clear hb_ HB7
  go_wp2_with fail
  refine (t_meet c_x c_y HL_x HL_y HS_x (hide (hT.out.below HB8.out)) HE_M).mono ?_
  rintro e w9 hP
  obtain ⟨A_m1, c_m1, rfl, HL_m1, HA_m1, hb_⟩ := hP.open HS_M
  clear hP
  have HB9 := hide (below_call HB8.out hb_)
  replace HL_x := hide (HL_x.out.below hb_)
  replace HL_y := hide (HL_y.out.below hb_)
  replace HL_z := hide (HL_z.out.below hb_)
  clear hb_ HB8
  go_wp2_with fail
  refine (t_union c_x c_m1 HL_x HL_m1 HS_x HS_M (hide (hT.out.below HB9.out)) (show Hid (unionL x M = x) from hide (by rw [← HE_M.out]; exact absorb2 HS_x.out))).mono ?_
  rintro e w10 hP
  obtain ⟨A_r2, c_r2, rfl, HL_r2, HA_r2, hb_⟩ := hP.open HS_x
  clear hP
  have HB10 := hide (below_call HB9.out hb_)
  replace HL_x := hide (HL_x.out.below hb_)
  replace HL_y := hide (HL_y.out.below hb_)
  replace HL_z := hide (HL_z.out.below hb_)
  replace HL_m1 := hide (HL_m1.out.below hb_)
  clear hb_ HB9
  go_wp2_with fail
  refine (s_same c_r2 c_x HL_r2 HL_x (hide (decide_eq_true rfl))).mono ?_
  rintro e w11 ⟨rfl, hb_⟩
  have HB11 := hide (below_call HB10.out hb_)
  replace HL_x := hide (HL_x.out.below hb_)
  replace HL_y := hide (HL_y.out.below hb_)
  replace HL_z := hide (HL_z.out.below hb_)
  clear HL_m1
  clear HL_r2
  clear hb_ HB10
  go_wp2_with fail
  refine (t_union c_y c_z HL_y HL_z HS_y HS_z (hide (hT.out.below HB11.out)) HE_U2).mono ?_
  rintro e w12 hP
  obtain ⟨A_u2, c_u2, rfl, HL_u2, HA_u2, hb_⟩ := hP.open HS_U2
  clear hP
  have HB12 := hide (below_call HB11.out hb_)
  replace HL_x := hide (HL_x.out.below hb_)
  replace HL_y := hide (HL_y.out.below hb_)
  replace HL_z := hide (HL_z.out.below hb_)
  clear hb_ HB11
  go_wp2_with fail
  refine (t_meet c_x c_u2 HL_x HL_u2 HS_x (hide (hT.out.below HB12.out)) HE_R).mono ?_
  rintro e w13 hP
  obtain ⟨A_r3, c_r3, rfl, HL_r3, HA_r3, hb_⟩ := hP.open HS_R
  clear hP
  have HB13 := hide (below_call HB12.out hb_)
  replace HL_x := hide (HL_x.out.below hb_)
  replace HL_y := hide (HL_y.out.below hb_)
  replace HL_z := hide (HL_z.out.below hb_)
  clear HL_u2
  clear hb_ HB12
  go_wp2_with fail
  refine (t_meet c_x c_y HL_x HL_y HS_x (hide (hT.out.below HB13.out)) HE_M).mono ?_
  rintro e w14 hP
  obtain ⟨A_m2, c_m2, rfl, HL_m2, HA_m2, hb_⟩ := hP.open HS_M
  clear hP
  have HB14 := hide (below_call HB13.out hb_)
  replace HL_x := hide (HL_x.out.below hb_)
  replace HL_y := hide (HL_y.out.below hb_)
  replace HL_z := hide (HL_z.out.below hb_)
  replace HL_r3 := hide (HL_r3.out.below hb_)
  clear hb_ HB13
  go_wp2_with fail
  refine (t_meet c_x c_z HL_x HL_z HS_x (hide (hT.out.below HB14.out)) HE_M2).mono ?_
  rintro e w15 hP
  obtain ⟨A_m3, c_m3, rfl, HL_m3, HA_m3, hb_⟩ := hP.open HS_M2
  clear hP
  have HB15 := hide (below_call HB14.out hb_)
  replace HL_x := hide (HL_x.out.below hb_)
  replace HL_y := hide (HL_y.out.below hb_)
  replace HL_z := hide (HL_z.out.below hb_)
  replace HL_r3 := hide (HL_r3.out.below hb_)
  replace HL_m2 := hide (HL_m2.out.below hb_)
  clear hb_ HB14
  go_wp2_with fail
  refine (t_union c_m2 c_m3 HL_m2 HL_m3 HS_M HS_M2 (hide (hT.out.below HB15.out)) (show Hid (unionL M M2 = R) from hide (by rw [← HE_M.out, ← HE_M2.out, ← HE_R.out, ← HE_U2.out]; exact (spread HS_x.out HS_z.out).symm))).mono ?_
  rintro e w16 hP
  obtain ⟨A_r4, c_r4, rfl, HL_r4, HA_r4, hb_⟩ := hP.open HS_R
  clear hP
  have HB16 := hide (below_call HB15.out hb_)
  replace HL_x := hide (HL_x.out.below hb_)
  replace HL_y := hide (HL_y.out.below hb_)
  replace HL_z := hide (HL_z.out.below hb_)
  replace HL_r3 := hide (HL_r3.out.below hb_)
  replace HL_m2 := hide (HL_m2.out.below hb_)
  replace HL_m3 := hide (HL_m3.out.below hb_)
  clear hb_ HB15
  go_wp2_with fail
  refine (s_same c_r3 c_r4 HL_r3 HL_r4 (hide (decide_eq_true rfl))).mono ?_
  rintro e w17 ⟨rfl, hb_⟩
  have HB17 := hide (below_call HB16.out hb_)
  replace HL_x := hide (HL_x.out.below hb_)
  replace HL_y := hide (HL_y.out.below hb_)
  replace HL_z := hide (HL_z.out.below hb_)
  clear HL_r3
  clear HL_m2
  clear HL_m3
  clear HL_r4
  clear hb_ HB16
  go_wp2_with fail
  refine (t_minus c_x c_y HL_x HL_y HS_x (hide (hT.out.below HB17.out)) HE_D).mono ?_
  rintro e w18 hP
  obtain ⟨A_d1, c_d1, rfl, HL_d1, HA_d1, hb_⟩ := hP.open HS_D
  clear hP
  have HB18 := hide (below_call HB17.out hb_)
  replace HL_x := hide (HL_x.out.below hb_)
  replace HL_y := hide (HL_y.out.below hb_)
  replace HL_z := hide (HL_z.out.below hb_)
  clear hb_ HB17
  go_wp2_with fail
  refine (t_meet c_x c_y HL_x HL_y HS_x (hide (hT.out.below HB18.out)) HE_M).mono ?_
  rintro e w19 hP
  obtain ⟨A_m4, c_m4, rfl, HL_m4, HA_m4, hb_⟩ := hP.open HS_M
  clear hP
  have HB19 := hide (below_call HB18.out hb_)
  replace HL_x := hide (HL_x.out.below hb_)
  replace HL_y := hide (HL_y.out.below hb_)
  replace HL_z := hide (HL_z.out.below hb_)
  replace HL_d1 := hide (HL_d1.out.below hb_)
  clear hb_ HB18
  go_wp2_with fail
  refine (t_union c_d1 c_m4 HL_d1 HL_m4 HS_D HS_M (hide (hT.out.below HB19.out)) (show Hid (unionL D M = x) from hide (by rw [← HE_D.out, ← HE_M.out]; exact parts HS_x.out))).mono ?_
  rintro e w20 hP
  obtain ⟨A_r5, c_r5, rfl, HL_r5, HA_r5, hb_⟩ := hP.open HS_x
  clear hP
  have HB20 := hide (below_call HB19.out hb_)
  replace HL_x := hide (HL_x.out.below hb_)
  replace HL_y := hide (HL_y.out.below hb_)
  replace HL_z := hide (HL_z.out.below hb_)
  replace HL_d1 := hide (HL_d1.out.below hb_)
  replace HL_m4 := hide (HL_m4.out.below hb_)
  clear hb_ HB19
  go_wp2_with fail
  refine (s_same c_r5 c_x HL_r5 HL_x (hide (decide_eq_true rfl))).mono ?_
  rintro e w21 ⟨rfl, hb_⟩
  have HB21 := hide (below_call HB20.out hb_)
  replace HL_x := hide (HL_x.out.below hb_)
  replace HL_y := hide (HL_y.out.below hb_)
  replace HL_z := hide (HL_z.out.below hb_)
  clear HL_d1
  clear HL_m4
  clear HL_r5
  clear hb_ HB20
  go_wp2_with fail
  refine (t_minus c_x c_y HL_x HL_y HS_x (hide (hT.out.below HB21.out)) HE_D).mono ?_
  rintro e w22 hP
  obtain ⟨A_d2, c_d2, rfl, HL_d2, HA_d2, hb_⟩ := hP.open HS_D
  clear hP
  have HB22 := hide (below_call HB21.out hb_)
  replace HL_x := hide (HL_x.out.below hb_)
  replace HL_y := hide (HL_y.out.below hb_)
  replace HL_z := hide (HL_z.out.below hb_)
  clear hb_ HB21
  go_wp2_with fail
  refine (t_meet c_d2 c_y HL_d2 HL_y HS_D (hide (hT.out.below HB22.out)) HE_E).mono ?_
  rintro e w23 hP
  obtain ⟨A_e1, c_e1, rfl, HL_e1, HA_e1, hb_⟩ := hP.open HS_E
  clear hP
  have HB23 := hide (below_call HB22.out hb_)
  replace HL_x := hide (HL_x.out.below hb_)
  replace HL_y := hide (HL_y.out.below hb_)
  replace HL_z := hide (HL_z.out.below hb_)
  clear HL_d2
  clear hb_ HB22
  go_wp2_with fail
  refine (t_union c_y c_z HL_y HL_z HS_y HS_z (hide (hT.out.below HB23.out)) HE_U2).mono ?_
  rintro e w24 hP
  obtain ⟨A_u3, c_u3, rfl, HL_u3, HA_u3, hb_⟩ := hP.open HS_U2
  clear hP
  have HB24 := hide (below_call HB23.out hb_)
  replace HL_x := hide (HL_x.out.below hb_)
  replace HL_y := hide (HL_y.out.below hb_)
  replace HL_z := hide (HL_z.out.below hb_)
  replace HL_e1 := hide (HL_e1.out.below hb_)
  clear hb_ HB23
  go_wp2_with fail
  refine (t_minus c_x c_u3 HL_x HL_u3 HS_x (hide (hT.out.below HB24.out)) HE_R2).mono ?_
  rintro e w25 hP
  obtain ⟨A_r6, c_r6, rfl, HL_r6, HA_r6, hb_⟩ := hP.open HS_R2
  clear hP
  have HB25 := hide (below_call HB24.out hb_)
  replace HL_x := hide (HL_x.out.below hb_)
  replace HL_y := hide (HL_y.out.below hb_)
  replace HL_z := hide (HL_z.out.below hb_)
  clear HL_e1
  clear HL_u3
  clear hb_ HB24
  go_wp2_with fail
  refine (t_minus c_x c_y HL_x HL_y HS_x (hide (hT.out.below HB25.out)) HE_D).mono ?_
  rintro e w26 hP
  obtain ⟨A_d3, c_d3, rfl, HL_d3, HA_d3, hb_⟩ := hP.open HS_D
  clear hP
  have HB26 := hide (below_call HB25.out hb_)
  replace HL_x := hide (HL_x.out.below hb_)
  replace HL_y := hide (HL_y.out.below hb_)
  replace HL_z := hide (HL_z.out.below hb_)
  replace HL_r6 := hide (HL_r6.out.below hb_)
  clear hb_ HB25
  go_wp2_with fail
  refine (t_minus c_d3 c_z HL_d3 HL_z HS_D (hide (hT.out.below HB26.out)) (show Hid (minusL D z = R2) from hide (by rw [← HE_D.out, ← HE_R2.out, ← HE_U2.out]; exact (morgan HS_x.out HS_z.out).symm))).mono ?_
  rintro e w27 hP
  obtain ⟨A_r7, c_r7, rfl, HL_r7, HA_r7, hb_⟩ := hP.open HS_R2
  clear hP
  have HB27 := hide (below_call HB26.out hb_)
  replace HL_x := hide (HL_x.out.below hb_)
  replace HL_y := hide (HL_y.out.below hb_)
  replace HL_z := hide (HL_z.out.below hb_)
  replace HL_r6 := hide (HL_r6.out.below hb_)
  replace HL_d3 := hide (HL_d3.out.below hb_)
  clear hb_ HB26
  go_wp2_with fail
  refine (s_same c_r6 c_r7 HL_r6 HL_r7 (hide (decide_eq_true rfl))).mono ?_
  rintro e w28 ⟨rfl, hb_⟩
  have HB28 := hide (below_call HB27.out hb_)
  replace HL_x := hide (HL_x.out.below hb_)
  replace HL_y := hide (HL_y.out.below hb_)
  replace HL_z := hide (HL_z.out.below hb_)
  clear HL_r6
  clear HL_d3
  clear HL_r7
  clear hb_ HB27
  go_wp2_with fail
  refine (t_within c_x c_y HL_x HL_y HS_x HE_V).mono ?_
  rintro e w29 ⟨rfl, hb_⟩
  have HB29 := hide (below_call HB28.out hb_)
  replace HL_x := hide (HL_x.out.below hb_)
  replace HL_y := hide (HL_y.out.below hb_)
  replace HL_z := hide (HL_z.out.below hb_)
  clear hb_ HB28
  go_wp2_with fail
  refine (t_union c_x c_y HL_x HL_y HS_x HS_y (hide (hT.out.below HB29.out)) HE_U).mono ?_
  rintro e w30 hP
  obtain ⟨A_u4, c_u4, rfl, HL_u4, HA_u4, hb_⟩ := hP.open HS_U
  clear hP
  have HB30 := hide (below_call HB29.out hb_)
  replace HL_x := hide (HL_x.out.below hb_)
  replace HL_y := hide (HL_y.out.below hb_)
  replace HL_z := hide (HL_z.out.below hb_)
  clear hb_ HB29
  go_wp2_with fail
  refine (s_same c_u4 c_y HL_u4 HL_y (show Hid (decide (U = y) = V) from hide (by rw [← HE_U.out, ← HE_V.out]; exact (within_union HS_x.out HS_y.out).symm))).mono ?_
  rintro e w31 ⟨rfl, hb_⟩
  have HB31 := hide (below_call HB30.out hb_)
  replace HL_x := hide (HL_x.out.below hb_)
  replace HL_y := hide (HL_y.out.below hb_)
  replace HL_z := hide (HL_z.out.below hb_)
  replace HL_u4 := hide (HL_u4.out.below hb_)
  clear hb_ HB30
  go_wp2_with fail
  go_ret
  exact ⟨rfl, HB31.out⟩
end Go.Proofs.YtfpdopfomagngaaDoor
