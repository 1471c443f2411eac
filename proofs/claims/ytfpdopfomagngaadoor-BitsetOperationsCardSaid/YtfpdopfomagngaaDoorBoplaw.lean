/-
  The walk of the law BitsetOperations: for all codes it returns true, and what was in memory before the call is as it was. Conditions: those of the types; the table of TrailingZeros64 lies as its initialiser lays it.
-/
import Derived.Test.YtfpdopfomagngaaDoorBlaws
namespace Go.Proofs.YtfpdopfomagngaaDoor
open Go.RowKit

set_option maxRecDepth 100000 in
set_option maxHeartbeats 4000000 in
theorem oplaw_walk (A : Option Addr) (n c : Nat) (zs : List Int) (w : World) (hA : Hid (A = none → c = 0)) (hn : Hid (zs.length = n)) (hnc : n ≤ c) (hm : n ≤ 9223372036854775807) (hs : Hid (Sees w w.heap.size A (cellsU8 zs))) (hz : Hid (∀ z ∈ zs, 0 ≤ z ∧ z ≤ 255)) (hT : Hid (Tab w)) :
    Calls Tryd.prog 5 #[.slice A n c] w fun e w' => e = .returned (.bool true) ∧ Below w.heap.size w w' := by
  go_enter Tryd.func5, Tryd.ntmps5
  go_wp2_with fail
  refine (awake_any w hT).mono ?_
  rintro e w1 ⟨rfl, hb1⟩
  have HB1 := hide hb1
  clear hb1
  go_wp2_with fail
  refine (new_any A n c zs 120 w1 hA hn hnc hm (by omega) (hide ((hs.out.below HB1.out).more HB1.out.size)) hz).mono ?_
  rintro e w2 ⟨rfl, hC2, hb2⟩
  have HC2 := hide hC2
  have hg2 : w1.heap.size < w2.heap.size := hC2.lt
  have HB2 := hide (below_call HB1.out hb2)
  clear hC2 hb2
  go_wp2_with fail
  refine (set_any w1.heap.size w2 HC2).mono ?_
  rintro e w3 ⟨A_a, c_a, a, rfl, hA_, ho_, ha_, hC_, hG_⟩
  have HA_a := hide hA_
  have HO_a := hide ho_
  have HS_a := hide ha_
  have HC3 := hide hC_
  have hg3 : w1.heap.size < w3.heap.size := hC_.lt
  have HB3 := hide (below_turned HB2.out hG_ HB1.out.size HB2.out.size)
  clear hA_ ho_ ha_ hC_ hG_
  go_wp2_with fail
  refine (set_any w1.heap.size w3 HC3).mono ?_
  rintro e w4 ⟨A_b, c_b, b, rfl, hA_, ho_, ha_, hC_, hG_⟩
  have HA_b := hide hA_
  have HO_b := hide ho_
  have HS_b := hide ha_
  have HC4 := hide hC_
  have hg4 : w1.heap.size < w4.heap.size := hC_.lt
  have HB4 := hide (below_turned HB3.out hG_ HB1.out.size HB3.out.size)
  replace HO_a := hide (own_over HO_a.out hg2 hG_)
  clear hA_ ho_ ha_ hC_ hG_ HB3
  have HL_a : Hid (Lst w4 A_a a.length a) := hide ⟨rfl, by have := HS_a.out.length; omega, Sees.own HO_a.out, asc_rng HS_a.out⟩
  clear HO_a
  have HL_b : Hid (Lst w4 A_b b.length b) := hide ⟨rfl, by have := HS_b.out.length; omega, Sees.own HO_b.out, asc_rng HS_b.out⟩
  clear HO_b
  obtain ⟨U, e_⟩ : ∃ l, unionL a b = l := ⟨_, rfl⟩
  have HE_U := hide e_
  have HS_U : Hid (Asc U) := hide (e_ ▸ unionL_asc HS_a.out)
  clear e_
  obtain ⟨M, e_⟩ : ∃ l, meetL a b = l := ⟨_, rfl⟩
  have HE_M := hide e_
  have HS_M : Hid (Asc M) := hide (e_ ▸ meet_asc HS_a.out)
  clear e_
  obtain ⟨D, e_⟩ : ∃ l, minusL a b = l := ⟨_, rfl⟩
  have HE_D := hide e_
  have HS_D : Hid (Asc D) := hide (e_ ▸ minus_asc HS_a.out)
  clear e_
  obtain ⟨V, e_⟩ : ∃ l, decide (minusL a b = []) = l := ⟨_, rfl⟩
  have HE_V := hide e_
  clear e_
  go_wp2_with fail
  refine (t_union c_a c_b HL_a HL_b HS_a HS_b (hide (hT.out.below HB4.out)) HE_U).mono ?_
  rintro e w5 hP
  obtain ⟨A_u1, c_u1, rfl, HL_u1, HA_u1, hb_⟩ := hP.open HS_U
  clear hP
  have HB5 := hide (below_call HB4.out hb_)
  replace HL_a := hide (HL_a.out.below hb_)
  replace HL_b := hide (HL_b.out.below hb_)
  clear hb_ HB4
  go_wp2_with fail
  refine (s_union c_a c_b HL_a HL_b HA_a HS_a HS_b HE_U).mono ?_
  rintro e w6 hP
  obtain ⟨A_u2, c_u2, rfl, HL_u2, HA_u2, hb_⟩ := hP.open HS_U
  clear hP
  have HB6 := hide (below_call HB5.out hb_)
  replace HL_a := hide (HL_a.out.below hb_)
  replace HL_b := hide (HL_b.out.below hb_)
  replace HL_u1 := hide (HL_u1.out.below hb_)
  clear hb_ HB5
  go_wp2_with fail
  refine (s_same c_u1 c_u2 HL_u1 HL_u2 (hide (decide_eq_true rfl))).mono ?_
  rintro e w7 ⟨rfl, hb_⟩
  have HB7 := hide (below_call HB6.out hb_)
  replace HL_a := hide (HL_a.out.below hb_)
  replace HL_b := hide (HL_b.out.below hb_)
  clear HL_u1
  clear HL_u2
  clear hb_ HB6
  go_wp2_with fail
  refine (t_meet c_a c_b HL_a HL_b HS_a (hide (hT.out.below HB7.out)) HE_M).mono ?_
  rintro e w8 hP
  obtain ⟨A_m1, c_m1, rfl, HL_m1, HA_m1, hb_⟩ := hP.open HS_M
  clear hP
  have HB8 := hide (below_call HB7.out hb_)
  replace HL_a := hide (HL_a.out.below hb_)
  replace HL_b := hide (HL_b.out.below hb_)
  clear hb_ HB7
  go_wp2_with fail
  refine (s_meet c_a c_b HL_a HL_b HS_a HE_M).mono ?_
  rintro e w9 hP
  obtain ⟨A_m2, c_m2, rfl, HL_m2, HA_m2, hb_⟩ := hP.open HS_M
  clear hP
  have HB9 := hide (below_call HB8.out hb_)
  replace HL_a := hide (HL_a.out.below hb_)
  replace HL_b := hide (HL_b.out.below hb_)
  replace HL_m1 := hide (HL_m1.out.below hb_)
  clear hb_ HB8
  go_wp2_with fail
  refine (s_same c_m1 c_m2 HL_m1 HL_m2 (hide (decide_eq_true rfl))).mono ?_
  rintro e w10 ⟨rfl, hb_⟩
  have HB10 := hide (below_call HB9.out hb_)
  replace HL_a := hide (HL_a.out.below hb_)
  replace HL_b := hide (HL_b.out.below hb_)
  clear HL_m1
  clear HL_m2
  clear hb_ HB9
  go_wp2_with fail
  refine (t_minus c_a c_b HL_a HL_b HS_a (hide (hT.out.below HB10.out)) HE_D).mono ?_
  rintro e w11 hP
  obtain ⟨A_d1, c_d1, rfl, HL_d1, HA_d1, hb_⟩ := hP.open HS_D
  clear hP
  have HB11 := hide (below_call HB10.out hb_)
  replace HL_a := hide (HL_a.out.below hb_)
  replace HL_b := hide (HL_b.out.below hb_)
  clear hb_ HB10
  go_wp2_with fail
  refine (s_minus c_a c_b HL_a HL_b HS_a HE_D).mono ?_
  rintro e w12 hP
  obtain ⟨A_d2, c_d2, rfl, HL_d2, HA_d2, hb_⟩ := hP.open HS_D
  clear hP
  have HB12 := hide (below_call HB11.out hb_)
  replace HL_a := hide (HL_a.out.below hb_)
  replace HL_b := hide (HL_b.out.below hb_)
  replace HL_d1 := hide (HL_d1.out.below hb_)
  clear hb_ HB11
  go_wp2_with fail
  refine (s_same c_d1 c_d2 HL_d1 HL_d2 (hide (decide_eq_true rfl))).mono ?_
  rintro e w13 ⟨rfl, hb_⟩
  have HB13 := hide (below_call HB12.out hb_)
  replace HL_a := hide (HL_a.out.below hb_)
  replace HL_b := hide (HL_b.out.below hb_)
  clear HL_d1
  clear HL_d2
  clear hb_ HB12
  go_wp2_with fail
  refine (t_within c_a c_b HL_a HL_b HS_a HE_V).mono ?_
  rintro e w14 ⟨rfl, hb_⟩
  have HB14 := hide (below_call HB13.out hb_)
  replace HL_a := hide (HL_a.out.below hb_)
  replace HL_b := hide (HL_b.out.below hb_)
  clear hb_ HB13
  go_wp2_with fail
  refine (s_within c_a c_b HL_a HL_b HS_a HE_V).mono ?_
  rintro e w15 ⟨rfl, hb_⟩
  have HB15 := hide (below_call HB14.out hb_)
  replace HL_a := hide (HL_a.out.below hb_)
  replace HL_b := hide (HL_b.out.below hb_)
  clear hb_ HB14
  go_wp2_with fail
  refine (t_meet c_a c_b HL_a HL_b HS_a (hide (hT.out.below HB15.out)) HE_M).mono ?_
  rintro e w16 hP
  obtain ⟨A_m3, c_m3, rfl, HL_m3, HA_m3, hb_⟩ := hP.open HS_M
  clear hP
  have HB16 := hide (below_call HB15.out hb_)
  replace HL_a := hide (HL_a.out.below hb_)
  replace HL_b := hide (HL_b.out.below hb_)
  clear hb_ HB15
  go_wp2_with fail
  refine (t_within c_m3 c_b HL_m3 HL_b HS_M (show Hid (decide (minusL M b = []) = true) from hide (by rw [← HE_M.out]; exact meet_within))).mono ?_
  rintro e w17 ⟨rfl, hb_⟩
  have HB17 := hide (below_call HB16.out hb_)
  replace HL_a := hide (HL_a.out.below hb_)
  replace HL_b := hide (HL_b.out.below hb_)
  replace HL_m3 := hide (HL_m3.out.below hb_)
  clear hb_ HB16
  go_wp2_with fail
  go_ret
  exact ⟨rfl, HB17.out⟩
end Go.Proofs.YtfpdopfomagngaaDoor
