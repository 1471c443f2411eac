/-
  The walk of the law BitsetOf: for all l it returns true, and what was in memory before the call is as it was. Conditions: those of the types; the table of TrailingZeros64 lies as its initialiser lays it.
-/
import Derived.Test.YtfpdopfomagngaaDoorBlaws
namespace Go.Proofs.YtfpdopfomagngaaDoor
open Go.RowKit

set_option maxRecDepth 100000 in
set_option maxHeartbeats 2000000 in
theorem oflaw_few (A : Option Addr) (n c : Nat) (zs : List Int) (w : World) (h : Hid (Lst w A n zs)) (hf : n ≤ 600) (hT : Hid (Tab w)) :
    Calls Tryd.prog 3 #[.slice A n c] w fun e w' => e = .returned (.bool true) ∧ Below w.heap.size w w' := by
  go_enter Tryd.func3, Tryd.ntmps3
  go_wp2_with fail
  refine (awake_any w hT).mono ?_
  rintro e w1 ⟨rfl, hb1⟩
  have HB1 := hide hb1
  clear hb1
  obtain ⟨L, e_⟩ : ∃ l, unionL [] zs = l := ⟨_, rfl⟩
  have HE_L := hide e_
  have HS_L : Hid (Asc L) := hide (e_ ▸ unionL_asc .nil)
  clear e_
  obtain ⟨B, e_⟩ : ∃ l, ascB zs = l := ⟨_, rfl⟩
  have HE_B := hide e_
  clear e_
  have HL_l := hide (h.out.below HB1.out)
  go_wp2_with fail
  refine (t_of c HL_l (hide (hT.out.below HB1.out)) HE_L).mono ?_
  rintro e w2 hP
  obtain ⟨A_s1, c_s1, rfl, HL_s1, HA_s1, hb_⟩ := hP.open HS_L
  clear hP
  have HB2 := hide (below_call HB1.out hb_)
  replace HL_l := hide (HL_l.out.below hb_)
  clear hb_ HB1
  go_wp2_with fail
  refine (s_of c HL_l (by omega) HE_L).mono ?_
  rintro e w3 hP
  obtain ⟨A_s2, c_s2, rfl, HL_s2, HA_s2, hb_⟩ := hP.open HS_L
  clear hP
  have HB3 := hide (below_call HB2.out hb_)
  replace HL_l := hide (HL_l.out.below hb_)
  replace HL_s1 := hide (HL_s1.out.below hb_)
  clear hb_ HB2
  go_wp2_with fail
  refine (s_same c_s1 c_s2 HL_s1 HL_s2 (hide (decide_eq_true rfl))).mono ?_
  rintro e w4 ⟨rfl, hb_⟩
  have HB4 := hide (below_call HB3.out hb_)
  replace HL_l := hide (HL_l.out.below hb_)
  replace HL_s1 := hide (HL_s1.out.below hb_)
  clear HL_s2
  clear hb_ HB3
  go_wp2_with fail
  refine (t_check c HL_l (hide (hT.out.below HB4.out)) HE_B).mono ?_
  rintro e w5 ⟨rfl, hb_⟩
  have HB5 := hide (below_call HB4.out hb_)
  replace HL_l := hide (HL_l.out.below hb_)
  replace HL_s1 := hide (HL_s1.out.below hb_)
  clear hb_ HB4
  go_wp2_with fail
  refine (s_check c HL_l HE_B).mono ?_
  rintro e w6 ⟨rfl, hb_⟩
  have HB6 := hide (below_call HB5.out hb_)
  replace HL_l := hide (HL_l.out.below hb_)
  replace HL_s1 := hide (HL_s1.out.below hb_)
  clear hb_ HB5
  go_wp2_with fail
  refine (t_check c_s1 HL_s1 (hide (hT.out.below HB6.out)) (hide (ascB_iff.2 HS_L.out))).mono ?_
  rintro e w7 ⟨rfl, hb_⟩
  have HB7 := hide (below_call HB6.out hb_)
  replace HL_l := hide (HL_l.out.below hb_)
  replace HL_s1 := hide (HL_s1.out.below hb_)
  clear hb_ HB6
  go_wp2_with fail
  go_ret
  exact ⟨rfl, HB7.out⟩
set_option maxHeartbeats 1000000 in
theorem oflaw_many (A : Option Addr) (n c : Nat) (w : World) (hf : 600 < n) (hm : n ≤ 9223372036854775807) (hT : Hid (Tab w)) :
    Calls Tryd.prog 3 #[.slice A n c] w fun e w' => e = .returned (.bool true) ∧ Below w.heap.size w w' := by
  go_enter Tryd.func3, Tryd.ntmps3
  go_wp2_with fail
  refine (awake_any w hT).mono ?_
  rintro e w1 ⟨rfl, hb1⟩
  have HB1 := hide hb1
  clear hb1
  go_wp2_with fail
  go_ret
  exact ⟨by simp, HB1.out⟩
theorem oflaw_walk (A : Option Addr) (n c : Nat) (zs : List Int) (w : World) (h : Hid (Lst w A n zs)) (hT : Hid (Tab w)) :
    Calls Tryd.prog 3 #[.slice A n c] w fun e w' => e = .returned (.bool true) ∧ Below w.heap.size w w' := by
  by_cases hf : n ≤ 600
  · exact oflaw_few A n c zs w h hf hT
  · exact oflaw_many A n c w (by omega) h.out.le hT
end Go.Proofs.YtfpdopfomagngaaDoor
