/-
  The walk of the law BitsetElements: for all codes and n it returns true, and what was in memory before the call is as it was. Conditions: those of the types; the table of TrailingZeros64 lies as its initialiser lays it.
-/
import Derived.Test.YtfpdopfomagngaaDoorBlaws
namespace Go.Proofs.YtfpdopfomagngaaDoor
open Go.RowKit

theorem three_int (x y z : Int) (k : Nat) (hk : k < 3) : ∃ v : Int, ([.int .i64 x, .int .i64 y, .int .i64 z] : List Value)[k]? = some (.int .i64 v) ∧ (v = x ∨ v = y ∨ v = z) := by
  rcases (show k = 0 ∨ k = 1 ∨ k = 2 by omega) with rfl | rfl | rfl
  · exact ⟨x, rfl, .inl rfl⟩
  · exact ⟨y, rfl, .inr (.inl rfl)⟩
  · exact ⟨z, rfl, .inr (.inr rfl)⟩
/-- What the loop keeps. -/
def EleRel (w wr : World) (g : Nat) (A : Option Addr) (s : List Int) (x y z : Int) (i : Value) : Prop :=
  ∃ j : Nat, j ≤ 3 ∧ i = .int .i64 j ∧ Row wr g 3 [.int .i64 x, .int .i64 y, .int .i64 z] ∧ Lst wr A s.length s ∧ Below w.heap.size w wr
set_option maxRecDepth 100000 in
set_option maxHeartbeats 4000000 in
theorem elelaw_walk (A : Option Addr) (n c : Nat) (zs : List Int) (m : Int) (w : World) (hA : Hid (A = none → c = 0)) (hn : Hid (zs.length = n)) (hnc : n ≤ c) (hm : n ≤ 9223372036854775807) (hs : Hid (Sees w w.heap.size A (cellsU8 zs))) (hz : Hid (∀ z ∈ zs, 0 ≤ z ∧ z ≤ 255)) (hT : Hid (Tab w)) (m0 : -9223372036854775808 ≤ m) (m1 : m ≤ 9223372036854775807) :
    Calls Tryd.prog 4 #[.slice A n c, .int .i64 m] w fun e w' => e = .returned (.bool true) ∧ Below w.heap.size w w' := by
  go_enter Tryd.func4, Tryd.ntmps4
  go_wp2_with fail
  refine (awake_any w hT).mono ?_
  rintro e w1 ⟨rfl, hb1⟩
  have HB1 := hide hb1
  clear hb1
  go_wp2_with fail
  refine (new_any A n c zs 60 w1 hA hn hnc hm (by omega) (hide ((hs.out.below HB1.out).more HB1.out.size)) hz).mono ?_
  rintro e w2 ⟨rfl, hC2, hb2⟩
  have HC2 := hide hC2
  have hg2 : w1.heap.size < w2.heap.size := hC2.lt
  have HB2 := hide (below_call HB1.out hb2)
  clear hC2 hb2
  go_wp2_with fail
  refine (set_any w1.heap.size w2 HC2).mono ?_
  rintro e w3 ⟨A_s, c_s, s, rfl, hA_, ho_, ha_, hC_, hG_⟩
  have HA_s := hide hA_
  have HO_s := hide ho_
  have HS_s := hide ha_
  have HC3 := hide hC_
  have hg3 : w1.heap.size < w3.heap.size := hC_.lt
  have HB3 := hide (below_turned HB2.out hG_ HB1.out.size HB2.out.size)
  clear hA_ ho_ ha_ hC_ hG_
  have HL_s : Hid (Lst w3 A_s s.length s) := hide ⟨rfl, by have := HS_s.out.length; omega, Sees.own HO_s.out, asc_rng HS_s.out⟩
  have x0 := Int.emod_nonneg m (show (32 : Int) ≠ 0 by omega)
  have x1 := Int.emod_lt_of_pos m (show (0 : Int) < 32 by omega)
  have cm := mod_any m 32 w3 (by omega) (by omega)
  generalize m % 32 = p at x0 x1 cm
  go_wp2_with fail
  refine cm.mono ?_
  rintro e w' ⟨rfl, rfl⟩
  clear cm
  go_wp2_with fail
  refine (next_any w1.heap.size 3 w3 HC3 (by omega) (by omega)).mono ?_
  rintro e w4 ⟨u, rfl, u0, u1, hC4, hG4, hz⟩
  clear hz
  have HL4 : Hid (Lst w4 A_s s.length s) := hide ⟨rfl, by have := HS_s.out.length; omega, Sees.own (own_over HO_s.out hg2 hG4), asc_rng HS_s.out⟩
  have HB4 := hide (below_turned HB3.out hG4 HB1.out.size HB3.out.size)
  clear hC4 hG4 HC3 HB3 HL_s HO_s
  go_wp2_with fail
  obtain ⟨W, eW⟩ : ∃ W, W = w4.alloc (.cells #[.int .i64 m, .int .i64 p, .int .i64 (512 - u)] 3) := ⟨_, rfl⟩
  have hRow : Row W w4.heap.size 3 [.int .i64 m, .int .i64 p, .int .i64 (512 - u)] := by rw [eW]; exact Row.new w4 _ _
  have hBW : Below w4.heap.size w4 W := by rw [eW]; exact below1 _ _
  rw [← eW]
  have HR : Hid (EleRel w W w4.heap.size A_s s m p (512 - u) (.int .i64 0)) := hide ⟨0, by omega, rfl, hRow, HL4.out.below hBW, below_call HB4.out hBW⟩
  clear eW hRow hBW HL4 HB4
  go_loopw [23] (fun i wr => Hid (EleRel w wr w4.heap.size A_s s m p (512 - u) i)) (fun i _ => 3 - (intOf i).toNat)
  case atStart => exact HR
  case round =>
    clear HR
    obtain ⟨j, hj, rfl, hrow, hL, hb⟩ := hrel.out
    obtain ⟨w10, ew⟩ : ∃ w10 : World, w10 = wr := ⟨_, rfl⟩
    rw [← ew] at hrow hL hb ⊢
    have HRow := hide hrow
    have HL_s := hide hL
    have HB10 := hide hb
    clear hrel hL hb ew
    by_cases hlt : j < 3
    · obtain ⟨x, hx, hcase⟩ := three_int m p (512 - u) j hlt
      have hc := hrow.cell hx
      have y0 : -9223372036854775808 ≤ x := by omega
      have y1 : x ≤ 9223372036854775807 := by omega
      have hd : decide ((j : Int) < 3) = true := decide_eq_true (by omega)
      clear hrow hx hcase
      obtain ⟨V, e_⟩ : ∃ l, hasB s x = l := ⟨_, rfl⟩
      have HE_V := hide e_
      clear e_
      obtain ⟨P, e_⟩ : ∃ l, addL s x = l := ⟨_, rfl⟩
      have HE_P := hide e_
      have HS_P : Hid (Asc P) := hide (e_ ▸ addL_asc HS_s.out)
      clear e_
      obtain ⟨Q, e_⟩ : ∃ l, removeL s x = l := ⟨_, rfl⟩
      have HE_Q := hide e_
      have HS_Q : Hid (Asc Q) := hide (e_ ▸ remove_asc HS_s.out)
      clear e_
      go_wp2_with fail
      refine (t_has c_s HL_s HS_s y0 y1 HE_V).mono ?_
      rintro e w11 ⟨rfl, hb_⟩
      have HB11 := hide (below_call HB10.out hb_)
      replace HL_s := hide (HL_s.out.below hb_)
      replace HRow := hide (HRow.out.call hb_)
      clear hb_ HB10
      clear hc
      go_wp2_with fail
      refine (s_has c_s HL_s HE_V).mono ?_
      rintro e w12 ⟨rfl, hb_⟩
      have HB12 := hide (below_call HB11.out hb_)
      replace HL_s := hide (HL_s.out.below hb_)
      replace HRow := hide (HRow.out.call hb_)
      clear hb_ HB11
      go_wp2_with fail
      refine (t_add c_s HL_s HS_s y0 y1 (hide (hT.out.below HB12.out)) HE_P).mono ?_
      rintro e w13 hP
      obtain ⟨A_p1, c_p1, rfl, HL_p1, HA_p1, hb_⟩ := hP.open HS_P
      clear hP
      have HB13 := hide (below_call HB12.out hb_)
      replace HL_s := hide (HL_s.out.below hb_)
      replace HRow := hide (HRow.out.call hb_)
      clear hb_ HB12
      go_wp2_with fail
      refine (s_add c_s HL_s HS_s HE_P).mono ?_
      rintro e w14 hP
      obtain ⟨A_p2, c_p2, rfl, HL_p2, HA_p2, hb_⟩ := hP.open HS_P
      clear hP
      have HB14 := hide (below_call HB13.out hb_)
      replace HL_s := hide (HL_s.out.below hb_)
      replace HL_p1 := hide (HL_p1.out.below hb_)
      replace HRow := hide (HRow.out.call hb_)
      clear hb_ HB13
      go_wp2_with fail
      refine (s_same c_p1 c_p2 HL_p1 HL_p2 (hide (decide_eq_true rfl))).mono ?_
      rintro e w15 ⟨rfl, hb_⟩
      have HB15 := hide (below_call HB14.out hb_)
      replace HL_s := hide (HL_s.out.below hb_)
      clear HL_p1
      clear HL_p2
      replace HRow := hide (HRow.out.call hb_)
      clear hb_ HB14
      go_wp2_with fail
      refine (t_remove c_s HL_s HS_s y0 y1 (hide (hT.out.below HB15.out)) HE_Q).mono ?_
      rintro e w16 hP
      obtain ⟨A_q1, c_q1, rfl, HL_q1, HA_q1, hb_⟩ := hP.open HS_Q
      clear hP
      have HB16 := hide (below_call HB15.out hb_)
      replace HL_s := hide (HL_s.out.below hb_)
      replace HRow := hide (HRow.out.call hb_)
      clear hb_ HB15
      go_wp2_with fail
      refine (s_remove c_s HL_s HS_s HE_Q).mono ?_
      rintro e w17 hP
      obtain ⟨A_q2, c_q2, rfl, HL_q2, HA_q2, hb_⟩ := hP.open HS_Q
      clear hP
      have HB17 := hide (below_call HB16.out hb_)
      replace HL_s := hide (HL_s.out.below hb_)
      replace HL_q1 := hide (HL_q1.out.below hb_)
      replace HRow := hide (HRow.out.call hb_)
      clear hb_ HB16
      go_wp2_with fail
      refine (s_same c_q1 c_q2 HL_q1 HL_q2 (hide (decide_eq_true rfl))).mono ?_
      rintro e w18 ⟨rfl, hb_⟩
      have HB18 := hide (below_call HB17.out hb_)
      replace HL_s := hide (HL_s.out.below hb_)
      clear HL_q1
      clear HL_q2
      replace HRow := hide (HRow.out.call hb_)
      clear hb_ HB17
      have R : Hid (EleRel w w18 w4.heap.size A_s s m p (512 - u) (.int .i64 ((j : Int) + 1))) := hide ⟨j + 1, by omega, by go_num, HRow.out, HL_s.out, HB18.out⟩
      clear hd
      go_wp2_with fail
      go_roundw
      case rel => exact R
      case measure => simp [intOf]; omega
    · obtain rfl : j = 3 := by omega
      clear hrow
      go_wp2_with fail
      go_ret
      exact ⟨rfl, HB10.out⟩
end Go.Proofs.YtfpdopfomagngaaDoor
