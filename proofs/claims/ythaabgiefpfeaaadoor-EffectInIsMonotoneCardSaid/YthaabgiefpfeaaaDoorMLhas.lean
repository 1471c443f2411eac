import Derived.Test.YthaabgiefpfeaaaDoorMPmem
import Derived.Test.YthaabgiefpfeaaaDoorMBlists
import Derived.Test.YthaabgiefpfeaaaDoorMLsam
import Derived.Test.YthaabgiefpfeaaaDoorMHilaw
import Derived.Test.YthaabgiefpfeaaaDoorMBlaid
import Derived.Test.YthaabgiefpfeaaaDoorTie
import Derived.Test.YthaabgiefpfeaaaDoorCards
import Derived.Deep.RegionHeld3
import Derived.Deep.DeepCutAuto
import Derived.SevenTiedAt
set_option linter.unusedVariables false
set_option linter.unusedSimpArgs false
section
/-
  The contract of spillframeref04.Has: whether a number is in a list of ints. Conditions: those of the types.
-/
namespace Go.Proofs.YthaabgiefpfeaaaDoor
open Go.RowKit

theorem rhas_any (A : Option Addr) (n c : Nat) (zs : List Int) (x : Int) (w : World) (h : Hid (Lst w A n zs)) :
    Calls Tryd.prog 25 #[.slice A n c, .int .i64 x] w fun e w' => e = .returned (.bool (hasB zs x)) ∧ w = w' := by
  have hl := h.out.le
  have HB := hide (show hasB zs x = decide (x ∈ zs) from rfl)
  go_enter Tryd.func25, Tryd.ntmps25
  go_wp2_with fail
  go_loop [5] (fun i => ∃ k : Nat, k ≤ n ∧ i = .int .i64 k ∧ Hid (x ∉ zs.take k)) (fun i => n - (intOf i).toNat)
  case atStart => exact ⟨0, by omega, rfl, hide (by simp)⟩
  case round =>
    obtain ⟨k, hk, rfl, hT⟩ := hrel
    by_cases hlt : k < n
    · have l1 : k < zs.length := by have := h.out.len; omega
      obtain ⟨b1, o1, rfl, _, hc1⟩ := int_at h.out.see l1
      have N1 := hide (fun heq : zs[k] = x => (show hasB zs x = true by unfold hasB; rw [decide_eq_true_iff, ← heq]; exact List.getElem_mem l1))
      have N2 := hide (fun hne : zs[k] ≠ x => (show x ∉ zs.take (k + 1) by
        rw [take_snoc l1, List.mem_append, List.mem_singleton]
        rintro (h1 | h1)
        · exact hT.out h1
        · exact hne h1.symm))
      generalize zs[k] = y at hc1 N1 N2
      clear l1
      by_cases hxy : y = x
      · subst hxy
        have H1 := hide (N1.out rfl)
        clear N1 N2
        go_wp2_with fail
        go_ret
        exact ⟨by rw [H1.out]; rfl, rfl⟩
      · have hne : (y == x) = false := by rw [beq_eq_false_iff_ne]; exact hxy
        have H2 := hide (N2.out hxy)
        clear N1 N2 hxy
        go_wp2_with fail
        go_round
        case rel => exact ⟨k + 1, by omega, by go_num, H2⟩
        case measure => simp [intOf]; omega
    · obtain rfl : k = n := by omega
      have H1 := hide (show hasB zs x = false by
        have h1 := hT.out
        rw [List.take_of_length_le (by have := h.out.len; omega)] at h1
        exact decide_eq_false h1)
      go_wp2_with fail
      go_ret
      exact ⟨by rw [H1.out]; rfl, rfl⟩

end Go.Proofs.YthaabgiefpfeaaaDoor
end

section
/-
  The contract of the reference's meet on lists of ints. Condition: at most 2^40 ints.
-/
namespace Go.Proofs.YthaabgiefpfeaaaDoor
open Go.RowKit
set_option maxHeartbeats 1000000 in
theorem rmeet_any (A : Option Addr) (n c : Nat) (zs : List Int) (A' : Option Addr) (n' c' : Nat) (ys : List Int) (w : World) (h : Hid (Lst w A n zs)) (h' : Hid (Lst w A' n' ys)) (hm : n ≤ 1099511627776) :
    Calls Tryd.prog 14 #[.slice A n c, .slice A' n' c'] w (OutPost (meetL zs ys) w) := by
  obtain ⟨i0, hi, hz0, hz1, hz2⟩ := info_parts infoI
  have HR := hide (show meetL zs ys = zs.filter (fun z => decide (z ∈ ys)) from rfl)
  rw [HR.out]
  obtain ⟨p, ep⟩ : ∃ p : Int → Bool, p = fun z => decide (z ∈ ys) := ⟨_, rfl⟩
  rw [← ep]
  have HP := hide (fun z => congrFun ep z)
  clear ep HR
  go_enter Tryd.func14, Tryd.ntmps14
  go_wp2_with fail
  go_loopw [5, 6] (fun v i wr => Hid (FilRel w p zs n v i wr)) (fun _ i _ => n - (intOf i).toNat)
  case atStart => exact hide ⟨0, [], by omega, rfl, by simp, IntRel.start w w (Below.refl _ _)⟩
  case round =>
    obtain ⟨k, l, hk, rfl, hlf, hL⟩ := hrel.out
    have HL := hide hL
    have hll : l.length ≤ k := FilRel.len hlf
    have HF := hide hlf
    have hs : wr.heap.size ≥ w.heap.size := hL.2.size
    clear hrel hL hlf
    by_cases hlt : k < n
    · have l1 : k < zs.length := by have := h.out.len; omega
      obtain ⟨b1, o1, rfl, _, hc0⟩ := int_at h.out.see l1
      have hc1 := keep_cellB HL.out.2 hc0
      have HK := hide (take_snoc l1)
      generalize zs[k] = y at hc0 hc1 HK
      have ho := HL.out.1
      have HPy := hide (HP.out y)
      have N1 := hide (fun hy : p y = true => (show l ++ [y] = (zs.take (k + 1)).filter p by rw [HK.out, filter_snoc, if_pos hy, HF.out]))
      have N2 := hide (fun hy : p y = false => (show l = (zs.take (k + 1)).filter p by rw [HK.out, filter_snoc, if_neg (by rw [hy]; simp), HF.out]))
      clear l1 hc0
      have ch := rhas_any A' n' c' ys y wr (hide (h'.out.below HL.out.2))
      cases hv : hasB ys y with
      | true =>
        have HV := hide hv
        clear hv
        have HY := hide (N1.out (by rw [HPy.out, show decide (y ∈ ys) = hasB ys y from rfl, HV.out]; try rfl))
        rw [HV.out] at ch
        clear N1 N2
        go_wp2_with fail
        refine ch.mono ?_
        rintro e w' ⟨rfl, rfl⟩
        clear ch
        go_wp2_with (at_builtin; refine wpList_append_own _ rfl (.tmp 19) (.tmp 24) 30 rfl w.heap.size 3 i0 (.int .i64 0) 1 8 Tryd.underlying30 hi hz0 hz1 hz2 rfl (by decide) _ l.length (cellsI l) rfl (ho.alloc _) ⟨wr.heap.size, 0, none⟩ 1 1 [.int .i64 y] rfl rfl (one_new _ _ _) (one_cell _) (by unfold maxLen; omega) (by omega) (by simp; omega) ?_)
        intro v' w4 ho4 hg4 _
        have R : Hid (FilRel w p zs n v' (.int .i64 ((k : Int) + 1)) w4) := hide ⟨k + 1, l ++ [y], by omega, by go_num, HY.out, IntRel.step HL ho4 hg4⟩
        clear ho4 hg4 ho hc1
        go_wp2_with fail
        go_roundw
        case rel => exact R
        case measure => simp [intOf]; omega
      | false =>
        have HV := hide hv
        clear hv
        have HY := hide (N2.out (by rw [HPy.out, show decide (y ∈ ys) = hasB ys y from rfl, HV.out]; try rfl))
        rw [HV.out] at ch
        clear N1 N2 ho
        go_wp2_with fail
        refine ch.mono ?_
        rintro e w' ⟨rfl, rfl⟩
        clear ch
        go_wp2_with fail
        go_roundw
        case rel => exact hide ⟨k + 1, l, by omega, by go_num, HY.out, HL.out⟩
        case measure => simp [intOf]; omega
    · obtain rfl : k = n := by omega
      have HK := hide (show l = zs.filter p by rw [HF.out, List.take_of_length_le (by have := h.out.len; omega)])
      obtain ⟨A2, c2, rfl, hA, hP⟩ := HL.out.out
      have HP2 := hide hP
      clear hA hP
      go_wp2_with fail
      go_ret
      rw [← HK.out]
      exact HP2.out
section
variable {A A' : Option Addr} {n n' : Nat} {a b r : List Int} {w : World}
theorem s_meet (c c' : Nat) (h : Hid (Lst w A n a)) (h' : Hid (Lst w A' n' b)) (ha : Hid (Asc a)) (hr : Hid (meetL a b = r)) : Calls Tryd.prog 14 #[.slice A n c, .slice A' n' c'] w (OutPost r w) := by
  have := rmeet_any A n c a A' n' c' b w h h' (by have := few h ha; omega)
  rwa [hr.out] at this
end
end Go.Proofs.YthaabgiefpfeaaaDoor
end

section
/-
  The contract of the reference's minus on lists of ints. Condition: at most 2^40 ints.
-/
namespace Go.Proofs.YthaabgiefpfeaaaDoor
open Go.RowKit
set_option maxHeartbeats 1000000 in
theorem rminus_any (A : Option Addr) (n c : Nat) (zs : List Int) (A' : Option Addr) (n' c' : Nat) (ys : List Int) (w : World) (h : Hid (Lst w A n zs)) (h' : Hid (Lst w A' n' ys)) (hm : n ≤ 1099511627776) :
    Calls Tryd.prog 24 #[.slice A n c, .slice A' n' c'] w (OutPost (minusL zs ys) w) := by
  obtain ⟨i0, hi, hz0, hz1, hz2⟩ := info_parts infoI
  have HR := hide (show minusL zs ys = zs.filter (fun z => !decide (z ∈ ys)) from rfl)
  rw [HR.out]
  obtain ⟨p, ep⟩ : ∃ p : Int → Bool, p = fun z => !decide (z ∈ ys) := ⟨_, rfl⟩
  rw [← ep]
  have HP := hide (fun z => congrFun ep z)
  clear ep HR
  go_enter Tryd.func24, Tryd.ntmps24
  go_wp2_with fail
  go_loopw [5, 6] (fun v i wr => Hid (FilRel w p zs n v i wr)) (fun _ i _ => n - (intOf i).toNat)
  case atStart => exact hide ⟨0, [], by omega, rfl, by simp, IntRel.start w w (Below.refl _ _)⟩
  case round =>
    obtain ⟨k, l, hk, rfl, hlf, hL⟩ := hrel.out
    have HL := hide hL
    have hll : l.length ≤ k := FilRel.len hlf
    have HF := hide hlf
    have hs : wr.heap.size ≥ w.heap.size := hL.2.size
    clear hrel hL hlf
    by_cases hlt : k < n
    · have l1 : k < zs.length := by have := h.out.len; omega
      obtain ⟨b1, o1, rfl, _, hc0⟩ := int_at h.out.see l1
      have hc1 := keep_cellB HL.out.2 hc0
      have HK := hide (take_snoc l1)
      generalize zs[k] = y at hc0 hc1 HK
      have ho := HL.out.1
      have HPy := hide (HP.out y)
      have N1 := hide (fun hy : p y = true => (show l ++ [y] = (zs.take (k + 1)).filter p by rw [HK.out, filter_snoc, if_pos hy, HF.out]))
      have N2 := hide (fun hy : p y = false => (show l = (zs.take (k + 1)).filter p by rw [HK.out, filter_snoc, if_neg (by rw [hy]; simp), HF.out]))
      clear l1 hc0
      have ch := rhas_any A' n' c' ys y wr (hide (h'.out.below HL.out.2))
      cases hv : hasB ys y with
      | true =>
        have HV := hide hv
        clear hv
        have HY := hide (N2.out (by rw [HPy.out, show decide (y ∈ ys) = hasB ys y from rfl, HV.out]; try rfl))
        rw [HV.out] at ch
        clear N1 N2 ho
        go_wp2_with fail
        refine ch.mono ?_
        rintro e w' ⟨rfl, rfl⟩
        clear ch
        go_wp2_with fail
        go_roundw
        case rel => exact hide ⟨k + 1, l, by omega, by go_num, HY.out, HL.out⟩
        case measure => simp [intOf]; omega
      | false =>
        have HV := hide hv
        clear hv
        have HY := hide (N1.out (by rw [HPy.out, show decide (y ∈ ys) = hasB ys y from rfl, HV.out]; try rfl))
        rw [HV.out] at ch
        clear N1 N2
        go_wp2_with fail
        refine ch.mono ?_
        rintro e w' ⟨rfl, rfl⟩
        clear ch
        go_wp2_with (at_builtin; refine wpList_append_own _ rfl (.tmp 20) (.tmp 25) 30 rfl w.heap.size 3 i0 (.int .i64 0) 1 8 Tryd.underlying30 hi hz0 hz1 hz2 rfl (by decide) _ l.length (cellsI l) rfl (ho.alloc _) ⟨wr.heap.size, 0, none⟩ 1 1 [.int .i64 y] rfl rfl (one_new _ _ _) (one_cell _) (by unfold maxLen; omega) (by omega) (by simp; omega) ?_)
        intro v' w4 ho4 hg4 _
        have R : Hid (FilRel w p zs n v' (.int .i64 ((k : Int) + 1)) w4) := hide ⟨k + 1, l ++ [y], by omega, by go_num, HY.out, IntRel.step HL ho4 hg4⟩
        clear ho4 hg4 ho hc1
        go_wp2_with fail
        go_roundw
        case rel => exact R
        case measure => simp [intOf]; omega
    · obtain rfl : k = n := by omega
      have HK := hide (show l = zs.filter p by rw [HF.out, List.take_of_length_le (by have := h.out.len; omega)])
      obtain ⟨A2, c2, rfl, hA, hP⟩ := HL.out.out
      have HP2 := hide hP
      clear hA hP
      go_wp2_with fail
      go_ret
      rw [← HK.out]
      exact HP2.out
section
variable {A A' : Option Addr} {n n' : Nat} {a b r : List Int} {w : World}
theorem s_minus (c c' : Nat) (h : Hid (Lst w A n a)) (h' : Hid (Lst w A' n' b)) (ha : Hid (Asc a)) (hr : Hid (minusL a b = r)) : Calls Tryd.prog 24 #[.slice A n c, .slice A' n' c'] w (OutPost r w) := by
  have := rminus_any A n c a A' n' c' b w h h' (by have := few h ha; omega)
  rwa [hr.out] at this
end
end Go.Proofs.YthaabgiefpfeaaaDoor
end

section
/-
  The contract of the reference's within on lists of ints. Condition: at most 2^40 ints.
-/
namespace Go.Proofs.YthaabgiefpfeaaaDoor
open Go.RowKit
theorem rwithin_any (A : Option Addr) (n c : Nat) (zs : List Int) (A' : Option Addr) (n' c' : Nat) (ys : List Int) (w : World) (h : Hid (Lst w A n zs)) (h' : Hid (Lst w A' n' ys)) (hm : n ≤ 1099511627776) :
    Calls Tryd.prog 13 #[.slice A n c, .slice A' n' c'] w fun e w' => e = .returned (.bool (decide (minusL zs ys = []))) ∧ Below w.heap.size w w' := by
  obtain ⟨l, el⟩ : ∃ l, minusL zs ys = l := ⟨_, rfl⟩
  have cm := rminus_any A n c zs A' n' c' ys w h h' hm
  rw [el] at cm ⊢
  clear el
  generalize hb : decide (l = []) = b
  have hB : ((l.length : Int) == 0) = b := by
    rw [← hb, Bool.eq_iff_iff, decide_eq_true_iff, beq_iff_eq, ← List.length_eq_zero_iff]
    omega
  clear hb
  go_enter Tryd.func13, Tryd.ntmps13
  go_wp2_with fail
  refine cm.mono ?_
  rintro e w' ⟨A2, c2, rfl, -, hb2⟩
  have HB2 := hide hb2
  clear hb2 cm
  generalize l.length = m at hB
  go_wp2_with fail
  go_ret
  exact ⟨rfl, HB2.out⟩
section
variable {A A' : Option Addr} {n n' : Nat} {a b r : List Int} {w : World}
theorem s_within (c c' : Nat) {v : Bool} (h : Hid (Lst w A n a)) (h' : Hid (Lst w A' n' b)) (ha : Hid (Asc a)) (hr : Hid (decide (minusL a b = []) = v)) : Calls Tryd.prog 13 #[.slice A n c, .slice A' n' c'] w fun e w' => e = .returned (.bool v) ∧ Below w.heap.size w w' := by
  have := rwithin_any A n c a A' n' c' b w h h' (by have := few h ha; omega)
  rwa [hr.out] at this
end
end Go.Proofs.YthaabgiefpfeaaaDoor
end

section
/-
  The walk of the law EffectInIsMonotone: for all codes it returns true, and what was in memory before the call is as it was. Conditions: those of the types; the table of TrailingZeros64 lies as its initialiser lays it.
-/
namespace Go.Proofs.YthaabgiefpfeaaaDoor
open Go.RowKit

set_option maxRecDepth 100000 in
set_option maxHeartbeats 4000000 in
theorem emolaw_walk (A : Option Addr) (n c : Nat) (zs : List Int) (w : World) (hA : Hid (A = none → c = 0)) (hn : Hid (zs.length = n)) (hnc : n ≤ c) (hm : n ≤ 9223372036854775807) (hs : Hid (Sees w w.heap.size A (cellsU8 zs))) (hz : Hid (∀ z ∈ zs, 0 ≤ z ∧ z ≤ 255)) (hT : Hid (Tab w)) :
    Calls Tryd.prog 4 #[.slice A n c] w fun e w' => e = .returned (.bool true) ∧ Below w.heap.size w w' := by
  go_enter Tryd.func4, Tryd.ntmps4
  go_wp2_with fail
  refine (awake15_any w).mono ?_
  rintro e w1 ⟨rfl, hb1⟩
  have HB1 := hide hb1
  clear hb1
  go_wp2_with fail
  refine (new_any A n c zs 80 w1 hA hn hnc hm (by omega) (hide ((hs.out.below HB1.out).more HB1.out.size)) hz).mono ?_
  rintro e w2 ⟨rfl, hC2, hb2⟩
  have HC2 := hide hC2
  have hg2 : w1.heap.size < w2.heap.size := hC2.lt
  have HB2 := hide (below_call HB1.out hb2)
  clear hC2 hb2
  go_wp2_with fail
  refine (instr15_any w1.heap.size w2 HC2).mono ?_
  rintro e w3 ⟨o, a, b, rfl, ho, ha, hb, hC3, hG3⟩
  have HC3 := hide hC3
  have hg3 : w1.heap.size < w3.heap.size := hC3.lt
  have HB3 := hide (below_grown HB2.out hG3 HB1.out.size HB2.out.size)
  have ha0 : -9223372036854775808 ≤ a := by omega
  have ha1 : a ≤ 9223372036854775807 := by omega
  have hb0 : 0 ≤ b := by omega
  have hb5 : b < 512 := by omega
  clear hC3 hG3 HB2
  go_wp2_with fail
  refine (set15_any w1.heap.size w3 HC3).mono ?_
  rintro e w4 ⟨A_s, c_s, s, rfl, hA_, ho_, ha_, hC_, hG_⟩
  have HA_s := hide hA_
  have HO_s := hide ho_
  have HS_s := hide ha_
  have HC4 := hide hC_
  have hg4 : w1.heap.size < w4.heap.size := hC_.lt
  have HB4 := hide (below_grown HB3.out hG_ HB1.out.size HB3.out.size)
  clear hA_ ho_ ha_ hC_ hG_ HB3
  go_wp2_with fail
  refine (set15_any w1.heap.size w4 HC4).mono ?_
  rintro e w5 ⟨A_t, c_t, t, rfl, hA_, ho_, ha_, hC_, hG_⟩
  have HA_t := hide hA_
  have HO_t := hide ho_
  have HS_t := hide ha_
  have HC5 := hide hC_
  have hg5 : w1.heap.size < w5.heap.size := hC_.lt
  have HB5 := hide (below_grown HB4.out hG_ HB1.out.size HB4.out.size)
  replace HO_s := hide (own_over HO_s.out hg3 hG_)
  clear hA_ ho_ ha_ hC_ hG_ HB4
  go_upto_region 5 with (fail)
  obtain ⟨W, hW⟩ : ∃ V, w5.alloc (.cells #[.int .i64 o, .int .i64 a, .int .i64 b, .int .i64 0, .int .u64 0] 28) = V := ⟨_, rfl⟩
  have R0 := hide (show Row W w5.heap.size 28 [.int .i64 o, .int .i64 a, .int .i64 b, .int .i64 0, .int .u64 0] by rw [← hW]; exact Row.new w5 _ _)
  have hbw : Below w5.heap.size w5 W := by rw [← hW]; exact below1 _ _
  have HB := hide (below_call HB5.out hbw)
  have HL_s : Hid (Lst W A_s s.length s) := hide (Lst.below ⟨rfl, by have := HS_s.out.length; omega, Sees.own HO_s.out, asc_rng HS_s.out⟩ hbw)
  have HL_t : Hid (Lst W A_t t.length t) := hide (Lst.below ⟨rfl, by have := HS_t.out.length; omega, Sees.own HO_t.out, asc_rng HS_t.out⟩ hbw)
  rw [hW]
  obtain ⟨gx, hgx⟩ : ∃ q, w5.heap.size = q := ⟨_, rfl⟩
  rw [hgx] at R0 ⊢
  have HT := hide (hT.out.below HB.out)
  clear hW hbw hgx HO_s HO_t HB5
  obtain ⟨x0, x1, x2, x3, x4⟩ := cells5 R0.out (Below.refl _ W)
  obtain ⟨U, hU⟩ : ∃ l, unionL s t = l := ⟨_, rfl⟩
  have HE_U := hide hU
  have HS_U : Hid (Asc U) := hide (hU ▸ unionL_asc HS_s.out)
  clear hU
  obtain ⟨M, hM⟩ : ∃ l, meetL s t = l := ⟨_, rfl⟩
  have HE_M := hide hM
  have HS_M : Hid (Asc M) := hide (hM ▸ meet_asc HS_s.out)
  clear hM
  obtain ⟨IU, hIU⟩ : ∃ l, inL o a b U = l := ⟨_, rfl⟩
  have HE_IU := hide hIU
  have HS_IU : Hid (Asc IU) := hide (hIU ▸ inL_asc o a b HS_U.out)
  clear hIU
  have CIU := hide (fun W' (hb : Below W.heap.size W W') (A' : Option Addr) (n' c' : Nat) (hL : Lst W' A' n' U) => (show Calls Tryd.prog 10 #[iv o a b 0 0, .slice A' n' c'] W' (OutPost IU W') from by rw [← HE_IU.out]; exact ein_any o a b 0 0 A' n' c' U W' ha0 ha1 hb0 hb5 (hide hL) HS_U (hide (HT.out.below hb))))
  obtain ⟨IM, hIM⟩ : ∃ l, inL o a b M = l := ⟨_, rfl⟩
  have HE_IM := hide hIM
  have HS_IM : Hid (Asc IM) := hide (hIM ▸ inL_asc o a b HS_M.out)
  clear hIM
  have CIM := hide (fun W' (hb : Below W.heap.size W W') (A' : Option Addr) (n' c' : Nat) (hL : Lst W' A' n' M) => (show Calls Tryd.prog 10 #[iv o a b 0 0, .slice A' n' c'] W' (OutPost IM W') from by rw [← HE_IM.out]; exact ein_any o a b 0 0 A' n' c' M W' ha0 ha1 hb0 hb5 (hide hL) HS_M (hide (HT.out.below hb))))
  obtain ⟨IS, hIS⟩ : ∃ l, inL o a b s = l := ⟨_, rfl⟩
  have HE_IS := hide hIS
  have HS_IS : Hid (Asc IS) := hide (hIS ▸ inL_asc o a b HS_s.out)
  clear hIS
  have CIS := hide (fun W' (hb : Below W.heap.size W W') (A' : Option Addr) (n' c' : Nat) (hL : Lst W' A' n' s) => (show Calls Tryd.prog 10 #[iv o a b 0 0, .slice A' n' c'] W' (OutPost IS W') from by rw [← HE_IS.out]; exact ein_any o a b 0 0 A' n' c' s W' ha0 ha1 hb0 hb5 (hide hL) HS_s (hide (HT.out.below hb))))
  obtain ⟨IT, hIT⟩ : ∃ l, inL o a b t = l := ⟨_, rfl⟩
  have HE_IT := hide hIT
  have HS_IT : Hid (Asc IT) := hide (hIT ▸ inL_asc o a b HS_t.out)
  clear hIT
  have CIT := hide (fun W' (hb : Below W.heap.size W W') (A' : Option Addr) (n' c' : Nat) (hL : Lst W' A' n' t) => (show Calls Tryd.prog 10 #[iv o a b 0 0, .slice A' n' c'] W' (OutPost IT W') from by rw [← HE_IT.out]; exact ein_any o a b 0 0 A' n' c' t W' ha0 ha1 hb0 hb5 (hide hL) HS_t (hide (HT.out.below hb))))
  have HUU : Hid (unionL IS IT = IU) := hide (by rw [← HE_IS.out, ← HE_IT.out, ← HE_IU.out, ← HE_U.out]; exact (inL_union hb0 hb5 HS_s.out HS_t.out).symm)
  have HWI : Hid (decide (minusL IM IS = []) = true) := hide (by rw [← HE_IM.out, ← HE_IS.out, ← HE_M.out]; exact decide_eq_true (inL_meet hb0 hb5))
  go_region_held3 (fun w' => w'.cell? ⟨gx, 0, none⟩ = some (.int .i64 o) ∧ w'.cell? ⟨gx, 1, none⟩ = some (.int .i64 a) ∧ w'.cell? ⟨gx, 2, none⟩ = some (.int .i64 b) ∧ w'.cell? ⟨gx, 3, none⟩ = some (.int .i64 0) ∧ w'.cell? ⟨gx, 4, none⟩ = some (.int .u64 0))
    (first | go_keep | exact m7 | exact m6)
    (first
      | (go_at_call 10; refine (CIU.out _ h6.out A6 U.length c6 HL6.out).mono ?_; rintro e w7 hP7; obtain ⟨A7, c7, rfl, HL7, HA7, hb7⟩ := hP7.open HS_IU; clear hP7; have h7 := hide (below_call h6.out hb7); have m7 := cells5 R0.out h7.out)
      | (go_at_call 12; refine (s_union c_s c_t (hide (HL_s.out.below (Below.refl _ _).drew)) (hide (HL_t.out.below (Below.refl _ _).drew)) HA_s HS_s HS_t HE_U).mono ?_; rintro e w6 hP6; obtain ⟨A6, c6, rfl, HL6, HA6, hb6⟩ := hP6.open HS_U; clear hP6; have h6 := hide (below_call (Below.refl _ W).drew hb6); have m6 := cells5 R0.out h6.out))
  have L7s := hide (HL_s.out.below h7.out)
  have L7t := hide (HL_t.out.below h7.out)
  obtain ⟨x0, x1, x2, x3, x4⟩ := m7
  clear h6 m6 HL6 HA6 hb6 hb7
  go_wp2_with fail
  go_region_held3 (fun w' => w'.cell? ⟨gx, 0, none⟩ = some (.int .i64 o) ∧ w'.cell? ⟨gx, 1, none⟩ = some (.int .i64 a) ∧ w'.cell? ⟨gx, 2, none⟩ = some (.int .i64 b) ∧ w'.cell? ⟨gx, 3, none⟩ = some (.int .i64 0) ∧ w'.cell? ⟨gx, 4, none⟩ = some (.int .u64 0))
    (first | go_keep | exact m15 | exact m14 | exact m13 | exact m12 | exact m11 | exact m10 | exact m9 | exact m8)
    (first
      | (go_at_call 13; refine (s_within c13 c14 L14m HL14 HS_IM HWI).mono ?_; rintro e w15 ⟨rfl, hb15⟩; have h15 := hide (below_call h14.out hb15); have m15 := cells5 R0.out h15.out)
      | (go_at_call 10; refine (CIS.out _ h13.out A_s s.length c_s (HL_s.out.below h13.out)).mono ?_; rintro e w14 hP14; obtain ⟨A14, c14, rfl, HL14, HA14, hb14⟩ := hP14.open HS_IS; clear hP14; have h14 := hide (below_call h13.out hb14); have L14m := hide (HL13.out.below hb14); have m14 := cells5 R0.out h14.out)
      | (go_at_call 10; refine (CIM.out _ h12.out A12 M.length c12 HL12.out).mono ?_; rintro e w13 hP13; obtain ⟨A13, c13, rfl, HL13, HA13, hb13⟩ := hP13.open HS_IM; clear hP13; have h13 := hide (below_call h12.out hb13); have m13 := cells5 R0.out h13.out)
      | (go_at_call 14; refine (s_meet c_s c_t (hide (HL_s.out.below h11.out)) (hide (HL_t.out.below h11.out)) HS_s HE_M).mono ?_; rintro e w12 hP12; obtain ⟨A12, c12, rfl, HL12, HA12, hb12⟩ := hP12.open HS_M; clear hP12; have h12 := hide (below_call h11.out hb12); have m12 := cells5 R0.out h12.out)
      | (go_at_call 9; refine (s_same c7 c10 L10u HL10 (hide (decide_eq_true rfl))).mono ?_; rintro e w11 ⟨rfl, hb11⟩; have h11 := hide (below_call h10.out hb11); have m11 := cells5 R0.out h11.out)
      | (go_at_call 12; refine (s_union c8 c9 L9i HL9 HA8 HS_IS HS_IT HUU).mono ?_; rintro e w10 hP10; obtain ⟨A10, c10, rfl, HL10, HA10, hb10⟩ := hP10.open HS_IU; clear hP10; have h10 := hide (below_call h9.out hb10); have L10u := hide (L9u.out.below hb10); have m10 := cells5 R0.out h10.out)
      | (go_at_call 10; refine (CIT.out _ h8.out A_t t.length c_t L8t.out).mono ?_; rintro e w9 hP9; obtain ⟨A9, c9, rfl, HL9, HA9, hb9⟩ := hP9.open HS_IT; clear hP9; have h9 := hide (below_call h8.out hb9); have L9i := hide (HL8.out.below hb9); have L9u := hide (L8u.out.below hb9); have m9 := cells5 R0.out h9.out)
      | (go_at_call 10; refine (CIS.out _ (below_call h7.out (Below.refl _ _).drew) A_s s.length c_s (L7s.out.below (Below.refl _ _).drew)).mono ?_; rintro e w8 hP8; obtain ⟨A8, c8, rfl, HL8, HA8, hb8⟩ := hP8.open HS_IS; clear hP8; have h8 := hide (below_call (below_call h7.out (Below.refl _ _).drew) hb8); have L8t := hide ((L7t.out.below (Below.refl _ _).drew).below hb8); have L8u := hide ((HL7.out.below (Below.refl _ _).drew).below hb8); have m8 := cells5 R0.out h8.out))
  go_wp2_with fail
  go_ret
  exact ⟨rfl, HB.out.trans (h15.out.mono HB.out.size)⟩
end Go.Proofs.YthaabgiefpfeaaaDoor
end

section
/-
  EffectInIsMonotone: for every input the law returns true, and each argument reads behind the call as it did before, where the listed table lies as its initialiser lays it; the card ties that table to the program's text. No other condition: every input that the row speaks of.
-/
namespace Go.Proofs.YthaabgiefpfeaaaDoor
open Go.ChangeShapes Go.WideShapes Go.ChangeAt Go.RowKit

namespace rowEffectInIsMonotone
set_option maxRecDepth 100000 in
theorem contract (H : Type) (enc : TypeId × Value → H) (W : World) (base : Nat) (args : Array Value) (ds gs : List (DataW H)) (before : List MemPlace)
    (hval : ∀ (j : Nat) t v, Tryd.f4.params[j]? = some t → args[j]? = some v → Value.okWide Tryd.prog W .any base t v)
    (hW : DataW.Whole enc Tryd.prog Tryd.f4.params.toList Rows.effectInIsMonotoneSpec.vars false W args.toList ds gs before) (hL : laidMetH Tryd.prog laidOne W) :
    Calls Tryd.prog 4 args W fun e W' => ∃ v, e = .returned v ∧ Rows.effectInIsMonotoneSpec.post enc Tryd.prog Tryd.f4 false true false false W args v W' := by
  have hW' := hW
  obtain ⟨p, q, hA, hV, rfl, hfz, hnd⟩ := hW
  have hA : DataW.TrodAll enc Tryd.prog W 0 (fun _ => true) true Tryd.f4.params.toList args.toList ds p := hA
  rw [Tryd.params4] at hA hval
  obtain ⟨v0, vs0, d0, ds0, p0, q0, hargs, rfl, rfl, h0, r0⟩ := trodAll_cons hA
  obtain ⟨rfl, rfl, rfl⟩ := trodAll_nil r0
  obtain rfl : args = #[v0] := by cases args; simp_all
  obtain ⟨A0, n0, c0, zs0, rfl, hA0, hn0, hm0, hs0, hz0, hc0⟩ := open_u8s Tryd.underlying22 Tryd.underlying5 cells_u8 (hval 0 22 v0 rfl rfl) h0
  refine (emolaw_walk A0 n0 c0 zs0 W (hide hA0) (hide hn0) hc0 hm0 (hide hs0) (hide hz0) (hide (tab_of_laid hL))).mono fun e W' ⟨he, hB⟩ => ⟨_, he, ?_⟩
  exact law_post laid_out (by decide +kernel) rfl rfl Tryd.underlying4 rfl hW' hB

set_option maxRecDepth 100000 in
theorem lifted (os : Os) (started : os.Started) (H : Type) (enc : TypeId × Value → H) :
    ReturnsInHanded {} Tryd.checked os 4 .any (fun w args => (Rows.effectInIsMonotoneSpec.pre enc Tryd.prog Tryd.f4 [] false w args ∧ laidMetH Tryd.prog laidOne w) ∧ sizedMet enc Tryd.prog Tryd.f4 (OpenSpec.ofChange Rows.effectInIsMonotoneSpec) false w args)
      (Rows.effectInIsMonotoneSpec.post enc Tryd.prog Tryd.f4 false true false false) := by
  refine returnsInHanded_of_change_and (C := Tryd.checked) (X := fun w _ => laidMetH Tryd.prog laidOne w) (fun _ _ _ hh h => h.of_heap hh) own_knob started (by kernel_rfl) Tryd.func4
    (ChangeSpec.witness_shaped (enc := enc) (C := Tryd.checked) (os := os) (X := fun w _ => laidMetH Tryd.prog laidOne w) false (World.doorLaid Tryd.prog 400 os) #[.slice none 0 0] 8 rfl (World.shaped_of_RefB (by kernel_rfl) (by kernel_rfl)) (by kernel_rfl) (by kernel_rfl) (by kernel_rfl) (door_met os _)) ?_
  intro W base args ds gs before hval hW _ _ hL _
  exact contract H enc W base args ds gs before hval hW hL

theorem row : Rows.EffectInIsMonotoneSaid :=
  OpenClaim.holds_of_wide 4 Tryd.f4 rfl rfl rfl rfl rfl rfl rfl ⟨rfl, rfl, rfl, rfl, rfl⟩ rfl rfl rfl rfl rfl (by kernel_rfl) Tryd.func4 (by kernel_rfl)
    (of_decide_eq_true (by kernel_rfl)) (by unfold Func.isWrapper; first | (rw [if_pos (by decide +kernel)]; kernel_rfl) | (rw [if_neg (by decide +kernel)]; exact ⟨rfl, rfl⟩))
    (fun os started H enc _ => lifted os started H enc)

theorem proved : Rows.EffectInIsMonotoneCardSaid :=
  Claim7.holds_tied_plain_at .later [] [.data] true (true, "1d488dfbffd6e0f5c2ae7bc91e99571dd6e8fba78fb2764111af78d327ffc9f9") false
    row (fun _ h => by cases h) (by kernel_rfl) (fun _ h => by cases h) effectInIsMonotone_row_tie rfl ⟨rfl, rfl⟩ (by kernel_rfl) rfl
    (fun f fn hf hfn => by
      obtain rfl : f = 4 := Option.some.inj ((show Tryd.prog.funcNamed "spillframe/spillframelaw15.EffectInIsMonotone" = some 4 by kernel_rfl).symm.trans hf) |>.symm
      obtain rfl : fn = Tryd.f4 := (Option.some.inj (Tryd.func4.symm.trans hfn)).symm
      exact ⟨by kernel_rfl, fun j t ht => by
        rw [Tryd.params4] at ht
        have hm : t ∈ [22] := by simpa using Array.mem_of_getElem? ht
        have hall : ([22].all fun u => !Tryd.prog.wantsStandIn u) = true := by kernel_rfl
        exact (show Tryd.prog.wantsStandIn t = false by simpa using List.all_eq_true.1 hall t hm)⟩)
    (by kernel_rfl)
end rowEffectInIsMonotone
end Go.Proofs.YthaabgiefpfeaaaDoor
end
