/-
  The walk of the law ExtentSlots: for all s and codes it returns true, and what was in memory before the call is as it was. Conditions: those of the types.
-/
import Derived.Test.YtmfklggjcggoeaaEslots
import Derived.Test.YtmfklggjcggoeaaDslots
import Derived.Test.YtmfklggjcggoeaaEuplaw
namespace Go.Proofs.Ytmfklggjcggoeaa
open Go.RowKit

theorem three_val (x y z : Value) (k : Nat) (hk : k < 3) : ∃ v : Value, ([x, y, z] : List Value)[k]? = some v ∧ (v = x ∨ v = y ∨ v = z) := by
  rcases (show k = 0 ∨ k = 1 ∨ k = 2 by omega) with rfl | rfl | rfl
  · exact ⟨x, rfl, .inl rfl⟩
  · exact ⟨y, rfl, .inr (.inl rfl)⟩
  · exact ⟨z, rfl, .inr (.inr rfl)⟩
theorem slotsE_right {l : List (Int × Int)} (h : l.length ≤ 10) (hl : ∀ u ∈ l, slotB u.1 u.2 = true) : slotsE l = 0 := by
  rw [slotsE_few (by omega), any_miss fun j hj => by rw [hl _ (List.getElem_mem hj)]; rfl]; rfl

set_option maxRecDepth 100000 in
set_option maxHeartbeats 4000000 in
theorem slotlaw_few (A : Option Addr) (n c : Nat) (l : List (Int × Int)) (A' : Option Addr) (n' c' : Nat) (zs : List Int) (w : World) (hn : Hid (l.length = n)) (hA : Hid (A = none → c = 0)) (hnc : n ≤ c) (hs : Hid (Sees w w.heap.size A (pcells l))) (hf : n ≤ 600)
    (hA' : Hid (A' = none → c' = 0)) (hn' : Hid (zs.length = n')) (hnc' : n' ≤ c') (hm' : n' ≤ 9223372036854775807) (hs' : Hid (Sees w w.heap.size A' (cellsU8 zs))) (hz' : Hid (∀ z ∈ zs, 0 ≤ z ∧ z ≤ 255)) :
    Calls Try.prog 6 #[.slice A n c, .slice A' n' c'] w fun e w' => e = .returned (.bool true) ∧ Below w.heap.size w w' := by
  obtain ⟨i0, hi, hz0, hz1, hz2⟩ := info_parts Try.info43
  go_enter Try.func6, Try.ntmps6
  go_wp2_with fail
  refine (awake_any _).mono ?_
  rintro e w' ⟨rfl, rfl⟩
  go_wp2_with fail
  refine (new_any A' n' c' zs 60 w hA' hn' hnc' hm' (by omega) hs' hz').mono ?_
  rintro e w1 ⟨rfl, hC1, hb1⟩
  have hg1 := hC1.lt
  have HC1 := hide hC1
  have HB1 := hide hb1
  clear hC1 hb1
  go_wp2_with fail
  refine (slots_any w.heap.size 10 w1 HC1 (by omega)).mono ?_
  rintro e w2 ⟨A1, c1, l1, rfl, hA1, ho1, hl1, hr1, hC2, hG2⟩
  have HO1 := hide ho1
  have HL1 := hide hr1
  have HA1 := hide hA1
  have HC2 := hide hC2
  have HG2 := hide hG2
  clear ho1 hr1 hC2 hG2 hA1
  go_wp2_with fail
  refine (next_any w.heap.size 2 w2 HC2 (by omega) (by omega)).mono ?_
  rintro e w3 ⟨v, rfl, v0, v1, hC3, hG3, hz⟩
  clear hz
  obtain ⟨k, rfl⟩ := Int.eq_ofNat_of_zero_le v0
  have HO1' := hide (own_drawn HO1.out hg1 hG3)
  have HG3 := hide (HG2.out.trans hG3)
  have hg3 : w.heap.size < w3.heap.size := hC3.lt
  have HB3 := hide (below_grown HB1.out HG3.out (Nat.le_refl _) HB1.out.size)
  have HR := hide (ListRel.start (ok := slotB) (t := 43) (m := 513) (k := 512 + k) (by omega) hC3 (World.grownBy.refl w3 (some w.heap.size)))
  clear hC3 hG3 v0 HO1 HG2
  go_wp2_with fail
  go_loopw [8, 7] (fun nv lv wr => Hid (ListRel slotB w3 w.heap.size 43 513 nv lv wr)) (fun nv _ _ => (intOf nv).toNat)
  case atStart => first | exact HR | (have e : ((512 + k : Nat) : Int) = 512 + (k : Int) := by omega
                                      rw [e] at HR; exact HR)
  case round =>
    obtain ⟨k, lm, hk, rfl, ho, hok, hC, hG⟩ := hrel.out
    have Hok := hide hok
    have HC := hide hC
    have HG := hide hG
    clear HR hrel hok hC hG
    by_cases hlt : 0 < k
    · have hlt' : (0 : Int) < (k : Int) := by omega
      obtain ⟨j, rfl⟩ : ∃ j, k = j + 1 := ⟨k - 1, by omega⟩
      have hbs : w3.heap.size ≤ wr.heap.size := HG.out.size
      go_wp2_with (at_builtin; refine wpList_append_own _ rfl (.tmp 32) (.tmp 34) 36 rfl w3.heap.size 43 i0 (.agg #[.int .i64 0, .int .i64 0]) 2 16 Try.underlying36 hi hz0 hz1 hz2 rfl (by decide) _ lm.length (pcells lm) rfl (ho.alloc _) ⟨wr.heap.size, 0, none⟩ 1 1 [.int .i64 1, .int .i64 1] rfl rfl (two_new _ _ _ _) (two_cells _ _) (by unfold maxLen; omega) (by omega) (by simp; omega) ?_)
      intro v' w4 ho4 hg4 _
      have R := hide (ListRel.step (ok := slotB) (k := j) (by omega : j + 1 + lm.length ≤ 513) hg3 ho Hok.out (by decide) HC.out HG.out ho4 hg4)
      clear ho4 hg4 ho
      go_wp2_with fail
      go_roundw
      case rel => first | exact R | (have e : ((j + 1 : Nat) : Int) - 1 = (j : Int) := by omega
                                     simpa [e] using R)
      case measure => simp [intOf]
    · obtain rfl : k = 0 := by omega
      rw [show ((0 : Nat) : Int) = 0 from rfl]
      obtain ⟨wo, rfl⟩ : ∃ wo : World, wo = wr := ⟨_, rfl⟩
      obtain ⟨A2, c2, rfl, hA2, _⟩ := own_form ho
      have HA2 := hide hA2
      have S2 := hide (Sees.ownN ho)
      have S1 := hide (Sees.ownN (own_drawn (w0 := w1) HO1'.out hg1 HG.out))
      have HB := hide (below_grown HB3.out HG.out (Nat.le_refl _) HB3.out.size)
      have S0 := hide ((hs.out.below HB.out).more HB.out.size)
      have HN2 := hide (show lm.length ≤ 513 by omega)
      clear ho hA2 HB3 HG hs HO1' HG3 HC Hok
      go_wp2_with fail
      obtain ⟨W, eW⟩ : ∃ W, W = wo.alloc (.cells #[.slice A n c, .slice A1 l1.length c1, .slice A2 lm.length c2] 36) := ⟨_, rfl⟩
      have hRow : Row W wo.heap.size 36 [.slice A n c, .slice A1 l1.length c1, .slice A2 lm.length c2] := by rw [eW]; exact Row.new wo _ _
      have hBW : Below wo.heap.size wo W := by rw [eW]; exact below1 _ _
      rw [← eW]
      have T0 := hide ((S0.out.below hBW).more hBW.size)
      have T1 := hide ((S1.out.below hBW).more hBW.size)
      have T2 := hide ((S2.out.below hBW).more hBW.size)
      have HBW := hide (below_call HB.out hBW)
      have HRow := hide hRow
      clear eW S0 S1 S2 HB hRow hBW
      go_loopw [41] (fun i w' => ∃ j : Nat, j ≤ 3 ∧ i = .int .i64 j ∧ Hid (Row w' wo.heap.size 36 [.slice A n c, .slice A1 l1.length c1, .slice A2 lm.length c2]) ∧ Hid (Below W.heap.size W w')) (fun i _ => 3 - (intOf i).toNat)
      case atStart => exact ⟨0, by omega, rfl, HRow, hide (Below.refl _ _)⟩
      case round =>
        obtain ⟨j, hj, rfl, hrow, hbx⟩ := hrel
        by_cases hltj : j < 3
        · have hd : decide ((j : Int) < 3) = true := decide_eq_true (by omega)
          obtain ⟨v, hv, hcase⟩ := three_val (.slice A n c) (.slice A1 l1.length c1) (.slice A2 lm.length c2) j hltj
          have hc := hrow.out.cell hv
          have hX : ∃ (AX : Option Addr) (nX cX : Nat) (lX : List (Int × Int)), v = .slice AX nX cX ∧ Hid (lX.length = nX) ∧ nX ≤ 1000000 ∧ Hid (Sees W W.heap.size AX (pcells lX)) := by
            rcases hcase with rfl | rfl | rfl
            · exact ⟨A, n, c, l, rfl, hn, by omega, T0⟩
            · exact ⟨A1, _, c1, l1, rfl, hide rfl, by omega, T1⟩
            · exact ⟨A2, _, c2, lm, rfl, hide rfl, by have := HN2.out; omega, T2⟩
          obtain ⟨AX, nX, cX, lX, rfl, hnX, hmX, hsX⟩ := hX
          clear hcase hv
          have hs0 := hide ((hsX.out.below hbx.out).more hbx.out.size)
          obtain ⟨E, eE⟩ : ∃ E, slotsE lX = E := ⟨_, rfl⟩
          obtain ⟨M, eM⟩ : ∃ M, alignV lX = M := ⟨_, rfl⟩
          go_wp2_with fail
          have c1' := slots_any' AX nX cX lX wr hnX (by omega) hs0
          rw [eE] at c1'
          refine c1'.mono ?_
          rintro e wy ⟨rfl, hby⟩
          have hs1 := hide ((hs0.out.below hby).more hby.size)
          have HBy := hide hby
          clear c1' hby
          go_wp2_with fail
          have c2' := rslots_any AX nX cX lX wy.heap.size wy hnX (by omega) hs1
          rw [eE] at c2'
          refine c2'.mono ?_
          rintro e wy' ⟨rfl, rfl⟩
          clear c2'
          go_wp2_with fail
          have c3' := align_any AX nX cX lX wy hnX (by omega) hs1
          rw [eM] at c3'
          refine c3'.mono ?_
          rintro e wz ⟨rfl, hbz⟩
          have hs2 := hide ((hs1.out.below hbz).more hbz.size)
          have HBz := hide (below_call HBy.out hbz)
          clear c3' hbz
          go_wp2_with fail
          have c4' := ralign_any AX nX cX lX wz.heap.size wz hnX (by omega) hs2
          rw [eM] at c4'
          refine c4'.mono ?_
          rintro e wz' ⟨rfl, rfl⟩
          have HF1 := hide (hrow.out.call HBz.out)
          have HF2 := hide (below_call hbx.out HBz.out)
          clear c4' hc eE eM
          go_wp2_with fail
          go_roundw
          case rel => exact ⟨j + 1, by omega, by go_num, HF1, HF2⟩
          case measure => simp [intOf]; omega
        · obtain rfl : j = 3 := by omega
          have hs1 := hide ((T1.out.below hbx.out).more hbx.out.size)
          have c1' := slots_any' A1 l1.length c1 l1 wr (hide rfl) (by omega) hs1
          rw [slotsE_right hl1 HL1.out] at c1'
          go_wp2_with fail
          refine c1'.mono ?_
          rintro e wy ⟨rfl, hby⟩
          go_wp2_with fail
          go_ret
          exact ⟨rfl, below_call (below_call HBW.out hbx.out) hby⟩

set_option maxHeartbeats 1000000 in
theorem slotlaw_many (A : Option Addr) (n c : Nat) (A' : Option Addr) (n' c' : Nat) (w : World) (hf : 600 < n) (hm : n ≤ 9223372036854775807) :
    Calls Try.prog 6 #[.slice A n c, .slice A' n' c'] w fun e w' => e = .returned (.bool true) ∧ Below w.heap.size w w' := by
  go_enter Try.func6, Try.ntmps6
  go_wp2_with fail
  refine (awake_any _).mono ?_
  rintro e w' ⟨rfl, rfl⟩
  go_wp2_with fail
  go_ret
  exact ⟨ret_bool (by simp), Below.refl _ _⟩

theorem slotlaw_walk (A : Option Addr) (n c : Nat) (l : List (Int × Int)) (A' : Option Addr) (n' c' : Nat) (zs : List Int) (w : World) (hA : A = none → c = 0) (hn : l.length = n) (hm : n ≤ 9223372036854775807) (hs : Sees w w.heap.size A (pcells l)) (hnc : n ≤ c)
    (hA' : A' = none → c' = 0) (hn' : zs.length = n') (hm' : n' ≤ 9223372036854775807) (hs' : Sees w w.heap.size A' (cellsU8 zs)) (hz' : ∀ z ∈ zs, 0 ≤ z ∧ z ≤ 255) (hnc' : n' ≤ c') :
    Calls Try.prog 6 #[.slice A n c, .slice A' n' c'] w fun e w' => e = .returned (.bool true) ∧ Below w.heap.size w w' := by
  by_cases h : n ≤ 600
  · exact slotlaw_few A n c l A' n' c' zs w (hide hn) (hide hA) hnc (hide hs) h (hide hA') (hide hn') hnc' hm' (hide hs') (hide hz')
  · exact slotlaw_many A n c A' n' c' w (by omega) hm
end Go.Proofs.Ytmfklggjcggoeaa
