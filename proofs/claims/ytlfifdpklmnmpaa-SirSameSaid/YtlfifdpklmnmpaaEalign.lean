/-
  The contracts of extent.Align and of the reference's Slots, Align. Conditions: those of the types; fewer than 2^62 slots.
-/
import Derived.Test.YtlfifdpklmnmpaaEslots
import Derived.Test.YtlfifdpklmnmpaaErpow
namespace Go.Proofs.Ytlfifdpklmnmpaa
open Go.RowKit

set_option maxHeartbeats 800000 in
theorem rslots_any (A : Option Addr) (n c : Nat) (l : List (Int × Int)) (B : Nat) (w : World) (hn : Hid (l.length = n)) (hm : n ≤ 4611686018427387904) (hs : Hid (Sees w B A (pcells l))) :
    Calls Try.prog 31 #[.slice A n c] w fun e w' => e = .returned (.int .i64 (slotsE l)) ∧ w = w' := by
  by_cases h : n ≤ 512
  · go_enter Try.func31, Try.ntmps31
    go_wp2_with fail
    go_loop [3] (fun i => ∃ k : Nat, k ≤ n ∧ i = .int .i64 k ∧ Hid (∀ j (hj : j < l.length), j < k → (!slotB l[j].1 l[j].2) = false)) (fun i => n - (intOf i).toNat)
    case atStart => exact ⟨0, by omega, rfl, hide fun j _ hj => by omega⟩
    case round =>
      obtain ⟨k, hk, rfl, hno⟩ := hrel
      by_cases hlt : k < n
      · have hltz : (k : Int) < (n : Int) := by omega
        have hkz : (0 : Int) ≤ (k : Int) := by omega
        have hkl : k < l.length := by have := hn.out; omega
        obtain ⟨b, off, rfl, hbB, c0, c1⟩ := pair_at hs.out hkl
        have d1 := rsz_any l[k].1
        have d2 := rpower_any l[k].2
        have HV := hide (show slotB l[k].1 l[k].2 = (szB l[k].1 && powB l[k].2) from rfl)
        have hit : Hid ((!slotB l[k].1 l[k].2) = true → slotsE l = 5) := fun e => by
          rw [slotsE_few (by have := hn.out; omega), any_hit (p := fun u => !slotB u.1 u.2) hkl e]; rfl
        obtain ⟨x, hx⟩ : ∃ x, l[k].1 = x := ⟨_, rfl⟩
        obtain ⟨y, hy⟩ : ∃ y, l[k].2 = y := ⟨_, rfl⟩
        rw [hx] at c0 d1
        rw [hy] at c1 d2
        have HX := hide hx
        have HY := hide hy
        clear hx hy
        obtain ⟨u, hu⟩ : ∃ u, szB x = u := ⟨_, rfl⟩
        obtain ⟨v, hv⟩ : ∃ v, powB y = v := ⟨_, rfl⟩
        rw [hu] at d1
        rw [hv] at d2
        have HU := hide hu
        have HW := hide hv
        clear hu hv
        cases u with
        | false =>
          go_wp2_with fail
          refine (d1 _).mono ?_
          rintro e w' ⟨rfl, rfl⟩
          go_wp2_with fail
          go_ret
          exact ⟨ret_int (hit.out (by rw [HV.out, HX.out, HU.out]; rfl)).symm, rfl⟩
        | true =>
          cases v with
          | false =>
            go_wp2_with fail
            refine (d1 _).mono ?_
            rintro e w' ⟨rfl, rfl⟩
            go_wp2_with fail
            refine (d2 _).mono ?_
            rintro e w' ⟨rfl, rfl⟩
            go_wp2_with fail
            go_ret
            exact ⟨ret_int (hit.out (by rw [HV.out, HX.out, HU.out, HY.out, HW.out]; rfl)).symm, rfl⟩
          | true =>
            go_wp2_with fail
            refine (d1 _).mono ?_
            rintro e w' ⟨rfl, rfl⟩
            go_wp2_with fail
            refine (d2 _).mono ?_
            rintro e w' ⟨rfl, rfl⟩
            go_wp2_with fail
            go_round
            case rel =>
              refine ⟨k + 1, by omega, by go_num, hide fun j hj hjk => ?_⟩
              by_cases e : j = k
              · subst e
                rw [HV.out, HX.out, HU.out, HY.out, HW.out]; rfl
              · exact hno.out j hj (by omega)
            case measure => simp [intOf]; omega
      · obtain rfl : k = n := by omega
        have he : Hid (slotsE l = 0) := by
          show slotsE l = 0
          rw [slotsE_few (by have := hn.out; omega), any_miss fun j hj => hno.out j hj (by have := hn.out; omega)]; rfl
        go_wp2_with fail
        go_ret
        exact ⟨ret_int he.out.symm, rfl⟩
  · have he := hide (slotsE_many (l := l) (by have := hn.out; omega))
    go_enter Try.func31, Try.ntmps31
    go_wp2_with fail
    go_ret
    exact ⟨ret_int he.out.symm, rfl⟩

set_option maxHeartbeats 800000 in
theorem align_any (A : Option Addr) (n c : Nat) (l : List (Int × Int)) (w : World) (hn : Hid (l.length = n)) (hm : n ≤ 4611686018427387904) (hs : Hid (Sees w w.heap.size A (pcells l))) :
    Calls Try.prog 22 #[.slice A n c] w fun e w' => e = .returned (.int .i64 (alignV l)) ∧ Below w.heap.size w w' := by
  have hc := slots_any' A n c l w hn hm hs
  by_cases he : slotsE l = 0
  · have hv := hide (show alignV l = alM l l.length by simp [alignV, he])
    rw [he] at hc
    clear he
    go_enter Try.func22, Try.ntmps22
    go_wp2_with fail
    refine hc.mono ?_
    rintro e w1 ⟨rfl, hb1⟩
    have HB := hide hb1
    clear hb1 hc
    go_wp2_with fail
    go_loopw [3, 12] (fun m i wr => ∃ (k : Nat) (x : Int), k ≤ n ∧ i = .int .i64 k ∧ m = .int .i64 x ∧ Hid (x = alM l k) ∧ Hid (Below w.heap.size w wr)) (fun _ i _ => n - (intOf i).toNat)
    case atStart => exact ⟨0, 16, by omega, rfl, rfl, hide rfl, HB⟩
    case round =>
      obtain ⟨k, x, hk, rfl, rfl, hx, hb⟩ := hrel
      by_cases hlt : k < n
      · have hltz : (k : Int) < (n : Int) := by omega
        have hkz : (0 : Int) ≤ (k : Int) := by omega
        have hkl : k < l.length := by have := hn.out; omega
        obtain ⟨b, off, rfl, hbB, c0, c1⟩ := pair_at (hs.out.below hb.out) hkl
        have hstep := alM_succ l k hkl
        rw [← hx.out] at hstep
        have HS := hide hstep
        have HB' := hide (below_call hb.out (below1 wr (.cells #[.int .i64 l[k].1, .int .i64 l[k].2] 54)))
        obtain ⟨s, hs'⟩ : ∃ s, l[k].1 = s := ⟨_, rfl⟩
        obtain ⟨y, hy⟩ : ∃ y, l[k].2 = y := ⟨_, rfl⟩
        rw [hs'] at c0 HB'
        rw [hy] at c1 HS HB'
        clear hstep hs' hy
        go_wp2_with fail
        all_goals
          go_roundw
          case rel => exact ⟨k + 1, _, by omega, by go_num, rfl, hide (by rw [HS.out]; omega), HB'⟩
          case measure => simp [intOf]; omega
      · obtain rfl : k = n := by omega
        go_wp2_with fail
        go_ret
        exact ⟨ret_int (by rw [hv.out, hx.out, hn.out]), hb.out⟩
  · have hv := hide (show alignV l = 16 by simp [alignV, he])
    have hne : (slotsE l != 0) = true := by simpa using he
    clear he
    generalize slotsE l = z at hc hne
    go_enter Try.func22, Try.ntmps22
    go_wp2_with fail
    refine hc.mono ?_
    rintro e w1 ⟨rfl, hb1⟩
    go_wp2_with fail
    go_ret
    exact ⟨ret_int hv.out.symm, hb1⟩

set_option maxHeartbeats 800000 in
theorem ralign_any (A : Option Addr) (n c : Nat) (l : List (Int × Int)) (B : Nat) (w : World) (hn : Hid (l.length = n)) (hm : n ≤ 4611686018427387904) (hs : Hid (Sees w B A (pcells l))) :
    Calls Try.prog 23 #[.slice A n c] w fun e w' => e = .returned (.int .i64 (alignV l)) ∧ w = w' := by
  have hc := rslots_any A n c l B w hn hm hs
  by_cases he : slotsE l = 0
  · have hv := hide (show alignV l = alM l l.length by simp [alignV, he])
    rw [he] at hc
    clear he
    go_enter Try.func23, Try.ntmps23
    go_wp2_with fail
    refine hc.mono ?_
    rintro e w1 ⟨rfl, rfl⟩
    clear hc
    go_wp2_with fail
    go_loop [3, 4] (fun m i => ∃ (k : Nat) (x : Int), k ≤ n ∧ i = .int .i64 k ∧ m = .int .i64 x ∧ Hid (x = alM l k)) (fun _ i => n - (intOf i).toNat)
    case atStart => exact ⟨0, 16, by omega, rfl, rfl, hide rfl⟩
    case round =>
      obtain ⟨k, x, hk, rfl, rfl, hx⟩ := hrel
      by_cases hlt : k < n
      · have hltz : (k : Int) < (n : Int) := by omega
        have hkz : (0 : Int) ≤ (k : Int) := by omega
        have hkl : k < l.length := by have := hn.out; omega
        obtain ⟨b, off, rfl, hbB, c0, c1⟩ := pair_at hs.out hkl
        have hstep := alM_succ l k hkl
        rw [← hx.out] at hstep
        have HS := hide hstep
        obtain ⟨y, hy⟩ : ∃ y, l[k].2 = y := ⟨_, rfl⟩
        rw [hy] at c1 HS
        clear hstep hy
        go_wp2_with fail
        all_goals
          go_round
          case rel => exact ⟨k + 1, _, by omega, by go_num, rfl, hide (by rw [HS.out]; omega)⟩
          case measure => simp [intOf]; omega
      · obtain rfl : k = n := by omega
        go_wp2_with fail
        go_ret
        exact ⟨ret_int (by rw [hv.out, hx.out, hn.out]), rfl⟩
  · have hv := hide (show alignV l = 16 by simp [alignV, he])
    have hne : (slotsE l != 0) = true := by simpa using he
    clear he
    generalize slotsE l = z at hc hne
    go_enter Try.func23, Try.ntmps23
    go_wp2_with fail
    refine hc.mono ?_
    rintro e w1 ⟨rfl, rfl⟩
    go_wp2_with fail
    go_ret
    exact ⟨ret_int hv.out.symm, rfl⟩
end Go.Proofs.Ytlfifdpklmnmpaa
