/-
  The contracts of extent.Fit and of the reference's Fit: both give the least offset that fits, or the error. Condition: at most 2^40 intervals.
-/
import Derived.Test.YtmfklggjcggoeaaEfirst
import Derived.Test.YtmfklggjcggoeaaEclone
import Derived.Test.YtmfklggjcggoeaaEcont
namespace Go.Proofs.Ytmfklggjcggoeaa
open Go.RowKit

theorem Fits.perm {us us' : List (Int × Int)} {fr size a x : Int} (hp : us.Perm us') (h : Fits us fr size a x) : Fits us' fr size a x := ⟨h.1, h.2.1, h.2.2.1, fun u hu => h.2.2.2 u (hp.mem_iff.2 hu)⟩
theorem fitArgs_perm {us us' : List (Int × Int)} {fr size a : Int} (hp : us.Perm us') : fitArgs us fr size a = fitArgs us' fr size a := by
  unfold fitArgs
  congr 1
  rw [Bool.eq_iff_iff, List.all_eq_true, List.all_eq_true]
  exact ⟨fun h u hu => h u (hp.mem_iff.2 hu), fun h u hu => h u (hp.mem_iff.1 hu)⟩
theorem IsFit.perm {us us' : List (Int × Int)} {fr size a v e : Int} (hp : us.Perm us') (h : IsFit us fr size a v e) : IsFit us' fr size a v e := by
  unfold IsFit at *
  rw [← fitArgs_perm hp]
  rcases h with h | ⟨ha, ⟨h1, h2, h3⟩ | ⟨h1, h2⟩⟩
  · exact .inl h
  · exact .inr ⟨ha, .inl ⟨h1.perm hp, fun x hx => h2 x (hx.perm hp.symm), h3⟩⟩
  · exact .inr ⟨ha, .inr ⟨fun x hx => h1 x (hx.perm hp.symm), h2⟩⟩
theorem IsFit.bad {us : List (Int × Int)} {fr size a : Int} (h : fitArgs us fr size a = false) : IsFit us fr size a 0 4 := .inl ⟨h, rfl, rfl⟩
theorem not_all {us : List (Int × Int)} {b : Bool} (h : us.any (fun u => !rightB u.1 u.2) = b) : us.all (fun u => rightB u.1 u.2) = !b := by
  rw [← h, List.not_any_eq_all_not]
  simp

set_option maxRecDepth 100000 in
set_option maxHeartbeats 1000000 in
theorem fit_any (A : Option Addr) (n c : Nat) (l : List (Int × Int)) (fr size a : Int) (w : World) (hA : Hid (A = none → c = 0)) (hn : Hid (l.length = n)) (hnc : n ≤ c) (hm : n ≤ 1099511627776) (hs : Hid (Sees w w.heap.size A (pcells l))) :
    Calls Try.prog 29 #[.slice A n c, .int .i64 fr, .int .i64 size, .int .i64 a] w (FitPost l fr size a w) := by
  have c1 := bound_any fr
  have c2 := bound_any size
  have c3 := power_any a
  have c4 := icont_any A n c l w hn (by omega) hs
  have HA := hide (show fitArgs l fr size a = (bndB fr && bndB size && powB a && l.all fun u => rightB u.1 u.2) from rfl)
  obtain ⟨b1, h1⟩ : ∃ b, bndB fr = b := ⟨_, rfl⟩
  obtain ⟨b2, h2⟩ : ∃ b, bndB size = b := ⟨_, rfl⟩
  obtain ⟨b3, h3⟩ : ∃ b, powB a = b := ⟨_, rfl⟩
  obtain ⟨b4, h4⟩ : ∃ b, l.any (fun u => !rightB u.1 u.2) = b := ⟨_, rfl⟩
  rw [h1] at c1 HA
  rw [h2] at c2 HA
  rw [h3] at c3 HA
  rw [not_all h4] at HA
  rw [h4] at c4
  clear h1 h2 h3 h4
  cases b1 with
  | false =>
    have HF := hide (IsFit.bad (us := l) (by rw [HA.out]; rfl))
    go_enter Try.func29, Try.ntmps29
    go_wp2_with fail
    refine (c1 _).mono ?_
    rintro e w' ⟨rfl, rfl⟩
    go_wp2_with fail
    go_ret2
    exact ⟨0, 4, rfl, HF.out, Below.refl _ _⟩
  | true =>
  cases b2 with
  | false =>
    have HF := hide (IsFit.bad (us := l) (by rw [HA.out]; rfl))
    go_enter Try.func29, Try.ntmps29
    go_wp2_with fail
    refine (c1 _).mono ?_
    rintro e w' ⟨rfl, rfl⟩
    go_wp2_with fail
    refine (c2 _).mono ?_
    rintro e w' ⟨rfl, rfl⟩
    go_wp2_with fail
    go_ret2
    exact ⟨0, 4, rfl, HF.out, Below.refl _ _⟩
  | true =>
  cases b3 with
  | false =>
    have HF := hide (IsFit.bad (us := l) (by rw [HA.out]; rfl))
    go_enter Try.func29, Try.ntmps29
    go_wp2_with fail
    refine (c1 _).mono ?_
    rintro e w' ⟨rfl, rfl⟩
    go_wp2_with fail
    refine (c2 _).mono ?_
    rintro e w' ⟨rfl, rfl⟩
    go_wp2_with fail
    refine (c3 _).mono ?_
    rintro e w' ⟨rfl, rfl⟩
    go_wp2_with fail
    go_ret2
    exact ⟨0, 4, rfl, HF.out, Below.refl _ _⟩
  | true =>
  cases b4 with
  | true =>
    have HF := hide (IsFit.bad (us := l) (by rw [HA.out]; rfl))
    go_enter Try.func29, Try.ntmps29
    go_wp2_with fail
    refine (c1 _).mono ?_
    rintro e w' ⟨rfl, rfl⟩
    go_wp2_with fail
    refine (c2 _).mono ?_
    rintro e w' ⟨rfl, rfl⟩
    go_wp2_with fail
    refine (c3 _).mono ?_
    rintro e w' ⟨rfl, rfl⟩
    go_wp2_with fail
    refine c4.mono ?_
    rintro e w1 ⟨rfl, hb1⟩
    go_wp2_with fail
    go_ret2
    exact ⟨0, 4, rfl, HF.out, hb1⟩
  | false =>
    have HT := hide (show fitArgs l fr size a = true by rw [HA.out]; rfl)
    go_enter Try.func29, Try.ntmps29
    go_wp2_with fail
    refine (c1 _).mono ?_
    rintro e w' ⟨rfl, rfl⟩
    go_wp2_with fail
    refine (c2 _).mono ?_
    rintro e w' ⟨rfl, rfl⟩
    go_wp2_with fail
    refine (c3 _).mono ?_
    rintro e w' ⟨rfl, rfl⟩
    go_wp2_with fail
    refine c4.mono ?_
    rintro e w1 ⟨rfl, hb1⟩
    have HB1 := hide hb1
    have hs1 := hide ((hs.out.below hb1).more hb1.size)
    clear hb1 c1 c2 c3 c4
    go_wp2_with fail
    refine (clone_any A n c l w1 hA hn hnc hm hs1).mono ?_
    rintro e w2 ⟨A2, c2, rfl, ho2, hb2⟩
    have HO2 := hide ho2
    have HB2 := hide (below_call HB1.out hb2)
    have hsz : w1.heap.size ≤ w2.heap.size := hb2.size
    have HB12 := hide hb2
    clear ho2 hb2
    go_wp2_with fail
    refine (sort_any A2 n c2 l w1.heap.size w2 hn hm hsz HO2).mono ?_
    rintro e w3 ⟨rfl, l', hperm, hasc, hs3, hb3⟩
    have HP := hide hperm
    have HS := hide hasc
    have HS3 := hide hs3
    have HB3 := hide (HB2.out.trans (hb3.mono HB1.out.size))
    have hn' := hide (show l'.length = n by rw [hperm.length_eq]; exact hn.out)
    have HT' := hide (show fitArgs l' fr size a = true by rw [fitArgs_perm hperm]; exact HT.out)
    clear hperm hasc hs3 hb3
    go_wp2_with fail
    refine (first_any A2 n c2 l' fr size a w3 hn' hm HS3 HS HT').mono ?_
    rintro e w4 ⟨v, x, rfl, hf, hb4⟩
    have HF := hide (hf.perm HP.out)
    have HB4 := hide (below_call HB3.out hb4)
    clear hf hb4
    go_wp2_with fail
    go_ret2
    exact ⟨v, x, rfl, HF.out, HB4.out⟩

theorem free_step {l : List (Int × Int)} {x s : Int} {k : Nat} (hk : k < l.length) (h : ovlB l[k].1 l[k].2 x s = true) : (l.all fun u => !ovlB u.1 u.2 x s) = false := by
  rw [List.all_eq_false]
  exact ⟨l[k], List.getElem_mem hk, by simp [h]⟩
set_option maxHeartbeats 800000 in
theorem free_any (A : Option Addr) (n c : Nat) (l : List (Int × Int)) (x s : Int) (w : World) (hn : Hid (l.length = n)) (hm : n ≤ 1099511627776) (hs : Hid (Sees w w.heap.size A (pcells l))) :
    Calls Try.prog 48 #[.slice A n c, pv x s] w fun e w' => e = .returned (.bool (l.all fun u => !ovlB u.1 u.2 x s)) ∧ Below w.heap.size w w' := by
  go_enter Try.func48, Try.ntmps48
  go_wp2_with fail
  go_loopw [5] (fun i wr => ∃ k : Nat, k ≤ n ∧ i = .int .i64 k ∧ Hid (Row wr w.heap.size 32 [.int .i64 x, .int .i64 s]) ∧ Hid (Below w.heap.size w wr) ∧ Hid (∀ j (hj : j < l.length), j < k → ovlB l[j].1 l[j].2 x s = false)) (fun i _ => n - (intOf i).toNat)
  case atStart => exact ⟨0, by omega, rfl, hide (Row.new w _ _), hide (below1 _ _), hide fun j _ hj => by omega⟩
  case round =>
    obtain ⟨k, hk, rfl, hr, hb, hno⟩ := hrel
    by_cases hlt : k < n
    · have hltz : (k : Int) < (n : Int) := by omega
      have hkz : (0 : Int) ≤ (k : Int) := by omega
      have hkl : k < l.length := by have := hn.out; omega
      obtain ⟨b, off, rfl, hbB, c0, c1⟩ := pair_at (hs.out.below hb.out) hkl
      have co := roverlap_any l[k].1 l[k].2 x s
      obtain ⟨v, hv⟩ : ∃ v, ovlB l[k].1 l[k].2 x s = v := ⟨_, rfl⟩
      rw [hv] at co
      have HV := hide hv
      obtain ⟨o, ho⟩ : ∃ o, l[k].1 = o := ⟨_, rfl⟩
      obtain ⟨t, ht⟩ : ∃ t, l[k].2 = t := ⟨_, rfl⟩
      rw [ho] at c0 co
      rw [ht] at c1 co
      have d0 := after_cell c0
      have d1 := after_cell c1
      have d2 := after_cell (hr.out.cell (k := 0) rfl)
      have d3 := after_cell (hr.out.cell (k := 1) rfl)
      clear hv ho ht c0 c1
      cases v with
      | true =>
        have HF := hide (free_step hkl HV.out)
        go_wp2_with fail
        refine wp_region_after (by kernel_rfl) (by kernel_rfl) ?_
        repeat (go_big_quiet_step ((go_at_call 18; exact after_of (co _))))
        refine wpQuiet_nil ?_
        intro _ hw'
        obtain ⟨p1, hw''⟩ := hw'
        subst hw''
        clear d0 d1 d2 d3
        have HB := hide (below_call hb.out p1.b)
        go_wp2_with fail
        go_ret
        exact ⟨ret_bool HF.out.symm, HB.out⟩
      | false =>
        go_wp2_with fail
        refine wp_region_after (by kernel_rfl) (by kernel_rfl) ?_
        repeat (go_big_quiet_step ((go_at_call 18; exact after_of (co _))))
        refine wpQuiet_nil ?_
        intro _ hw'
        obtain ⟨p1, hw''⟩ := hw'
        subst hw''
        clear d0 d1 d2 d3
        have HB := hide (below_call hb.out p1.b)
        have HR := hide (hr.out.call p1.b)
        go_wp2_with fail
        go_roundw
        case rel =>
          refine ⟨k + 1, by omega, by go_num, HR, HB, hide fun j hj hjk => ?_⟩
          by_cases e : j = k
          · subst e; exact HV.out
          · exact hno.out j hj (by omega)
        case measure => simp [intOf]; omega
    · obtain rfl : k = n := by omega
      have HF : Hid ((l.all fun u => !ovlB u.1 u.2 x s) = true) := by
        show (l.all fun u => !ovlB u.1 u.2 x s) = true
        rw [List.all_eq_true]
        intro u hu
        obtain ⟨j, hj, rfl⟩ := List.getElem_of_mem hu
        rw [hno.out j hj (by have := hn.out; omega)]
        rfl
      go_wp2_with fail
      go_ret
      exact ⟨ret_bool HF.out.symm, hb.out⟩
end Go.Proofs.Ytmfklggjcggoeaa
