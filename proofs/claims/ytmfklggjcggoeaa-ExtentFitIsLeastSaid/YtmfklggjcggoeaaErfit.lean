/-
  The contract of the reference's Fit: the least offset that fits, or the error. Condition: at most 2^40 intervals.
-/
import Derived.Test.YtmfklggjcggoeaaEfit
import Derived.Deep.DeepCutAuto
namespace Go.Proofs.Ytmfklggjcggoeaa
open Go.RowKit

theorem right_all {l : List (Int × Int)} {n : Nat} (hn : l.length = n) (h : ∀ j (hj : j < l.length), j < n → rightB l[j].1 l[j].2 = true) : (l.all fun u => rightB u.1 u.2) = true := by
  rw [List.all_eq_true]
  intro u hu
  obtain ⟨j, hj, rfl⟩ := List.getElem_of_mem hu
  exact h j hj (by omega)
theorem right_not {l : List (Int × Int)} {k : Nat} (hk : k < l.length) (h : rightB l[k].1 l[k].2 = false) : (l.all fun u => rightB u.1 u.2) = false := by
  rw [List.all_eq_false]
  exact ⟨l[k], List.getElem_mem hk, by simp [h]⟩
theorem cand_succ {l : List (Int × Int)} {fr : Int} {m : Nat} (hm : m < l.length) : cand l fr (m + 1) = max fr (l[m].1 + l[m].2) := by
  simp [cand, List.getD_eq_getElem?_getD, List.getElem?_eq_getElem hm]

/-- The reference's test of a place: x is what it rounds up to, e the error. -/
def okB (l : List (Int × Int)) (size x e bb : Int) (f : Bool) : Bool := decide (e = 0) && rightB x size && (l.all fun u => !ovlB u.1 u.2 x size) && (!f || decide (x < bb))
/-- After a place that is taken, and after one that is not. -/
theorem ok_best {l : List (Int × Int)} {fr size a bb C : Int} {f : Bool} {k : Nat} (hb : Best l fr size a k bb f) (hC : cand l fr k = C) (h1 : bndB C = true) (h3 : powB a = true) (hfr : fr ≤ C) (s0 : 0 ≤ size) :
    (okB l size (upV C a) (upE C a) bb f = true → Best l fr size a (k + 1) (upV C a) true) ∧ (okB l size (upV C a) (upE C a) bb f = false → Best l fr size a (k + 1) bb f) := by
  have a0 := (powB_b h3).1
  have hub := upM_b C (show 0 < a by omega)
  by_cases hu : upM C a ≤ 2147483647
  · obtain ⟨e1, e2⟩ := up_ok h1 h3 hu
    rw [e1, e2]
    have hF : Fits l fr size a (upM (cand l fr k) a) ↔ rightB (upM C a) size = true ∧ (l.all fun u => !ovlB u.1 u.2 (upM C a) size) = true := by
      rw [hC]
      constructor
      · rintro ⟨q1, q2, q3, q4⟩
        exact ⟨rightB_iff.2 (by have := bndB_iff.1 h1; omega), List.all_eq_true.2 fun u hu => by simp [q4 u hu]⟩
      · rintro ⟨q1, q2⟩
        exact ⟨by omega, upM_dvd _ _, (rightB_iff.1 q1).2.2, fun u hu => by have := List.all_eq_true.1 q2 u hu; simpa using this⟩
    unfold okB
    cases h4 : rightB (upM C a) size with
    | false => exact ⟨by simp, fun _ => hb.skip fun h => by have := (hF.1 h).1; rw [h4] at this; cases this⟩
    | true =>
      cases h5 : (l.all fun u => !ovlB u.1 u.2 (upM C a) size) with
      | false => exact ⟨by simp, fun _ => hb.skip fun h => by have := (hF.1 h).2; rw [h5] at this; cases this⟩
      | true =>
        have hf := hF.2 ⟨h4, h5⟩
        rw [← hC] at *
        cases f with
        | false => exact ⟨fun _ => hb.take hf (.inl rfl), by simp⟩
        | true => exact ⟨fun h => hb.take hf (.inr (by simp at h; omega)), fun h => hb.keep rfl (by simp at h; omega)⟩
  · obtain ⟨e1, e2⟩ := up_great h1 h3 (show 2147483647 < upM C a by omega)
    rw [e1, e2]
    refine ⟨fun h => by simp [okB] at h, fun _ => hb.skip fun h => ?_⟩
    rw [hC] at h
    have := h.2.2.1
    omega
theorem cand_b {l : List (Int × Int)} {fr : Int} {k : Nat} (hk : k ≤ l.length) (hr : ∀ u ∈ l, rightB u.1 u.2 = true) (hf : 0 ≤ fr ∧ fr ≤ 2147483647) : fr ≤ cand l fr k ∧ bndB (cand l fr k) = true := by
  rcases k with _ | m
  · exact ⟨Int.le_refl _, bndB_iff.2 hf⟩
  · have := rightB_iff.1 (hr _ (List.getElem_mem (show m < l.length by omega)))
    rw [cand_succ (show m < l.length by omega), bndB_iff]
    omega

set_option maxRecDepth 100000 in
set_option maxHeartbeats 4000000 in
theorem rfit_loop (A : Option Addr) (n c : Nat) (l : List (Int × Int)) (fr size a : Int) (w : World) (hn : Hid (l.length = n)) (hm : n ≤ 1099511627776) (hs : Hid (Sees w w.heap.size A (pcells l))) (hargs : Hid (bndB fr = true ∧ bndB size = true ∧ powB a = true)) :
    Calls Try.prog 30 #[.slice A n c, .int .i64 fr, .int .i64 size, .int .i64 a] w (FitPost l fr size a w) := by
  obtain ⟨h1, h2, h3⟩ := hargs.out
  have c1 := rbound_any fr
  have c2 := rbound_any size
  have c3 := rpower_any a
  rw [h1] at c1
  rw [h2] at c2
  rw [h3] at c3
  obtain ⟨f0, f1⟩ := bndB_iff.1 h1
  obtain ⟨s0, s1⟩ := bndB_iff.1 h2
  obtain ⟨a0, a1⟩ := powB_b h3
  have H1 := hide h1
  have H2 := hide h2
  have H3 := hide h3
  clear h1 h2 h3
  go_enter Try.func30, Try.ntmps30
  go_wp2_with fail
  refine (c1 _).mono ?_
  rintro e w' ⟨rfl, rfl⟩
  go_wp2_with fail
  refine (c2 _).mono ?_
  rintro e w' ⟨rfl, rfl⟩
  go_wp2_with fail
  refine (c3 _).mono ?_
  rintro e w' ⟨rfl, rfl⟩
  clear c1 c2 c3
  go_wp2_with fail
  go_loopw [10] (fun i wr => ∃ k : Nat, k ≤ n ∧ i = .int .i64 k ∧ Hid (Below w.heap.size w wr) ∧ Hid (∀ j (hj : j < l.length), j < k → rightB l[j].1 l[j].2 = true)) (fun i _ => n - (intOf i).toNat)
  case atStart => exact ⟨0, by omega, rfl, hide (Below.refl _ _), hide fun j _ hj => by omega⟩
  case round =>
    obtain ⟨k, hk, rfl, hb, hyes⟩ := hrel
    by_cases hlt : k < n
    · have hltz : (k : Int) < (n : Int) := by omega
      have hkz : (0 : Int) ≤ (k : Int) := by omega
      have hkl : k < l.length := by have := hn.out; omega
      obtain ⟨b, off, rfl, hbB, c0, c1⟩ := pair_at (hs.out.below hb.out) hkl
      have cr := rright_any l[k].1 l[k].2
      obtain ⟨v, hv⟩ : ∃ v, rightB l[k].1 l[k].2 = v := ⟨_, rfl⟩
      rw [hv] at cr
      have HV := hide hv
      obtain ⟨o, ho⟩ : ∃ o, l[k].1 = o := ⟨_, rfl⟩
      obtain ⟨t, ht⟩ : ∃ t, l[k].2 = t := ⟨_, rfl⟩
      rw [ho] at c0 cr
      rw [ht] at c1 cr
      clear hv ho ht
      cases v with
      | false =>
        have HF := hide (IsFit.bad (us := l) (fr := fr) (size := size) (a := a) (by unfold fitArgs; rw [right_not hkl HV.out]; simp))
        go_wp2_with fail
        refine (cr _).mono ?_
        rintro e w2 ⟨rfl, hb2⟩
        have HB := hide (below_call hb.out hb2)
        clear hb2
        go_wp2_with fail
        go_ret2
        exact ⟨0, 4, rfl, HF.out, HB.out⟩
      | true =>
        go_wp2_with fail
        refine (cr _).mono ?_
        rintro e w2 ⟨rfl, hb2⟩
        have HB := hide (below_call hb.out hb2)
        clear hb2 c0 c1
        go_wp2_with fail
        go_roundw
        case rel =>
          refine ⟨k + 1, by omega, by go_num, HB, hide fun j hj hjk => ?_⟩
          by_cases e : j = k
          · subst e; exact HV.out
          · exact hyes.out j hj (by omega)
        case measure => simp [intOf]; omega
    · obtain rfl : n = k := by omega
      have hall := right_all hn.out hyes.out
      have HR := hide (fun u hu => List.all_eq_true.1 hall u hu : ∀ u ∈ l, rightB u.1 u.2 = true)
      have HT := hide (show fitArgs l fr size a = true by unfold fitArgs; rw [H1.out, H2.out, H3.out, hall]; rfl)
      clear hall hyes
      obtain ⟨wo, rfl⟩ : ∃ wo : World, wo = wr := ⟨_, rfl⟩
      go_wp2_with fail
      go_loopg [11, 12, 13] (n + 1) (fun gg bv fv iv wr => ∃ (i : Int) (k : Nat) (bb : Int) (f : Bool), Hid ((k : Int) = i + 1) ∧ -1 ≤ i ∧ i ≤ n ∧ n - i ≤ gg ∧ bv = .int .i64 bb ∧ fv = .bool f ∧ iv = .int .i64 i ∧ Hid (Best l fr size a k bb f) ∧ Hid (Below w.heap.size w wr))
      case atStart => exact ⟨-1, 0, 0, false, hide rfl, by omega, by omega, by omega, rfl, rfl, rfl, hide Best.start, hb⟩
      case round =>
        obtain ⟨i, k, bb, f, hk, hi0, hi1, hg, rfl, rfl, rfl, hbest, hb⟩ := hrel
        by_cases hlt : i < n
        · go_upto_if 51 with (fail)
          go_cut [14] (fun v wx => v = .int .i64 (cand l fr k) ∧ Hid (Below w.heap.size w wx))
          case first =>
            by_cases hz : 0 ≤ i
            · obtain ⟨m, rfl⟩ := Int.eq_ofNat_of_zero_le hz
              obtain rfl : k = m + 1 := by have := hk.out; omega
              have hml : m < l.length := by have := hn.out; omega
              obtain ⟨b, off, rfl, hbB, c0, c1⟩ := pair_at (hs.out.below hb.out) hml
              have hcand := hide (cand_succ (fr := fr) hml)
              have hright := rightB_iff.1 (HR.out _ (List.getElem_mem hml))
              obtain ⟨o, ho⟩ : ∃ o, l[m].1 = o := ⟨_, rfl⟩
              obtain ⟨t, ht⟩ : ∃ t, l[m].2 = t := ⟨_, rfl⟩
              rw [ho] at c0 hcand hright
              rw [ht] at c1 hcand hright
              obtain ⟨r0, r1, r2⟩ := hright
              have d2 := after_cell c0
              have d3 := after_cell c1
              clear ho ht c0 c1
              go_wp2_with fail
              refine wp_region_after (by kernel_rfl) (by kernel_rfl) ?_
              repeat (go_big_quiet_step (fail))
              refine wpQuiet_nil ?_
              intro _ hw'
              obtain ⟨p1, hw''⟩ := hw'
              subst hw''
              have hb := hide (below_call hb.out p1.b)
              clear d2 d3
              go_wp2_with fail
              all_goals
                go_meet
                exact ⟨congrArg (Value.int .i64) (by rw [hcand.out]; try omega), hb⟩
            · obtain rfl : i = -1 := by omega
              obtain rfl : k = 0 := by have := hk.out; omega
              go_wp2_with fail
              go_meet
              exact ⟨rfl, hb⟩
          case rest =>
            obtain ⟨rfl, hb⟩ := hcut
            have hkl : k ≤ l.length := by have := hk.out; have := hn.out; omega
            obtain ⟨g1, g2⟩ := cand_b hkl HR.out ⟨f0, f1⟩
            obtain ⟨C, hC⟩ : ∃ C, cand l fr k = C := ⟨_, rfl⟩
            rw [hC] at g1 g2 ⊢
            obtain ⟨o1, o2⟩ := ok_best hbest.out hC g2 H3.out g1 s0
            have cu := rup_any C a
            obtain ⟨x, hx⟩ : ∃ x, upV C a = x := ⟨_, rfl⟩
            obtain ⟨e, he⟩ : ∃ e, upE C a = e := ⟨_, rfl⟩
            rw [hx, he] at cu o1 o2
            have O1 := hide o1
            have O2 := hide o2
            clear hC hx he o1 o2 g1 g2 hkl
            go_wp2_with fail
            refine (cu _).mono ?_
            rintro e' w' ⟨rfl, rfl⟩
            clear cu
            go_upto_region 17 with (fail)
            obtain ⟨W, eW⟩ : ∃ W, W = wc.alloc (.cells #[.int .i64 x, .int .i64 size] 32) := ⟨_, rfl⟩
            have hRow : Row W wc.heap.size 32 [.int .i64 x, .int .i64 size] := by rw [eW]; exact Row.new wc _ _
            have hb := hide (below_call hb.out (show Below wc.heap.size wc W by rw [eW]; exact below1 _ _))
            rw [← eW]
            have d0 := hRow.cell (k := 0) rfl
            have d1 := hRow.cell (k := 1) rfl
            clear hRow eW
            have HOK := hide (show okB l size x e bb f = (decide (e = 0) && rightB x size && (l.all fun u => !ovlB u.1 u.2 x size) && (!f || decide (x < bb))) from rfl)
            go_cut [93] (fun v wx => v = .bool (okB l size x e bb f) ∧ Hid (Below w.heap.size w wx))
            case first =>
              by_cases he : e = 0
              · subst he
                have cr := rright_any x size
                obtain ⟨v, hv⟩ : ∃ v, rightB x size = v := ⟨_, rfl⟩
                have HV := hide hv
                rw [hv] at cr
                clear hv
                cases v with
                | false =>
                  go_wp2_with fail
                  refine (cr _).mono ?_
                  rintro e' w2 ⟨rfl, hb2⟩
                  have HB := hide (below_call hb.out hb2)
                  clear hb2
                  go_wp2_with fail
                  go_meet
                  exact ⟨congrArg Value.bool (by rw [HOK.out, HV.out]; simp), HB⟩
                | true =>
                  go_wp2_with fail
                  refine (cr _).mono ?_
                  rintro e' w2 ⟨rfl, hb2⟩
                  have HB := hide (below_call hb.out hb2)
                  have q0 := keep_cellB hb2 d0
                  have q1 := keep_cellB hb2 d1
                  have hs2 := hide ((hs.out.below HB.out).more HB.out.size)
                  clear hb2 d0 d1 cr
                  have cf := free_any A n c l x size w2 hn hm hs2
                  obtain ⟨v, hv⟩ : ∃ v, (l.all fun u => !ovlB u.1 u.2 x size) = v := ⟨_, rfl⟩
                  have HF := hide hv
                  rw [hv] at cf
                  clear hv
                  go_wp2_with fail
                  refine cf.mono ?_
                  rintro e' w3 ⟨rfl, hb3⟩
                  have HB3 := hide (below_call HB.out hb3)
                  clear hb3 q0 q1 cf
                  cases v with
                  | false =>
                    go_wp2_with fail
                    go_meet
                    exact ⟨congrArg Value.bool (by rw [HOK.out, HV.out, HF.out]; simp), HB3⟩
                  | true =>
                    cases f with
                    | false =>
                      go_wp2_with fail
                      go_meet
                      exact ⟨congrArg Value.bool (by rw [HOK.out, HV.out, HF.out]; simp), HB3⟩
                    | true =>
                      go_wp2_with fail
                      go_meet
                      exact ⟨congrArg Value.bool (by rw [HOK.out, HV.out, HF.out]; simp), HB3⟩
              · have hne : (e == 0) = false := by simpa using he
                have HE := hide he
                clear he
                go_wp2_with fail
                go_meet
                exact ⟨congrArg Value.bool (by rw [HOK.out]; simp [HE.out]), hb⟩
            case rest =>
              obtain ⟨rfl, hb⟩ := hcut
              obtain ⟨v, hv⟩ : ∃ v, okB l size x e bb f = v := ⟨_, rfl⟩
              rw [hv] at O1 O2 ⊢
              clear HOK hv d0 d1
              cases v with
              | true =>
                have HB' := hide (O1.out rfl)
                go_wp2_with fail
                go_roundg (n - i - 1).toNat
                case measure => omega
                case rel => exact ⟨i + 1, k + 1, x, true, hide (by have := hk.out; omega), by omega, by omega, by omega, rfl, rfl, rfl, HB', hb⟩
              | false =>
                have HB' := hide (O2.out rfl)
                go_wp2_with fail
                go_roundg (n - i - 1).toNat
                case measure => omega
                case rel => exact ⟨i + 1, k + 1, bb, f, hide (by have := hk.out; omega), by omega, by omega, by omega, rfl, rfl, rfl, HB', hb⟩
        · obtain rfl : i = n := by omega
          obtain rfl : k = n + 1 := by have := hk.out; omega
          have hbb := hbest.out
          rw [show n + 1 = l.length + 1 by rw [hn.out]] at hbb
          obtain ⟨y1, y2⟩ := hbb.end_ (by omega) HR.out f0 s0
          cases f with
          | true =>
            have HF := hide (IsFit.found HT.out (y1 rfl))
            clear y1 y2 hbb
            go_wp2_with fail
            go_ret2
            exact ⟨bb, 0, rfl, HF.out, hb.out⟩
          | false =>
            have HF := hide (IsFit.not HT.out (y2 rfl))
            clear y1 y2 hbb
            go_wp2_with fail
            go_ret2
            exact ⟨0, 9, rfl, HF.out, hb.out⟩

set_option maxHeartbeats 1000000 in
theorem rfit_any (A : Option Addr) (n c : Nat) (l : List (Int × Int)) (fr size a : Int) (w : World) (hn : Hid (l.length = n)) (hm : n ≤ 1099511627776) (hs : Hid (Sees w w.heap.size A (pcells l))) :
    Calls Try.prog 30 #[.slice A n c, .int .i64 fr, .int .i64 size, .int .i64 a] w (FitPost l fr size a w) := by
  have c1 := rbound_any fr
  have c2 := rbound_any size
  have c3 := rpower_any a
  have HA := hide (show fitArgs l fr size a = (bndB fr && bndB size && powB a && l.all fun u => rightB u.1 u.2) from rfl)
  cases h1 : bndB fr with
  | false =>
    have HF := hide (IsFit.bad (us := l) (fr := fr) (size := size) (a := a) (by rw [HA.out, h1]; rfl))
    rw [h1] at c1
    clear h1
    go_enter Try.func30, Try.ntmps30
    go_wp2_with fail
    refine (c1 _).mono ?_
    rintro e w' ⟨rfl, rfl⟩
    go_wp2_with fail
    go_ret2
    exact ⟨0, 4, rfl, HF.out, Below.refl _ _⟩
  | true =>
  cases h2 : bndB size with
  | false =>
    have HF := hide (IsFit.bad (us := l) (fr := fr) (size := size) (a := a) (by rw [HA.out, h1, h2]; rfl))
    rw [h1] at c1
    rw [h2] at c2
    clear h1 h2
    go_enter Try.func30, Try.ntmps30
    go_wp2_with fail
    refine (c1 _).mono ?_
    rintro e w' ⟨rfl, rfl⟩
    go_wp2_with fail
    refine (c2 _).mono ?_
    rintro e w' ⟨rfl, rfl⟩
    go_wp2_with fail
    go_ret2
    exact ⟨0, 4, rfl, HF.out, Below.refl _ _⟩
  | true =>
  cases h3 : powB a with
  | false =>
    have HF := hide (IsFit.bad (us := l) (fr := fr) (size := size) (a := a) (by rw [HA.out, h1, h2, h3]; rfl))
    rw [h1] at c1
    rw [h2] at c2
    rw [h3] at c3
    clear h1 h2 h3
    go_enter Try.func30, Try.ntmps30
    go_wp2_with fail
    refine (c1 _).mono ?_
    rintro e w' ⟨rfl, rfl⟩
    go_wp2_with fail
    refine (c2 _).mono ?_
    rintro e w' ⟨rfl, rfl⟩
    go_wp2_with fail
    refine (c3 _).mono ?_
    rintro e w' ⟨rfl, rfl⟩
    go_wp2_with fail
    go_ret2
    exact ⟨0, 4, rfl, HF.out, Below.refl _ _⟩
  | true => exact rfit_loop A n c l fr size a w hn hm hs (hide ⟨h1, h2, h3⟩)
end Go.Proofs.Ytmfklggjcggoeaa
