/-
  The walk of the law ExtentFit: for all arguments it returns true, and what was in memory before the call is as it was. Conditions: those of the types.
-/
import Derived.Test.YtmfklggjcggoeaaErfit
import Derived.Test.YtmfklggjcggoeaaEuplaw
namespace Go.Proofs.Ytmfklggjcggoeaa
open Go.RowKit

/-- A list of intervals of the law's own, and its choices. -/
def LP (w1 : World) (g : Nat) (v : Value) (wx : World) : Prop :=
  ∃ (A : Option Addr) (c : Nat) (l : List (Int × Int)), v = .slice A l.length c ∧ (A = none → c = 0) ∧ wx.ownsRow w1.heap.size 32 2 v l.length (pcells l) ∧ l.length ≤ 8 ∧ Codes wx g ∧ w1.grownBy wx (some g)
theorem own_le {w : World} {base size : Nat} {e : TypeId} {A : Option Addr} {n c : Nat} {xs : List Value} (h : w.ownsRow base e size (.slice A n c) n xs) : n ≤ c := by
  rcases h.2 with ⟨he, h0⟩ | ⟨g, cap, cur, he, _, _, hnc, _⟩
  · injection he with _ _ hc; omega
  · injection he with _ _ hc; omega
theorem shift_seven (v : Int) (h0 : 0 ≤ v) (h1 : v < 7) : ∃ p : Int, wrap64 (2 ^ v.toNat) = p := ⟨_, rfl⟩

set_option maxRecDepth 100000 in
set_option maxHeartbeats 4000000 in
theorem fitlaw_few (A' : Option Addr) (n' c' : Nat) (zs : List Int) (A : Option Addr) (n c : Nat) (l : List (Int × Int)) (fr size a : Int) (w : World) (hn : Hid (l.length = n)) (hA : Hid (A = none → c = 0)) (hnc : n ≤ c) (hs : Hid (Sees w w.heap.size A (pcells l))) (hf : n ≤ 50)
    (hA' : Hid (A' = none → c' = 0)) (hn' : Hid (zs.length = n')) (hnc' : n' ≤ c') (hm' : n' ≤ 9223372036854775807) (hs' : Hid (Sees w w.heap.size A' (cellsU8 zs))) (hz' : Hid (∀ z ∈ zs, 0 ≤ z ∧ z ≤ 255)) :
    Calls Try.prog 7 #[.slice A' n' c', .slice A n c, .int .i64 fr, .int .i64 size, .int .i64 a] w fun e w' => e = .returned (.bool true) ∧ Below w.heap.size w w' := by
  obtain ⟨i0, hi, hz0, hz1, hz2⟩ := info_parts Try.info32
  go_enter Try.func7, Try.ntmps7
  go_wp2_with fail
  refine (awake_any _).mono ?_
  rintro e w' ⟨rfl, rfl⟩
  go_wp2_with fail
  refine (new_any A' n' c' zs 60 w hA' hn' hnc' hm' (by omega) hs' hz').mono ?_
  rintro e w1 ⟨rfl, hC1, hb1⟩
  have hg1 := hC1.lt
  have HC1 := hide hC1
  have HB1 := hide hb1
  clear hC1 hb1
  go_wp2_with fail
  refine (used_any w.heap.size w1 HC1).mono ?_
  rintro e w2 ⟨A1, c1, l1, rfl, hA1, ho1, hl1, _, hC2, hG2⟩
  have HO1 := hide ho1
  have HA1 := hide hA1
  have HC2 := hide hC2
  have HG2 := hide hG2
  have HB2 := hide (below_grown HB1.out hG2 (Nat.le_refl _) HB1.out.size)
  have hs2 := hide ((hs.out.below HB2.out).more HB2.out.size)
  clear ho1 hC2 hG2 hA1
  go_wp2_with fail
  refine (fit_any A n c l fr size a w2 hA hn hnc (by omega) hs2).mono ?_
  rintro e w3 ⟨v1, x1, rfl, hf1, hb3⟩
  have HF1 := hide hf1
  have HB23 := hide hb3
  have hs3 := hide ((hs2.out.below hb3).more hb3.size)
  clear hf1 hb3
  go_wp2_with fail
  refine (rfit_any A n c l fr size a w3 hn (by omega) hs3).mono ?_
  rintro e w4 ⟨v2, x2, rfl, hf2, hb4⟩
  obtain ⟨rfl, rfl⟩ := HF1.out.one hf2
  have HB24 := hide (below_call HB23.out hb4)
  have HC4 := hide (HC2.out.below HB24.out)
  have HO4 := hide (own_below HO1.out HB24.out)
  have HG4 := hide (HG2.out.trans (grown_below HB24.out _))
  clear HF1 hf2 hb4 HB23 HC2 HO1 hs2 hs3
  go_wp2_with fail
  refine (next_any w.heap.size 6 w4 HC4 (by omega) (by omega)).mono ?_
  rintro e w5 ⟨v6, rfl, v60, v61, hC5, hG5, hz5⟩
  have HC5 := hide hC5
  have HO5 := hide (own_drawn HO4.out hg1 hG5)
  have HG5 := hide (HG4.out.trans hG5)
  clear hC5 hG5 hz5 HC4 HO4 HG4 HB24
  go_upto_if 60 with (fail)
  go_cut [12] (fun v wx => Hid (LP w1 w.heap.size v wx))
  case first =>
    by_cases h5 : v6 = 5
    · subst h5
      go_wp2_with fail
      refine (next_any w.heap.size 80 _ HC5 (by omega) (by omega)).mono ?_
      rintro e w6 ⟨p, rfl, p0, p1, hC6, hG6, hz6⟩
      have HC6 := hide hC6
      have HO6 := hide (own_drawn HO5.out hg1 hG6)
      have HG6 := hide (HG5.out.trans hG6)
      clear hC6 hG6 hz6
      go_wp2_with fail
      refine (next_any w.heap.size 80 _ HC6 (by omega) (by omega)).mono ?_
      rintro e w7 ⟨q, rfl, q0, q1, hC7, hG7, hz7⟩
      have HC7 := hide hC7
      have ho7 := own_drawn HO6.out hg1 hG7
      have HG7 := hide (HG6.out.trans hG7)
      have hbs : w1.heap.size ≤ w7.heap.size := HG7.out.size
      clear hC7 hG7 hz7 HO6 HG6 HC6
      go_wp2_with (at_builtin; refine wpList_append_own _ rfl (.tmp 61) (.tmp 68) 48 rfl w1.heap.size 32 i0 (.agg #[.int .i64 0, .int .i64 0]) 2 16 Try.underlying48 hi hz0 hz1 hz2 rfl (by decide) _ l1.length (pcells l1) rfl (ho7.alloc _) ⟨w7.heap.size, 0, none⟩ 1 1 [.int .i64 (2147483647 - p), .int .i64 q] rfl rfl (two_new _ _ _ _) (two_cells _ _) (by unfold maxLen; omega) (by omega) (by simp; omega) ?_)
      intro v' w8 ho8 hg8 _
      obtain ⟨k8, l8, hk8, ek8, ho8', _, hC8, hG8⟩ := ListRel.step (ok := fun _ _ => true) (m := 8) (k := 0) (by omega) hg1 ho7 (fun _ _ => rfl) rfl HC7.out HG7.out ho8 hg8
      obtain ⟨A8, c8, rfl, hA8, _⟩ := own_form ho8'
      have hR := hide (show LP w1 w.heap.size (.slice A8 l8.length c8) w8 from ⟨A8, c8, l8, rfl, hA8, ho8', by omega, hC8, hG8⟩)
      clear ho8 hg8 ho7 ho8' hC8 hG8 ek8
      go_wp2_with fail
      go_meet
      exact hR
    · have hne : (v6 == 5) = false := by simpa using h5
      have hR := hide (show LP w1 w.heap.size (.slice A1 l1.length c1) w5 from ⟨A1, c1, l1, rfl, HA1.out, HO5.out, by omega, HC5.out, HG5.out⟩)
      go_wp2_with fail
      go_meet
      exact hR
  case rest =>
    obtain ⟨A2, c2, l2, rfl, hA2, ho2, hl2, hC, hG⟩ := hcut.out
    have HA2 := hide hA2
    have HO2 := hide ho2
    have HC := hide hC
    have HG := hide hG
    clear hcut hA2 ho2 hC hG HC5 HO5 HG5 HA1
    go_wp2_with fail
    obtain ⟨wo, rfl⟩ : ∃ wo : World, wo = wc := ⟨_, rfl⟩
    go_cut [17, 18, 19] (fun va vb vc wx => ∃ p q r : Int, va = .int .i64 p ∧ vb = .int .i64 q ∧ vc = .int .i64 r ∧ Hid (Codes wx w.heap.size) ∧ Hid (wo.grownBy wx (some w.heap.size)))
    case first =>
      have hcd := HC.out.drew
      go_region_with (first
        | (go_at_call 23; (with_reducible refine (next_any w.heap.size 40 _ (hide hcd) (by omega) (by omega)).mono ?_); rintro e wa ⟨p, rfl, p0, p1, hCa, hGa, hza⟩; clear hza)
        | (go_at_call 23; (with_reducible refine (next_any w.heap.size 17 _ (hide hCa) (by omega) (by omega)).mono ?_); rintro e wb ⟨q, rfl, q0, q1, hCb, hGb, hzb⟩; clear hzb)
        | (go_at_call 23; (with_reducible refine (next_any w.heap.size 7 _ (hide hCb) (by omega) (by omega)).mono ?_); rintro e wd ⟨r, rfl, r0, r1, hCd, hGd, hzd⟩; clear hzd; obtain ⟨sr, hsr⟩ := shift_seven r r0 r1))
      all_goals
        have hG3 := hide (((grown_draws (World.grownBy.refl wo (some w.heap.size)) 1).trans hGa).trans (hGb.trans hGd))
        have hC3 := hide hCd
        clear hGa hGb hGd hCa hCb hCd hcd
        go_wp2_with fail
        go_meet
        exact ⟨_, _, _, rfl, rfl, rfl, hC3, hG3⟩
    case rest =>
      obtain ⟨p, q, r, rfl, rfl, rfl, hC, hG⟩ := hcut
      have HO3 := hide (own_drawn HO2.out hg1 hG.out)
      have HG3 := hide (HG.out.trans hG.out)
      clear HO2 HG hG HC
      go_wp2_with fail
      refine (next_any w.heap.size 6 _ hC (by omega) (by omega)).mono ?_
      rintro e w6 ⟨v7, rfl, v70, v71, hC6, hG6, hz6⟩
      have HC6 := hide hC6
      have HO6 := hide (own_drawn HO3.out hg1 hG6)
      have HG6 := hide (HG3.out.trans hG6)
      clear hC6 hG6 hz6 HO3 HG3 hC
      go_upto_if 79 with (fail)
      go_cut [17] (fun v wx => ∃ p : Int, v = .int .i64 p ∧ Hid (Codes wx w.heap.size) ∧ Hid (w6.grownBy wx (some w.heap.size)))
      case first =>
        by_cases h5 : v7 = 5
        · subst h5
          go_wp2_with fail
          refine (next_any w.heap.size 100 _ HC6 (by omega) (by omega)).mono ?_
          rintro e w7 ⟨u, rfl, u0, u1, hC7, hG7, hz7⟩
          have HC7 := hide hC7
          have HG7 := hide hG7
          clear hC7 hG7 hz7
          go_wp2_with fail
          go_meet
          exact ⟨_, rfl, HC7, HG7⟩
        · have hne : (v7 == 5) = false := by simpa using h5
          have HR := hide (World.grownBy.refl w6 (some w.heap.size))
          go_wp2_with fail
          go_meet
          exact ⟨_, rfl, HC6, HR⟩
      case rest =>
        obtain ⟨p, rfl, hC, hG⟩ := hcut
        have ho := own_drawn HO6.out hg1 hG.out
        have HG7 := hide (HG6.out.trans hG.out)
        have HB7 := hide (below_grown HB1.out HG7.out (Nat.le_refl _) HB1.out.size)
        have S2 := hide (Sees.ownN ho)
        have hle := own_le ho
        clear HO6 HG6 hG ho HC6 hC
        go_wp2_with fail
        refine (fit_any A2 l2.length c2 l2 p q r _ HA2 (hide rfl) hle (by omega) S2).mono ?_
        rintro e wa ⟨v1, x1, rfl, hf1, hb3⟩
        have HF1 := hide hf1
        have HB8 := hide (below_call HB7.out hb3)
        have S3 := hide ((S2.out.below hb3).more hb3.size)
        clear hf1 hb3
        go_wp2_with fail
        refine (rfit_any A2 l2.length c2 l2 p q r wa (hide rfl) (by omega) S3).mono ?_
        rintro e wb ⟨v2, x2, rfl, hf2, hb4⟩
        obtain ⟨rfl, rfl⟩ := HF1.out.one hf2
        have HB9 := hide (below_call HB8.out hb4)
        clear hf2 hb4 HF1
        go_wp2_with fail
        go_ret
        exact ⟨rfl, HB9.out⟩

set_option maxHeartbeats 1000000 in
theorem fitlaw_many (A' : Option Addr) (n' c' : Nat) (A : Option Addr) (n c : Nat) (fr size a : Int) (w : World) (hf : 50 < n) (hm : n ≤ 9223372036854775807) :
    Calls Try.prog 7 #[.slice A' n' c', .slice A n c, .int .i64 fr, .int .i64 size, .int .i64 a] w fun e w' => e = .returned (.bool true) ∧ Below w.heap.size w w' := by
  go_enter Try.func7, Try.ntmps7
  go_wp2_with fail
  refine (awake_any _).mono ?_
  rintro e w' ⟨rfl, rfl⟩
  go_wp2_with fail
  go_ret
  exact ⟨ret_bool (by simp), Below.refl _ _⟩

theorem fitlaw_walk (A' : Option Addr) (n' c' : Nat) (zs : List Int) (A : Option Addr) (n c : Nat) (l : List (Int × Int)) (fr size a : Int) (w : World)
    (hA' : A' = none → c' = 0) (hn' : zs.length = n') (hm' : n' ≤ 9223372036854775807) (hs' : Sees w w.heap.size A' (cellsU8 zs)) (hz' : ∀ z ∈ zs, 0 ≤ z ∧ z ≤ 255) (hnc' : n' ≤ c')
    (hA : A = none → c = 0) (hn : l.length = n) (hm : n ≤ 9223372036854775807) (hs : Sees w w.heap.size A (pcells l)) (hnc : n ≤ c) :
    Calls Try.prog 7 #[.slice A' n' c', .slice A n c, .int .i64 fr, .int .i64 size, .int .i64 a] w fun e w' => e = .returned (.bool true) ∧ Below w.heap.size w w' := by
  by_cases h : n ≤ 50
  · exact fitlaw_few A' n' c' zs A n c l fr size a w (hide hn) (hide hA) hnc (hide hs) h (hide hA') (hide hn') hnc' hm' (hide hs') (hide hz')
  · exact fitlaw_many A' n' c' A n c fr size a w (by omega) hm
end Go.Proofs.Ytmfklggjcggoeaa
