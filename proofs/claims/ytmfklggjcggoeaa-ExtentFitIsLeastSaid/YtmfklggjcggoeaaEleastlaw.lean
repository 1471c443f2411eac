/-
  The walk of the law ExtentFitIsLeast: for all codes it returns true, and what was in memory before the call is as it was. Conditions: those of the types.
-/
import Derived.Test.YtmfklggjcggoeaaEfitlaw
namespace Go.Proofs.Ytmfklggjcggoeaa
open Go.RowKit

theorem shift_five (v : Int) (h0 : 0 ≤ v) (h1 : v < 5) : ∃ p : Int, IntKind.i64.wrap (2 ^ v.toNat) = p ∧ 1 ≤ p ∧ p ≤ 16 ∧ powB p = true := by
  rcases (show v = 0 ∨ v = 1 ∨ v = 2 ∨ v = 3 ∨ v = 4 by omega) with rfl | rfl | rfl | rfl | rfl
  · exact ⟨1, by rw [IntKind.wrap_i64]; decide, by omega, by omega, by decide⟩
  · exact ⟨2, by rw [IntKind.wrap_i64]; decide, by omega, by omega, by decide⟩
  · exact ⟨4, by rw [IntKind.wrap_i64]; decide, by omega, by omega, by decide⟩
  · exact ⟨8, by rw [IntKind.wrap_i64]; decide, by omega, by omega, by decide⟩
  · exact ⟨16, by rw [IntKind.wrap_i64]; decide, by omega, by omega, by decide⟩
/-- In a frame there is always an offset that fits. -/
theorem fits_frame {l : List (Int × Int)} {fr size a : Int} (hl : ∀ u ∈ l, frameB u.1 u.2 = true) (f0 : 0 ≤ fr) (f1 : fr < 40) (s0 : 1 ≤ size) (s1 : size < 17) (a0 : 1 ≤ a) (a1 : a ≤ 16) : Fits l fr size a (upM 100 a) := by
  have hb := upM_b 100 (show 0 < a by omega)
  refine ⟨by omega, upM_dvd _ _, by omega, fun u hu => ?_⟩
  have := hl u hu
  simp only [frameB, decide_eq_true_eq] at this
  rw [Bool.eq_false_iff]
  intro h
  rw [ovlB_iff] at h
  omega
theorem frame_args {l : List (Int × Int)} {fr size a : Int} (hl : ∀ u ∈ l, frameB u.1 u.2 = true) (f0 : 0 ≤ fr) (f1 : fr < 40) (s0 : 1 ≤ size) (s1 : size < 17) (ha : powB a = true) : fitArgs l fr size a = true := by
  unfold fitArgs
  rw [bndB_iff.2 (by omega), bndB_iff.2 (by omega), ha]
  simp only [Bool.and_true, Bool.true_and]
  rw [List.all_eq_true]
  intro u hu
  have := hl u hu
  simp only [frameB, decide_eq_true_eq] at this
  exact rightB_iff.2 (by omega)
/-- Whether a place is free, as the law computes it over the first i intervals. -/
def freeV (l : List (Int × Int)) (size a k : Int) (i : Nat) : Bool := decide (k % a = 0) && (l.take i).all fun u => !ovlB u.1 u.2 k size
theorem freeV_succ {l : List (Int × Int)} {size a k : Int} {i : Nat} (hi : i < l.length) : freeV l size a k (i + 1) = (freeV l size a k i && !ovlB l[i].1 l[i].2 k size) := by
  unfold freeV
  rw [take_snoc' hi, List.all_append]
  simp [Bool.and_assoc]
theorem freeV_end {l : List (Int × Int)} {fr size a k at_ : Int} (ha : 1 ≤ a) (hF : Fits l fr size a at_) (hl : ∀ y, Fits l fr size a y → at_ ≤ y) (h0 : fr ≤ k) (h1 : k ≤ at_) : freeV l size a k l.length = decide (k = at_) := by
  unfold freeV
  rw [List.take_of_length_le (Nat.le_refl _), Bool.eq_iff_iff]
  simp only [Bool.and_eq_true, decide_eq_true_eq, List.all_eq_true]
  constructor
  · rintro ⟨q1, q2⟩
    have := hl k ⟨h0, Int.dvd_of_emod_eq_zero q1, by have := hF.2.2.1; omega, fun u hu => by have := q2 u hu; simpa using this⟩
    omega
  · rintro rfl
    exact ⟨Int.emod_eq_zero_of_dvd hF.2.1, fun u hu => by rw [hF.2.2.2 u hu]; rfl⟩

set_option maxRecDepth 100000 in
set_option maxHeartbeats 4000000 in
theorem leastlaw_walk (A' : Option Addr) (n' c' : Nat) (zs : List Int) (w : World)
    (hA' : A' = none → c' = 0) (hn' : zs.length = n') (hm' : n' ≤ 9223372036854775807) (hs' : Sees w w.heap.size A' (cellsU8 zs)) (hz' : ∀ z ∈ zs, 0 ≤ z ∧ z ≤ 255) (hnc' : n' ≤ c') :
    Calls Try.prog 8 #[.slice A' n' c'] w fun e w' => e = .returned (.bool true) ∧ Below w.heap.size w w' := by
  have cnew := new_any A' n' c' zs 60 w (hide hA') (hide hn') hnc' hm' (by omega) (hide hs') (hide hz')
  clear hA' hn' hs' hz'
  go_enter Try.func8, Try.ntmps8
  go_wp2_with fail
  refine (awake_any _).mono ?_
  rintro e w' ⟨rfl, rfl⟩
  go_wp2_with fail
  refine cnew.mono ?_
  rintro e w1 ⟨rfl, hC1, hb1⟩
  have hg1 := hC1.lt
  have HC1 := hide hC1
  have HB1 := hide hb1
  clear hC1 hb1 cnew
  go_wp2_with fail
  refine (used_any w.heap.size w1 HC1).mono ?_
  rintro e w2 ⟨A1, c1, l, rfl, hA1, ho1, hl1, hr1, hC2, hG2⟩
  have HO1 := hide ho1
  have HA1 := hide hA1
  have HR1 := hide hr1
  have HC2 := hide hC2
  have HG2 := hide hG2
  clear ho1 hC2 hG2 hA1 hr1
  go_wp2_with fail
  go_cut [5, 6, 7] (fun va vb vc wx => ∃ p q r : Int, va = .int .i64 p ∧ vb = .int .i64 q ∧ vc = .int .i64 r ∧ 0 ≤ p ∧ p < 40 ∧ 1 ≤ q ∧ q < 17 ∧ 1 ≤ r ∧ r ≤ 16 ∧ Hid (powB r = true) ∧ Hid (w2.grownBy wx (some w.heap.size)))
  case first =>
    have hcd := HC2.out.drew
    go_region_with (first
      | (go_at_call 23; (with_reducible refine (next_any w.heap.size 40 _ (hide hcd) (by omega) (by omega)).mono ?_); rintro e wa ⟨p, rfl, p0, p1, hCa, hGa, hza⟩; clear hza)
      | (go_at_call 23; (with_reducible refine (next_any w.heap.size 16 _ (hide hCa) (by omega) (by omega)).mono ?_); rintro e wb ⟨q, rfl, q0, q1, hCb, hGb, hzb⟩; clear hzb)
      | (go_at_call 23; (with_reducible refine (next_any w.heap.size 5 _ (hide hCb) (by omega) (by omega)).mono ?_); rintro e wd ⟨r, rfl, r0, r1, hCd, hGd, hzd⟩; clear hzd; obtain ⟨sr, hsr, sr0, sr1, hsp⟩ := shift_five r r0 r1; have HSP := hide hsp; clear hsp))
    all_goals
      have hG3 := hide (((grown_draws (World.grownBy.refl w2 (some w.heap.size)) 1).trans hGa).trans (hGb.trans hGd))
      clear hGa hGb hGd hCa hCb hCd hcd
      go_wp2_with fail
      go_meet
      exact ⟨p, 1 + q, sr, rfl, congrArg (Value.int .i64) (wrap_i64 _ (by omega) (by omega)), by first | rfl | exact congrArg (Value.int .i64) hsr, p0, p1, by omega, by omega, sr0, sr1, HSP, hG3⟩
  case rest =>
    obtain ⟨fr, size, a, rfl, rfl, rfl, f0, f1, s0, s1, a0, a1, hpow, hG⟩ := hcut
    have ho := own_drawn HO1.out hg1 hG.out
    have HG3 := hide (HG2.out.trans hG.out)
    have HB3 := hide (below_grown HB1.out HG3.out (Nat.le_refl _) HB1.out.size)
    have S := hide (Sees.ownN ho)
    have hle := own_le ho
    obtain ⟨n, hnl⟩ : ∃ n, n = l.length := ⟨_, rfl⟩
    rw [← hnl] at hle hl1 ⊢
    have hn := hide hnl.symm
    have HT := hide (frame_args HR1.out f0 f1 s0 s1 hpow.out)
    have HX := hide (fits_frame (a := a) HR1.out f0 f1 s0 s1 a0 a1)
    clear HO1 HG2 hG ho HC2 HG3 hnl HR1
    go_wp2_with fail
    refine (fit_any A1 n c1 l fr size a _ HA1 hn hle (by omega) S).mono ?_
    rintro e w4 ⟨at_, x1, rfl, hf, hb4⟩
    have HB4 := hide (below_call HB3.out hb4)
    have S4 := hide ((S.out.below hb4).more hb4.size)
    have hres : x1 = 0 ∧ Fits l fr size a at_ ∧ ∀ y, Fits l fr size a y → at_ ≤ y := by
      rcases hf with ⟨h1, _⟩ | ⟨_, ⟨h1, h2, h3⟩ | ⟨h1, _⟩⟩
      · rw [HT.out] at h1; cases h1
      · exact ⟨h3, h1, h2⟩
      · exact absurd HX.out (h1 _)
    obtain ⟨rfl, hF, hL⟩ := hres
    have HF := hide hF
    have HL := hide hL
    have t0 := hF.1
    have t1 := hL _ HX.out
    have t2 := (upM_b 100 (show 0 < a by omega)).2
    have t3 : at_ ≤ 1000 := by omega
    have hz : (at_ % a != 0) = false := by simpa using Int.emod_eq_zero_of_dvd hF.2.1
    have haz : (a == 0) = false := by simp; omega
    clear hf hb4 hF hL t1 t2 HX HT S
    go_wp2_with fail
    clear hz
    go_loopw [10] (fun kv wr => ∃ k : Int, kv = .int .i64 k ∧ fr ≤ k ∧ k ≤ at_ + 1 ∧ Hid (Below w4.heap.size w4 wr)) (fun kv _ => (at_ + 1 - intOf kv).toNat)
    case atStart => exact ⟨fr, rfl, by omega, by omega, hide (Below.refl _ _)⟩
    case round =>
      obtain ⟨k, rfl, hk0, hk1, hb⟩ := hrel
      by_cases hlt : k ≤ at_
      · obtain ⟨z, hzk⟩ : ∃ z, (k % a == 0) = z := ⟨_, rfl⟩
        have HZ : Hid (freeV l size a k 0 = z) := by
          show freeV l size a k 0 = z
          rw [← hzk]
          simp [freeV]
          by_cases h : k % a = 0 <;> simp [h]
        have HE := hide (freeV_end (l := l) (k := k) a0 HF.out HL.out hk0 hlt)
        have hd : decide (k ≤ at_) = true := decide_eq_true hlt
        have kz : 0 ≤ k := by omega
        go_wp2_with fail
        clear hzk hd
        obtain ⟨wo, ewo⟩ : ∃ wo : World, wo = wr := ⟨_, rfl⟩
        rw [← ewo] at hb ⊢
        clear ewo
        go_loopw [11, 12] (fun fv iv wr => ∃ (i : Nat) (f : Bool), i ≤ n ∧ fv = .bool f ∧ iv = .int .i64 i ∧ Hid (freeV l size a k i = f) ∧ Hid (Below w4.heap.size w4 wr)) (fun _ iv _ => n - (intOf iv).toNat)
        case atStart => exact ⟨0, z, by omega, rfl, rfl, HZ, hb⟩
        case round =>
          obtain ⟨i, f, hi, rfl, rfl, hf, hb⟩ := hrel
          by_cases hlti : i < n
          · have hltz : (i : Int) < (n : Int) := by omega
            have hiz : (0 : Int) ≤ (i : Int) := by omega
            have hil : i < l.length := by have := hn.out; omega
            obtain ⟨b, off, rfl, hbB, c0, c1⟩ := pair_at (S4.out.below hb.out) hil
            have co := overlap_any l[i].1 l[i].2 k size
            have HS := hide (freeV_succ (l := l) (size := size) (a := a) (k := k) hil)
            obtain ⟨v, hv⟩ : ∃ v, ovlB l[i].1 l[i].2 k size = v := ⟨_, rfl⟩
            rw [hv] at co HS
            obtain ⟨o, ho⟩ : ∃ o, l[i].1 = o := ⟨_, rfl⟩
            obtain ⟨t, ht⟩ : ∃ t, l[i].2 = t := ⟨_, rfl⟩
            rw [ho] at c0 co
            rw [ht] at c1 co
            clear hv ho ht
            cases f with
            | false =>
              have HS' := hide (show freeV l size a k (i + 1) = false by rw [HS.out, hf.out]; rfl)
              go_wp2_with fail
              go_roundw
              case rel => exact ⟨i + 1, false, by omega, rfl, by go_num, HS', hb⟩
              case measure => simp [intOf]; omega
            | true =>
              have HS' := hide (show freeV l size a k (i + 1) = !v by rw [HS.out, hf.out]; rfl)
              go_wp2_with fail
              refine (co _).mono ?_
              rintro e w5 ⟨rfl, hb5⟩
              have HB := hide (below_call hb.out hb5)
              clear hb5 c0 c1 co
              go_wp2_with fail
              go_roundw
              case rel => exact ⟨i + 1, !v, by omega, rfl, by go_num, HS', HB⟩
              case measure => simp [intOf]; omega
          · obtain rfl : i = n := by omega
            have hfe : f = decide (k = at_) := by rw [← hf.out, ← HE.out, hn.out]
            clear hf HE HZ
            by_cases hka : k = at_
            · have hf1 : f = true := by rw [hfe]; simp [hka]
              clear hfe
              subst hf1
              have hke : (k == at_) = true := by simpa using hka
              clear hka
              go_wp2_with fail
              go_roundw
              case rel => exact ⟨k + 1, rfl, by omega, by omega, hb⟩
              case measure => simp [intOf]; omega
            · have hf1 : f = false := by rw [hfe]; simp [hka]
              clear hfe
              subst hf1
              have hke : (k == at_) = false := by simpa using hka
              have hka' := hide hka
              clear hka
              go_wp2_with fail
              go_roundw
              case rel => exact ⟨k + 1, rfl, by omega, by omega, hb⟩
              case measure => simp [intOf]; omega
      · go_wp2_with fail
        go_ret
        exact ⟨rfl, below_call HB4.out hb.out⟩
end Go.Proofs.Ytmfklggjcggoeaa
