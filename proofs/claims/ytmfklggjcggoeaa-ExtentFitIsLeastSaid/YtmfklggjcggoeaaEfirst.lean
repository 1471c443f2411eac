/-
  The contract of extent.firstFit: over intervals in ascending order of their offsets it gives the least offset that fits, or the error. Conditions: right arguments.
-/
import Derived.Test.YtmfklggjcggoeaaEint
import Derived.Test.YtmfklggjcggoeaaEsort
namespace Go.Proofs.Ytmfklggjcggoeaa
open Go.RowKit

theorem IsFit.found {us : List (Int × Int)} {fr size a x : Int} (ha : fitArgs us fr size a = true) (h : Fits us fr size a x ∧ ∀ y, Fits us fr size a y → x ≤ y) : IsFit us fr size a x 0 := .inr ⟨ha, .inl ⟨h.1, h.2, rfl⟩⟩
theorem IsFit.not {us : List (Int × Int)} {fr size a : Int} (ha : fitArgs us fr size a = true) (h : ∀ y, ¬ Fits us fr size a y) : IsFit us fr size a 0 9 := .inr ⟨ha, .inr ⟨h, rfl, rfl⟩⟩
theorem take_mem {l : List (Int × Int)} {k : Nat} (hk : k < l.length) (hs : Ascends l) : ∀ v ∈ l.take k, v.1 ≤ l[k].1 := by
  intro v hv
  obtain ⟨i, hi, rfl⟩ := List.getElem_of_mem hv
  have hi' : i < k := by simp at hi; omega
  rw [List.getElem_take]
  exact hs i k (by omega) hk hi'
theorem take_snoc' {l : List (Int × Int)} {k : Nat} (hk : k < l.length) : l.take (k + 1) = l.take k ++ [l[k]] := by
  rw [List.take_add_one, List.getElem?_eq_getElem hk]; rfl
theorem args_right {us : List (Int × Int)} {fr size a : Int} (h : fitArgs us fr size a = true) : bndB fr = true ∧ bndB size = true ∧ powB a = true ∧ ∀ u ∈ us, rightB u.1 u.2 = true := by
  simp only [fitArgs, Bool.and_eq_true, List.all_eq_true] at h
  exact ⟨h.1.1.1, h.1.1.2, h.1.2, h.2⟩

def FitPost (l : List (Int × Int)) (fr size a : Int) (w : World) (e : Ending) (w' : World) : Prop := ∃ v x : Int, e = .returned (.tuple #[.int .i64 v, .int .i64 x]) ∧ IsFit l fr size a v x ∧ Below w.heap.size w w'

set_option maxRecDepth 100000 in
set_option maxHeartbeats 2000000 in
theorem first_any (A : Option Addr) (n c : Nat) (l : List (Int × Int)) (fr size a : Int) (w : World) (hn : Hid (l.length = n)) (hm : n ≤ 1099511627776) (hs : Hid (Sees w w.heap.size A (pcells l))) (hsort : Hid (Ascends l)) (hargs : Hid (fitArgs l fr size a = true)) :
    Calls Try.prog 47 #[.slice A n c, .int .i64 fr, .int .i64 size, .int .i64 a] w (FitPost l fr size a w) := by
  obtain ⟨h1, h2, h3, h4⟩ := args_right hargs.out
  obtain ⟨f0, f1⟩ := bndB_iff.1 h1
  obtain ⟨s0, s1⟩ := bndB_iff.1 h2
  obtain ⟨a0, a1⟩ := powB_b h3
  have H1 := hide h1
  have H2 := hide h2
  have H3 := hide h3
  have H4 := hide h4
  have cu := up_any fr a
  clear h1 h2 h3 h4
  by_cases hu : upM fr a ≤ 2147483647
  · obtain ⟨e1, e2⟩ := up_ok H1.out H3.out hu
    rw [e1, e2] at cu
    have HP := hide (Pass.start (us := l) (size := size) (show 0 < a by omega) hu)
    obtain ⟨x, hx⟩ : ∃ x, upM fr a = x := ⟨_, rfl⟩
    rw [hx] at cu HP hu
    clear e1 e2 hx
    go_enter Try.func47, Try.ntmps47
    go_wp2_with fail
    refine (cu _).mono ?_
    rintro e w' ⟨rfl, rfl⟩
    clear cu
    go_wp2_with fail
    go_loopw [10, 11, 25] (fun av ev iv wr => ∃ (k : Nat) (x : Int), k ≤ n ∧ av = .int .i64 x ∧ ev = .int .i64 0 ∧ iv = .int .i64 k ∧ Hid (Pass l (l.take k) fr size a x) ∧ Hid (Below w.heap.size w wr)) (fun _ _ iv _ => n - (intOf iv).toNat)
    case atStart => exact ⟨0, x, by omega, rfl, rfl, rfl, HP, hide (Below.refl _ _)⟩
    case round =>
      obtain ⟨k, x, hk, rfl, rfl, rfl, hp, hb⟩ := hrel
      by_cases hlt : k < n
      · have hltz : (k : Int) < (n : Int) := by omega
        have hkz : (0 : Int) ≤ (k : Int) := by omega
        have hkl : k < l.length := by have := hn.out; omega
        obtain ⟨b, off, rfl, hbB, c0, c1⟩ := pair_at (hs.out.below hb.out) hkl
        have hmem : l[k] ∈ l := List.getElem_mem hkl
        have HT := hide (take_snoc' hkl)
        have HD := hide (take_mem hkl hsort.out)
        have HM := hide hmem
        have hright := rightB_iff.1 (H4.out _ hmem)
        obtain ⟨u, hu'⟩ : ∃ u, l[k] = u := ⟨_, rfl⟩
        rw [hu'] at HT HD HM c0 c1 hright
        obtain ⟨o, s⟩ := u
        obtain ⟨r0, r1, r2⟩ := hright
        have hov : ∃ b, ovlB x size o s = b := ⟨_, rfl⟩
        obtain ⟨ob, hov⟩ := hov
        have co := overlap_any x size o s
        rw [hov] at co
        have hov' : ovlB o s x size = ob := by rw [ovlB_comm]; exact hov
        have HO := hide hov'
        clear hov hov' hu' hmem
        obtain ⟨W, eW⟩ : ∃ W, wr.alloc (.cells #[.int .i64 o, .int .i64 s] 32) = W := ⟨_, rfl⟩
        have hRow : Row W wr.heap.size 32 [.int .i64 o, .int .i64 s] := by rw [← eW]; exact Row.new wr _ _
        have hBW := hide (show Below wr.heap.size wr W by rw [← eW]; exact below1 _ _)
        have d0 := hRow.cell (k := 0) rfl
        have d1 := hRow.cell (k := 1) rfl
        clear hRow
        cases ob with
        | false =>
          go_wp2_with fail
          clear eW
          refine (co _).mono ?_
          rintro e w2 ⟨rfl, hb2⟩
          have HB := hide (below_call (below_call hb.out hBW.out) hb2)
          have HP' := hide (hp.out.skip (u := (o, s)) HO.out)
          rw [← HT.out] at HP'
          clear hb2 c0 c1 d0 d1
          go_wp2_with fail
          go_roundw
          case rel => exact ⟨k + 1, x, by omega, rfl, rfl, by go_num, HP', HB⟩
          case measure => simp [intOf]; omega
        | true =>
          have ce := end_any o s
          have cu := up_any (o + s) a
          have hbe : bndB (o + s) = true := bndB_iff.2 (by omega)
          by_cases hue : upM (o + s) a ≤ 2147483647
          · obtain ⟨e1, e2⟩ := up_ok hbe H3.out hue
            have HP' := hide (hp.out.move (u := (o, s)) (by omega) HM.out HO.out HD.out hue)
            rw [← HT.out] at HP'
            rw [e1, e2] at cu
            obtain ⟨y, hy⟩ : ∃ y, upM (o + s) a = y := ⟨_, rfl⟩
            have HP2 : Hid (Pass l (l.take (k + 1)) fr size a y) := by rw [← hy]; exact HP'
            rw [hy] at cu
            clear e1 e2 hbe hy hue HP'
            go_wp2_with fail
            clear eW
            refine (co _).mono ?_
            rintro e w2 ⟨rfl, hb2⟩
            have g0 := keep_cellB hb2 d0
            have g1 := keep_cellB hb2 d1
            have HB := hide (below_call (below_call hb.out hBW.out) hb2)
            clear hb2 c0 c1 d0 d1
            go_wp2_with fail
            refine (ce _ (by omega) (by omega)).mono ?_
            rintro e w3 ⟨rfl, hb3⟩
            have HB3 := hide (below_call HB.out hb3)
            clear hb3 g0 g1
            go_wp2_with fail
            refine (cu _).mono ?_
            rintro e w' ⟨rfl, rfl⟩
            go_wp2_with fail
            go_roundw
            case rel => exact ⟨k + 1, y, by omega, rfl, rfl, by go_num, HP2, HB3⟩
            case measure => simp [intOf]; omega
          · obtain ⟨e1, e2⟩ := up_great hbe H3.out (by omega)
            have HF := hide (IsFit.not hargs.out (hp.out.stuck (u := (o, s)) (by omega) s0 HM.out HO.out (show 2147483647 < upM (o + s) a by omega)))
            rw [e1, e2] at cu
            clear e1 e2 hbe hue
            go_wp2_with fail
            clear eW
            refine (co _).mono ?_
            rintro e w2 ⟨rfl, hb2⟩
            have g0 := keep_cellB hb2 d0
            have g1 := keep_cellB hb2 d1
            have HB := hide (below_call (below_call hb.out hBW.out) hb2)
            clear hb2 c0 c1 d0 d1
            go_wp2_with fail
            refine (ce _ (by omega) (by omega)).mono ?_
            rintro e w3 ⟨rfl, hb3⟩
            have HB3 := hide (below_call HB.out hb3)
            clear hb3 g0 g1
            go_wp2_with fail
            refine (cu _).mono ?_
            rintro e w' ⟨rfl, rfl⟩
            go_wp2_with fail
            go_ret2
            exact ⟨0, 9, rfl, HF.out, HB3.out⟩
      · obtain rfl : k = n := by omega
        have htake : l.take k = l := List.take_of_length_le (by have := hn.out; omega)
        have hpp := hp.out
        rw [htake] at hpp
        have hx0 := hpp.1
        have hx1 := hpp.2.2.1
        have ca := add_any x size
        by_cases hsum : x + size ≤ 2147483647
        · obtain ⟨e1, e2⟩ := add_ok (x := x) (y := size) (bndB_iff.2 (by omega)) H2.out hsum
          rw [e1, e2] at ca
          have HF := hide (IsFit.found hargs.out (hpp.found (fun u hu => hu) hsum))
          clear e1 e2 hpp htake hx0 hx1
          go_wp2_with fail
          refine (ca _).mono ?_
          rintro e w' ⟨rfl, rfl⟩
          go_wp2_with fail
          go_ret2
          exact ⟨x, 0, rfl, HF.out, hb.out⟩
        · obtain ⟨e1, e2⟩ := add_great (x := x) (y := size) (bndB_iff.2 (by omega)) H2.out (by omega)
          rw [e1, e2] at ca
          have HF := hide (IsFit.not hargs.out (hpp.full (by omega)))
          clear e1 e2 hpp htake hx0 hx1
          go_wp2_with fail
          refine (ca _).mono ?_
          rintro e w' ⟨rfl, rfl⟩
          go_wp2_with fail
          go_ret2
          exact ⟨0, 9, rfl, HF.out, hb.out⟩
  · obtain ⟨e1, e2⟩ := up_great H1.out H3.out (by omega)
    rw [e1, e2] at cu
    have HF := hide (IsFit.not hargs.out (Pass.none_ (us := l) (size := size) (show 0 < a by omega) s0 (by omega)))
    clear e1 e2
    go_enter Try.func47, Try.ntmps47
    go_wp2_with fail
    refine (cu _).mono ?_
    rintro e w' ⟨rfl, rfl⟩
    go_wp2_with fail
    go_ret2
    exact ⟨0, 9, rfl, HF.out, Below.refl _ _⟩
end Go.Proofs.Ytmfklggjcggoeaa
