import Derived.Test.YtidlnecgfgnllaaDoorMPmath
import Derived.Test.YtidlnecgfgnllaaDoorMFrows
import Derived.Test.YtidlnecgfgnllaaDoorMBsame
import Derived.Test.YtidlnecgfgnllaaDoorMBwmi
import Derived.BigQuiet
import Derived.Deep.RegionHeld3
import Derived.Deep.DeepCutAuto
set_option linter.unusedVariables false
set_option linter.unusedSimpArgs false
section
/-
  The contracts of livecheck.below and livecheck.belongs, and of the reference's shape (chapter 17): whether an annotation belongs to a function. Conditions: those of the types; the annotation can be read; the table of TrailingZeros64 lies as its initialiser lays it.
-/
namespace Go.Proofs.YtidlnecgfgnllaaDoor
open Go.RowKit

section
variable {P : Int} {A1 : Option Addr} {n1 c1 : Nat} {A2 : Option Addr} {n2 c2 : Nat} {AL : Option Addr} {nL cL : Nat} {L : List (List Int)}
set_option maxHeartbeats 1000000 in
theorem below_any (A : Option Addr) (n c : Nat) (zs : List Int) (M : Nat) (w : World) (h : Hid (Lst w A n zs)) (ha : Hid (ascB zs = true)) :
    Calls Tryd.prog 46 #[.slice A n c, .int .i64 (M : Int)] w fun e w' => e = .returned (.bool (okS M zs)) ∧ Below w.heap.size w w' := by
  have hlen := h.out.len
  have hle := h.out.le
  by_cases h0 : n = 0
  · subst h0
    have hz : zs = [] := List.length_eq_zero_iff.1 hlen
    rw [hz, okS_nil]
    clear hz hlen ha h
    go_enter Tryd.func46, Tryd.ntmps46
    go_wp2_with fail
    go_ret
    exact ⟨rfl, Below.refl _ _⟩
  · obtain ⟨q, rfl⟩ : ∃ q, n = q + 1 := ⟨n - 1, by omega⟩
    obtain ⟨v, hv⟩ : ∃ v, zs[q]? = some v := ⟨_, List.getElem?_eq_getElem (by omega)⟩
    obtain ⟨b, off, rfl, hb, hc⟩ := h.out.see q (.int .i64 v) (by rw [cellsI, List.getElem?_map, hv]; rfl)
    rw [okS_last ha.out hlen hv]
    have hw : IntKind.i64.wrap ((q : Int) + 1 - 1) = (q : Int) := by rw [IntKind.wrap_i64]; omega
    clear hv hlen ha h hb
    go_enter Tryd.func46, Tryd.ntmps46
    go_wp2_with fail
    go_ret
    exact ⟨rfl, Below.refl _ _⟩
set_option maxHeartbeats 2000000 in
theorem belongs_any (w : World) (hn2 : n2 ≤ 1024) (hn1 : n1 ≤ 1024) (hL : Hid (Ann w AL nL L)) (hT : Hid (Tab w)) :
    Calls Tryd.prog 27 #[fv P A1 n1 c1 A2 n2 c2, .agg #[.slice AL nL cL]] w fun e w' => e = .returned (.bool (belB n2 n1 L)) ∧ Below w.heap.size w w' := by
  have hlen := hL.out.len
  have hle := hL.out.le
  obtain ⟨W2, hW2⟩ : ∃ W, (w.alloc (.cells #[.int .i64 P, .slice A1 n1 c1, .slice A2 n2 c2] 30)).alloc (.cells #[.slice AL nL cL] 25) = W := ⟨_, rfl⟩
  have F2 := hide (show Row W2 w.heap.size 30 [.int .i64 P, .slice A1 n1 c1, .slice A2 n2 c2] by rw [← hW2]; exact (Row.new w _ _).alloc _)
  have L2 := hide (show Row W2 (w.heap.size + 1) 25 [.slice AL nL cL] by rw [← hW2]; exact (Row.new _ _ _).at_ (by simp))
  have B2 := hide (show Below w.heap.size w W2 by rw [← hW2]; exact below2 w _ _)
  have HW2 := hide hW2
  have HLEN := hide hlen
  clear hW2 hlen
  go_enter Tryd.func27, Tryd.ntmps27
  go_upto_region 1 with (fail)
  rw [HW2.out]
  have q2 := F2.out.cell (k := 2) rfl
  have l0 := L2.out.cell (k := 0) rfl
  clear HW2
  by_cases hnn : nL = n2
  · subst hnn
    go_wp2_with fail
    clear q2 l0
    go_loopw [6, 17] (fun s6 s17 wr => ∃ k : Nat, s17 = .int .i64 (k : Int) ∧ k ≤ nL ∧ Hid (∀ i : Nat, i < k → okS n1 (L.getD i []) = true) ∧ Hid (Below W2.heap.size W2 wr)) (fun _ s17 _ => nL - (intOf s17).toNat)
    case atStart => exact ⟨0, rfl, by omega, hide (fun i hi => by omega), hide (Below.refl _ _)⟩
    case round =>
      obtain ⟨k, rfl, hk, hok, hbr⟩ := hrel
      by_cases hlt : k < nL
      · have hk0 : (0 : Int) ≤ (k : Int) := by omega
        have hkn : (k : Int) < (nL : Int) := by omega
        have BB := hide (below_call B2.out hbr.out)
        obtain ⟨b, off, A', c', rfl, hb, y0, hl, -⟩ := (hL.out.below BB.out).at_ hlt
        obtain ⟨zs, hzs⟩ : ∃ z, L.getD k [] = z := ⟨_, rfl⟩
        rw [hzs] at y0 hl
        have HL := hide hl
        have HZ := hide hzs
        have cc := top_check_any A' zs.length c' zs wr HL (hide (hT.out.below BB.out))
        have q1 := fun (V : World) (h : Below W2.heap.size W2 V) => (F2.out.call h).cell (k := 1) rfl
        clear hb hl hzs
        cases hz : ascB zs with
        | false =>
          have HF := hide (belB_not (n := nL) (M := n1) (L := L) hlt (by rw [HZ.out]; exact okS_bad hz))
          rw [hz] at cc
          clear hz HZ q1
          go_wp2_with fail
          refine cc.mono ?_
          rintro e w3 ⟨rfl, hb3⟩
          have HB3 := hide (below_call BB.out hb3)
          clear hb3 cc
          go_wp2_with fail
          go_ret
          exact ⟨by rw [HF.out]; rfl, HB3.out⟩
        | true =>
          rw [hz] at cc
          have HA := hide hz
          clear hz
          go_wp2_with fail
          refine cc.mono ?_
          rintro e w3 ⟨rfl, hb3⟩
          have HB3 := hide (below_call hbr.out hb3)
          have cb := below_any A' zs.length c' zs n1 w3 (hide (HL.out.below hb3)) HA
          have r1 := q1 w3 HB3.out
          clear hb3 cc q1
          cases hz : okS n1 zs with
          | false =>
            have HF := hide (belB_not (n := nL) (M := n1) (L := L) hlt (by rw [HZ.out]; exact hz))
            rw [hz] at cb
            clear hz HZ
            go_wp2_with fail
            refine cb.mono ?_
            rintro e w4 ⟨rfl, hb4⟩
            have HB4 := hide (below_call B2.out (below_call HB3.out hb4))
            clear hb4 cb
            go_wp2_with fail
            go_ret
            exact ⟨by rw [HF.out]; rfl, HB4.out⟩
          | true =>
            have HO := hide (show ∀ i : Nat, i < k + 1 → okS n1 (L.getD i []) = true from fun i hi => by
              by_cases e : i = k
              · rw [e, HZ.out]; exact hz
              · exact hok.out i (by omega))
            rw [hz] at cb
            clear hz HZ
            go_wp2_with fail
            refine cb.mono ?_
            rintro e w4 ⟨rfl, hb4⟩
            have HB4 := hide (below_call HB3.out hb4)
            clear hb4 cb
            go_wp2_with fail
            go_roundw
            case rel => exact ⟨k + 1, by go_num, by omega, HO, HB4⟩
            case measure => simp [intOf]; omega
      · obtain rfl : k = nL := by omega
        have HF := hide (belB_all (M := n1) HLEN.out hok.out)
        have HB := hide (below_call B2.out hbr.out)
        go_wp2_with fail
        go_ret
        exact ⟨by rw [HF.out]; rfl, HB.out⟩
  · have hne : ((nL : Int) != (n2 : Int)) = true := by rw [bne_iff_ne]; omega
    have HF := hide (belB_len (n := n2) (M := n1) (L := L) (by rw [HLEN.out]; exact hnn))
    go_wp2_with fail
    go_ret
    exact ⟨by rw [HF.out]; rfl, B2.out⟩
set_option maxHeartbeats 2000000 in
theorem shape_any (w : World) (hn2 : n2 ≤ 1024) (hn1 : n1 ≤ 1024) (hL : Hid (Ann w AL nL L)) :
    Calls Tryd.prog 29 #[fv P A1 n1 c1 A2 n2 c2, .agg #[.slice AL nL cL]] w fun e w' => e = .returned (.bool (belB n2 n1 L)) ∧ Below w.heap.size w w' := by
  have hlen := hL.out.len
  have hle := hL.out.le
  obtain ⟨W2, hW2⟩ : ∃ W, (w.alloc (.cells #[.int .i64 P, .slice A1 n1 c1, .slice A2 n2 c2] 30)).alloc (.cells #[.slice AL nL cL] 25) = W := ⟨_, rfl⟩
  have F2 := hide (show Row W2 w.heap.size 30 [.int .i64 P, .slice A1 n1 c1, .slice A2 n2 c2] by rw [← hW2]; exact (Row.new w _ _).alloc _)
  have L2 := hide (show Row W2 (w.heap.size + 1) 25 [.slice AL nL cL] by rw [← hW2]; exact (Row.new _ _ _).at_ (by simp))
  have B2 := hide (show Below w.heap.size w W2 by rw [← hW2]; exact below2 w _ _)
  have HW2 := hide hW2
  have HLEN := hide hlen
  clear hW2 hlen
  go_enter Tryd.func29, Tryd.ntmps29
  go_upto_region 1 with (fail)
  rw [HW2.out]
  have q2 := F2.out.cell (k := 2) rfl
  have l0 := L2.out.cell (k := 0) rfl
  clear HW2
  by_cases hnn : nL = n2
  · subst hnn
    go_wp2_with fail
    clear q2 l0
    go_loopw [5, 6] (fun s5 s6 wr => ∃ k : Nat, s5 = .int .i64 (k : Int) ∧ k ≤ nL ∧ Hid (∀ i : Nat, i < k → okS n1 (L.getD i []) = true) ∧ Hid (Below W2.heap.size W2 wr)) (fun s5 _ _ => nL - (intOf s5).toNat)
    case atStart => exact ⟨0, rfl, by omega, hide (fun i hi => by omega), hide (Below.refl _ _)⟩
    case round =>
      obtain ⟨k, rfl, hk, hok, hbr⟩ := hrel
      have l0 := (L2.out.call hbr.out).cell (k := 0) rfl
      by_cases hlt : k < nL
      · have hk0 : (0 : Int) ≤ (k : Int) := by omega
        have hkn : (k : Int) < (nL : Int) := by omega
        have BB := hide (below_call B2.out hbr.out)
        obtain ⟨b, off, A', c', rfl, hb, y0, hl, -⟩ := (hL.out.below BB.out).at_ hlt
        obtain ⟨zs, hzs⟩ : ∃ z, L.getD k [] = z := ⟨_, rfl⟩
        rw [hzs] at y0 hl
        have HL := hide hl
        have HZ := hide hzs
        have cc := rcheck_any A' zs.length c' zs wr HL
        clear hb hl hzs
        cases hz : ascB zs with
        | false =>
          have HF := hide (belB_not (n := nL) (M := n1) (L := L) hlt (by rw [HZ.out]; exact okS_bad hz))
          rw [hz] at cc
          clear hz HZ
          go_wp2_with fail
          refine cc.mono ?_
          rintro e w3 ⟨rfl, hb3⟩
          have HB3 := hide (below_call BB.out hb3)
          clear hb3 cc
          go_wp2_with fail
          go_ret
          exact ⟨by rw [HF.out]; rfl, HB3.out⟩
        | true =>
          rw [hz] at cc
          have HA := hide hz
          clear hz
          go_wp2_with fail
          refine cc.mono ?_
          rintro e w3 ⟨rfl, hb3⟩
          have HB3 := hide (below_call hbr.out hb3)
          have m0 := (L2.out.call HB3.out).cell (k := 0) rfl
          have f1 := (F2.out.call HB3.out).cell (k := 1) rfl
          have m1 := keep_cellB hb3 y0
          clear y0 l0 cc
          by_cases h0 : zs.length = 0
          · have hz0 : zs = [] := List.length_eq_zero_iff.1 h0
            have HO := hide (show ∀ i : Nat, i < k + 1 → okS n1 (L.getD i []) = true from fun i hi => by
              by_cases e : i = k
              · rw [e, HZ.out, hz0]; exact okS_nil
              · exact hok.out i (by omega))
            subst hz0
            have hd : decide ((0 : Int) < 0) = false := by decide
            clear HZ hb3 h0 HL HA
            go_wp2_with fail
            go_quiet (fail)
            clear m0 f1 m1
            go_wp2_with fail
            go_roundw
            case rel => exact ⟨k + 1, by go_num, by omega, HO, hide (below_draws HB3.out _)⟩
            case measure => simp [intOf]; omega
          · obtain ⟨q, hq⟩ : ∃ q, zs.length = q + 1 := ⟨zs.length - 1, by omega⟩
            obtain ⟨v, hv⟩ : ∃ v, zs[q]? = some v := ⟨_, List.getElem?_eq_getElem (by omega)⟩
            obtain ⟨b', off', rfl, hb', hc⟩ := (HL.out.below hb3).see q (.int .i64 v) (by rw [cellsI, List.getElem?_map, hv]; rfl)
            have HE := hide (okS_last (M := n1) HA.out hq hv)
            have hle2 := HL.out.le
            rw [hq] at m1 hle2 ⊢
            have hw : IntKind.i64.wrap ((q : Int) + 1 - 1) = (q : Int) := by rw [IntKind.wrap_i64]; omega
            have hd : decide ((0 : Int) < (q : Int) + 1) = true := by rw [decide_eq_true_iff]; omega
            clear hv hb' hb3 h0 hq HL HA
            by_cases hM : v < (n1 : Int)
            · have HO := hide (show ∀ i : Nat, i < k + 1 → okS n1 (L.getD i []) = true from fun i hi => by
                by_cases e : i = k
                · rw [e, HZ.out, HE.out]; exact decide_eq_true hM
                · exact hok.out i (by omega))
              have hd2 : decide ((n1 : Int) ≤ v) = false := by rw [decide_eq_false_iff_not]; omega
              clear HZ HE
              go_wp2_with fail
              go_quiet (fail)
              clear m0 f1 m1
              go_wp2_with fail
              go_roundw
              case rel => exact ⟨k + 1, by go_num, by omega, HO, hide (below_draws HB3.out _)⟩
              case measure => simp [intOf]; omega
            · have HF := hide (belB_not (n := nL) (M := n1) (L := L) hlt (by rw [HZ.out, HE.out]; exact decide_eq_false hM))
              have HB4 := hide (below_call B2.out HB3.out)
              have hd2 : decide ((n1 : Int) ≤ v) = true := by rw [decide_eq_true_iff]; omega
              clear HZ HE
              go_wp2_with fail
              go_quiet (fail)
              clear m0 f1 m1
              go_wp2_with fail
              go_ret
              exact ⟨by rw [HF.out]; rfl, below_draws HB4.out _⟩
      · obtain rfl : k = nL := by omega
        have HF := hide (belB_all (M := n1) HLEN.out hok.out)
        have HB := hide (below_call B2.out hbr.out)
        go_wp2_with fail
        go_ret
        exact ⟨by rw [HF.out]; rfl, HB.out⟩
  · have hne : ((nL : Int) != (n2 : Int)) = true := by rw [bne_iff_ne]; omega
    have HF := hide (belB_len (n := n2) (M := n1) (L := L) (by rw [HLEN.out]; exact hnn))
    go_wp2_with fail
    go_ret
    exact ⟨by rw [HF.out]; rfl, B2.out⟩
end
end Go.Proofs.YtidlnecgfgnllaaDoor
end
