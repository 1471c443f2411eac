import Derived.Test.YtjbgepjdohfhkaaDoorMAwk
import Derived.Test.YtjbgepjdohfhkaaDoorMAscn
import Derived.Test.YtjbgepjdohfhkaaDoorMAlst
import Derived.Test.YtjbgepjdohfhkaaDoorMLhas
set_option linter.unusedVariables false
set_option linter.unusedSimpArgs false
section
/-
  The walk of the law LivenessSolvesTheEquations: for all codes it returns true, and what was in memory before the call is as it was. Conditions: those of the types; the table of TrailingZeros64 lies as its initialiser lays it.
-/
namespace Go.Proofs.YtjbgepjdohfhkaaDoor
open Go.RowKit

set_option maxRecDepth 100000 in
set_option maxHeartbeats 4000000 in
theorem eqlaw16_walk (A0 : Option Addr) (n0 c0 : Nat) (zs : List Int) (w : World)
    (hA : Hid (A0 = none → c0 = 0)) (hn : Hid (zs.length = n0)) (hnc : n0 ≤ c0) (hm : n0 ≤ 9223372036854775807) (hs : Hid (Sees w w.heap.size A0 (cellsU8 zs))) (hz : Hid (∀ z ∈ zs, 0 ≤ z ∧ z ≤ 255)) (hT : Hid (Tab w)) :
    Calls Tryd.prog 4 #[.slice A0 n0 c0] w fun e w' => e = .returned (.bool true) ∧ Below w.heap.size w w' := by
  obtain ⟨j0, ji, jz0, jz1, jz2⟩ := info_parts infoS
  go_enter Tryd.func4, Tryd.ntmps4
  go_wp2_with fail
  refine (awake16_any w).mono ?_
  rintro e w1 ⟨rfl, hb1⟩
  have HB1 := hide hb1
  have HS1 := hide ((hs.out.below hb1).more hb1.size)
  clear hb1
  go_wp2_with fail
  refine (scene16_any A0 n0 c0 zs w1 hA hn hnc hm HS1 hz).mono ?_
  rintro e w2 ⟨P, A1, n1, c1, A2, n2, c2, f, N, L, gL, cL, vs, sp, g, lo, rfl, hH, hE, hF, hLI, hLS, hO, hCd, hgl, hwg, hb2⟩
  obtain ⟨W, hW⟩ : ∃ V, (w2.alloc (.cells #[.int .i64 P, .slice A1 n1 c1, .slice A2 n2 c2] 27)).alloc (.cells #[.slice (some ⟨gL, 0, none⟩) n2 cL] 30) = V := ⟨_, rfl⟩
  have hb3 : Below w2.heap.size w2 W := by rw [← hW]; exact below2 _ _ _
  obtain ⟨B, hB⟩ : ∃ B, w2.heap.size = B := ⟨_, rfl⟩
  have HBB := hide hB
  have RB := hide (show Row W B 27 [.int .i64 P, .slice A1 n1 c1, .slice A2 n2 c2] by rw [← hW, ← hB]; exact (Row.new w2 _ _).alloc _)
  have RL := hide (show Row W (B + 1) 30 [.slice (some ⟨gL, 0, none⟩) n2 cL] by rw [← hW, ← hB]; exact (Row.new _ _ _).at_ (by simp))
  have HCd := hide (show CdAt W A2 n2 f.code from (hH.calls hb3).cd (fnE_zero.1 hE).1)
  have hs1 : f.slots.length = n1 := hH.l1
  have hn6 : n1 ≤ 6 := by omega
  have HOK := hide (show LvOk f.code n1 by rw [← hs1]; exact lv_ok hE (by omega))
  have hlen := HCd.out.len
  have hn2 := HCd.out.few
  have HLI := hide hLI
  have HLS := hide hLS
  have HOL := hide ((hO.below hb3).ann hLI.len (by omega))
  have HW := hide hW
  have HB3 := hide (below_call (below_call HB1.out hb2) hb3)
  clear hW hb3 hb2 hO hCd hLI hLS hH hB hwg hgl HB1 HS1 hE
  go_upto_region 4 with (fail)
  rw [HW.out, HBB.out]
  clear HW HBB
  have HSI := hide (show LvIn n2 n1 (solL f.code n1) by rw [← hlen]; exact sol_in HOK.out)
  have hsl : (solL f.code n1).length = n2 := HSI.out.len
  have HFX := hide (sol_fix HOK.out)
  have HLT := hide (fun (t : Nat) (h : f.code.length * n1 ≤ t) => sol_late HOK.out h)
  have q0 := RB.out.cell (k := 0) rfl
  have q1 := RB.out.cell (k := 1) rfl
  have q2 := RB.out.cell (k := 2) rfl
  have cs := lsolve_any (P := P) (A1 := A1) (c1 := c1) (c2 := c2) W HCd HOK
  obtain ⟨sol, hsol⟩ : ∃ s, solL f.code n1 = s := ⟨_, rfl⟩
  rw [hsol] at cs hsl HSI HFX HLT HLS
  clear hsol
  go_wp2_with fail
  refine cs.mono ?_
  rintro e w4 ⟨g6, c6, v6, p6, rfl, o6, hb4⟩
  rw [hsl]
  obtain ⟨W5, hW5⟩ : ∃ V, w4.alloc (.cells #[.slice (some ⟨g6, 0, none⟩) n2 c6] 30) = V := ⟨_, rfl⟩
  have hb5 : Below w4.heap.size w4 W5 := by rw [← hW5]; exact below1 _ _
  obtain ⟨X, hX⟩ : ∃ X, w4.heap.size = X := ⟨_, rfl⟩
  have HX := hide hX
  have R6 := hide (show Row W5 X 30 [.slice (some ⟨g6, 0, none⟩) n2 c6] by rw [← hW5, ← hX]; exact Row.new w4 _ _)
  have RB5 := hide ((RB.out.call hb4).call hb5)
  have RL5 := hide ((RL.out.call hb4).call hb5)
  have HC5 := hide ((HCd.out.below hb4).below hb5)
  have O5 := hide ((o6.below hb5).ann hsl (by omega))
  have OL5 := hide ((HOL.out.below hb4).below hb5)
  have HB5 := hide (below_call (below_call HB3.out hb4) hb5)
  have HT5 := hide (hT.out.below HB5.out)
  have HW5 := hide hW5
  clear hb4 hb5 hX hW5 o6 cs q0 q1 q2 RB RL HCd HB3 HOL
  go_upto_region 5 with (fail)
  try rw [HW5.out]
  try rw [HX.out]
  clear HW5 HX
  have q0 := fun (w' : World) (hb : Below W5.heap.size W5 w') => (RB5.out.call hb).cell (k := 0) rfl
  have q1 := fun (w' : World) (hb : Below W5.heap.size W5 w') => (RB5.out.call hb).cell (k := 1) rfl
  have q2 := fun (w' : World) (hb : Below W5.heap.size W5 w') => (RB5.out.call hb).cell (k := 2) rfl
  have q6 := fun (w' : World) (hb : Below W5.heap.size W5 w') => (R6.out.call hb).cell (k := 0) rfl
  have bw0 : Below W5.heap.size W5 W5.drew := (Below.refl _ _).drew
  have SC := hide (fun (V : World) (hb : Below W5.heap.size W5 V) => (show Calls Tryd.prog 11 #[fv P A1 n1 c1 A2 n2 c2, .agg #[.slice (some ⟨g6, 0, none⟩) n2 c6]] V (LvPost sol V) by
    have q := lstep_any (P := P) (A1 := A1) (n1 := n1) (c1 := c1) (c2 := c2) (cL := c6) V (hide (HC5.out.below hb)) HOK (hide (O5.out.below hb)) HSI (hide (HT5.out.below hb))
    rwa [HFX.out] at q))
  have MC := hide (fun (V : World) (hb : Below W5.heap.size W5 V) (g' c' : Nat) (v' p' : List Value) (h : Hid (Anw V W5.heap.size g' v' p' sol)) => (show Calls Tryd.prog 10 #[.agg #[.slice (some ⟨g', 0, none⟩) n2 c'], .agg #[.slice (some ⟨g6, 0, none⟩) n2 c6]] V (fun e w' => e = .returned (.bool true) ∧ Below V.heap.size V w') by
    have q := rsame16_any (some ⟨g', 0, none⟩) n2 c' (some ⟨g6, 0, none⟩) n2 c6 sol sol V (hide (h.out.ann hsl (by omega))) (hide (O5.out.below hb))
    rwa [decide_eq_true (rfl : sol = sol)] at q))
  go_region_held3 (fun V => Below W5.heap.size W5 V) (first | exact bw0 | exact bb)
    (first
      | (go_at_call 11; with_reducible refine Calls.mono (SC.out _ bw0) ?_; intro e w7 h7; unfold LvPost at h7; obtain ⟨g7, c7, v7, p7, rfl, o7, hb7⟩ := h7; rw [hsl]; have bb := below_call bw0 hb7; have O7 := hide (o7.lower bw0.size); clear o7 hb7)
      | (go_at_call 10; with_reducible refine Calls.mono (MC.out _ bb _ _ _ _ O7) ?_; rintro e w8 ⟨rfl, hb8⟩; have bb := below_call bb hb8; clear hb8))
  all_goals
    have HB8 := hide bb
    clear bb SC MC q0 q1 q6 bw0
    have r2 := q2 _ HB8.out
    clear q2
    go_wp2_with fail
    clear r2
    go_loopw [7] (fun s7 wr => ∃ k : Nat, s7 = .int .i64 (k : Int) ∧ k ≤ n2 ∧ Hid (Below W5.heap.size W5 wr)) (fun s7 _ => n2 - (intOf s7).toNat)
    case atStart => exact ⟨0, rfl, by omega, HB8⟩
    case round =>
      obtain ⟨k, rfl, hk, hbr⟩ := hrel
      have r2 := (RB5.out.call hbr.out).cell (k := 2) rfl
      by_cases hlt : k < n2
      · have hk0 : (0 : Int) ≤ (k : Int) := by omega
        have hkn : (k : Int) < (n2 : Int) := by omega
        obtain ⟨b1, o1, Aa, ca, hAa, -, z0, hl1, -⟩ := (O5.out.below hbr.out).at_ hlt
        injection hAa with hAa
        injection hAa with hAa1 hAa2
        subst hAa1 hAa2
        obtain ⟨b2, o2, Ab, cb, hAb, -, z1, hl2, -⟩ := (OL5.out.below hbr.out).at_ hlt
        injection hAb with hAb
        injection hAb with hAb1 hAb2
        subst hAb1 hAb2
        have hsub := HLS.out k
        have hasc := HSI.out.asc k
        obtain ⟨za, hza⟩ : ∃ z, sol.getD k [] = z := ⟨_, rfl⟩
        obtain ⟨zb, hzb⟩ : ∃ z, L.getD k [] = z := ⟨_, rfl⟩
        rw [hza] at z0 hl1 hsub hasc
        rw [hzb] at z1 hl2 hsub
        rw [Nat.zero_add] at z0 z1
        have C1 := hide (fun p : After wr => (s_within ca cb (v := true) (hide (hl1.below p.b)) (hide (hl2.below p.b)) (hide hasc) (hide (decide_eq_true (minus_nil.2 hsub))) : Calls Tryd.prog 16 #[.slice Aa za.length ca, .slice Ab zb.length cb] p.w fun e w' => e = .returned (.bool true) ∧ Below p.w.heap.size p.w w'))
        have y0 := fun p : After wr => after_cell ((R6.out.call hbr.out).cell (k := 0) rfl) p
        have y1 := fun p : After wr => after_cell ((RL5.out.call hbr.out).cell (k := 0) rfl) p
        have y2 := fun p : After wr => after_cell z0 p
        have y3 := fun p : After wr => after_cell z1 p
        clear hza hzb z0 z1 hl1 hl2 hsub hasc
        go_upto_region 10 with (fail)
        clear r2
        refine wp_region_after (by kernel_rfl) (by kernel_rfl) ?_
        repeat (go_big_quiet_step (first | (go_at_call 16; with_reducible exact after_of (C1.out _))))
        refine wpQuiet_nil ?_
        intro _ hw'
        obtain ⟨p1, hw''⟩ := hw'
        subst hw''
        have HB2 := hide (below_call hbr.out p1.b)
        clear y0 y1 y2 y3 C1
        go_wp2_with fail
        go_roundw
        case rel => exact ⟨k + 1, by go_num, by omega, HB2⟩
        case measure => simp [intOf]; omega
      · obtain rfl : k = n2 := by omega
        have hmk := fmade2 (P := Tryd.prog) Tryd.underlying28 ji jz0 jz1 (by omega) rfl k (by omega) (L := nils k) rfl
        obtain ⟨W9, hW9⟩ : ∃ V, (wr.alloc (.cells (nils k).toArray 42)).alloc (.cells #[.slice (some ⟨wr.heap.size, 0, none⟩) k k] 30) = V := ⟨_, rfl⟩
        obtain ⟨X8, hX8⟩ : ∃ X8, wr.heap.size + 1 = X8 := ⟨_, rfl⟩
        have R8 := hide (show Row W9 X8 30 [.slice (some ⟨wr.heap.size, 0, none⟩) k k] by rw [← hW9, ← hX8]; exact (Row.new _ _ _).at_ (by simp))
        have HB9 := hide (show Below W5.heap.size W5 W9 by rw [← hW9]; exact below_call hbr.out (below2 _ _ _))
        have O9 := hide (show Anw W9 W5.heap.size wr.heap.size (nils k) [] (itL f.code 0) by
          rw [← hW9, show itL f.code 0 = List.replicate f.code.length [] from rfl, hlen]
          exact (Anw.make (Row.new wr _ _) hbr.out.size).below (below1 _ _))
        have hx8 : W5.heap.size ≤ X8 := by have := hbr.out.size; omega
        have HW9 := hide hW9
        have HX8 := hide hX8
        clear hW9 hX8
        go_upto_region 13 with (fail)
        rw [HW9.out, HX8.out]
        clear hmk r2 HW9 HX8
        go_wp2_with fail
        obtain ⟨m, hm1⟩ : ∃ m, m = f.code.length * n1 := ⟨_, rfl⟩
        have hmn : m ≤ 1024 * 6 := by rw [hm1]; exact Nat.mul_le_mul (by omega) hn6
        have hmul0 : (k : Int) * (n1 : Int) = (m : Int) := by rw [hm1, hlen]; simp
        have HMU := hide hmul0
        have hmul : IntKind.i64.wrap ((k : Int) * (n1 : Int)) = (k : Int) * (n1 : Int) := by rw [hmul0, IntKind.wrap_i64]; omega
        clear hmul0
        go_loopw [9] (fun s9 wr => ∃ (n : Nat) (g8 c8 : Nat) (v8 p8 : List Value), s9 = .int .i64 (n : Int) ∧ n ≤ m + 1 ∧ Hid (Below W5.heap.size W5 wr) ∧ Hid (Row wr X8 30 [.slice (some ⟨g8, 0, none⟩) k c8]) ∧ Hid (Anw wr W5.heap.size g8 v8 p8 (itL f.code n))) (fun s9 _ => m + 1 - (intOf s9).toNat)
        case atStart => exact ⟨0, _, k, _, _, rfl, by omega, HB9, R8, O9⟩
        case round =>
          obtain ⟨n, g8, c8, v8, p8, rfl, hnm, hbr, hR, hO⟩ := hrel
          clear R8 O9 HB9
          have hl8 : (itL f.code n).length = k := by rw [(itL_in HOK.out n).len, hlen]
          have r0 := (RB5.out.call hbr.out).cell (k := 0) rfl
          have r1 := (RB5.out.call hbr.out).cell (k := 1) rfl
          have r2 := (RB5.out.call hbr.out).cell (k := 2) rfl
          have r8 := hR.out.cell (k := 0) rfl
          by_cases hgo : n ≤ m
          · have hgo' : (n : Int) ≤ (k : Int) * (n1 : Int) := by rw [HMU.out]; omega
            have cs := lstep_any (P := P) (A1 := A1) (n1 := n1) (c1 := c1) (c2 := c2) (cL := c8) wr (hide (HC5.out.below hbr.out)) HOK (hide (hO.out.ann hl8 (by omega))) (hide (by rw [← hlen]; exact itL_in HOK.out n)) (hide (HT5.out.below hbr.out))
            rw [show stepL f.code (itL f.code n) = itL f.code (n + 1) from rfl] at cs
            have hl9 : (itL f.code (n + 1)).length = k := by rw [(itL_in HOK.out (n + 1)).len, hlen]
            go_wp2_with fail
            refine cs.mono ?_
            rintro e w9 ⟨g9, c9, v9, p9, rfl, o9, hb9⟩
            rw [hl9]
            have R9 := hide (hR.out.call hb9)
            have B9 := hide (below_call hbr.out hb9)
            have O9 := hide (o9.lower hbr.out.size)
            clear hb9 o9 cs r0 r1 r2 r8 hR hO hbr
            have z8 := R9.out.cell (k := 0) rfl
            have f8 := R9.out.free 0
            have RA := hide (R9.out.set_ 0 (.slice (some ⟨g9, 0, none⟩) k c9))
            have BA := hide (B9.out.setCell (p := ⟨X8, 0, none⟩) hx8 (.slice (some ⟨g9, 0, none⟩) k c9))
            have OA := hide (O9.out.farc (p := ⟨X8, 0, none⟩) (u := .slice (some ⟨g9, 0, none⟩) k c9) R9.out rfl (by decide) (by decide))
            obtain ⟨WA, hWA⟩ : ∃ V, w9.setCell ⟨X8, 0, none⟩ (.slice (some ⟨g9, 0, none⟩) k c9) = V := ⟨_, rfl⟩
            rw [hWA] at RA BA OA
            have HWA := hide hWA
            clear hWA
            go_upto_region 17 with (fail)
            rw [HWA.out]
            clear z8 f8 HWA R9 B9 O9
            have r2 := (RB5.out.call BA.out).cell (k := 2) rfl
            have r8 := RA.out.cell (k := 0) rfl
            have hn1' : (n : Int) + 1 ≤ 10000 := by omega
            go_wp2_with fail
            go_roundw
            case rel => exact ⟨n + 1, g9, c9, v9, p9, by go_num, by omega, BA, RA, OA⟩
            case measure => simp [intOf]; omega
          · have hit : itL f.code n = sol := HLT.out n (by omega)
            have hgo' : ¬ ((n : Int) ≤ (k : Int) * (n1 : Int)) := by rw [HMU.out]; omega
            rw [hit] at hO hl8
            have r6 := (R6.out.call hbr.out).cell (k := 0) rfl
            have cm := rsame16_any (some ⟨g8, 0, none⟩) k c8 (some ⟨g6, 0, none⟩) k c6 sol sol wr (hide (hO.out.ann hsl (by omega))) (hide (O5.out.below hbr.out))
            rw [decide_eq_true (rfl : sol = sol)] at cm
            have HBF := hide (below_call HB5.out hbr.out)
            clear hit hO hR
            go_wp2_with fail
            refine cm.mono ?_
            rintro e w9 ⟨rfl, hb9⟩
            have HBG := hide (below_call HBF.out hb9)
            clear hb9 cm r0 r1 r2 r6 r8
            go_wp2_with fail
            go_ret
            exact ⟨rfl, HBG.out⟩
end Go.Proofs.YtjbgepjdohfhkaaDoor
end
