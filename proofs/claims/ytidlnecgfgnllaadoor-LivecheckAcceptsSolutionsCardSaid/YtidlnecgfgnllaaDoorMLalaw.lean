import Derived.Test.YtidlnecgfgnllaaDoorMLawk
import Derived.Test.YtidlnecgfgnllaaDoorMLscn
import Derived.Test.YtidlnecgfgnllaaDoorMLce3
import Derived.Test.YtidlnecgfgnllaaDoorMLcp
import Derived.Test.YtidlnecgfgnllaaDoorMLcs
import Derived.Test.YtidlnecgfgnllaaDoorMAsal
import Derived.Test.YtidlnecgfgnllaaDoorMLaw
import Derived.Test.YtidlnecgfgnllaaDoorTie
import Derived.Test.YtidlnecgfgnllaaDoorCards
import Derived.SevenTiedAt
set_option linter.unusedVariables false
set_option linter.unusedSimpArgs false
section
/-
  The walk of the law LivecheckAcceptsSolutions: for all codes and slots it returns true, and what was in memory before the call is as it was. Conditions: those of the types; the table of TrailingZeros64 lies as its initialiser lays it.
-/
namespace Go.Proofs.YtidlnecgfgnllaaDoor
open Go.RowKit

set_option maxRecDepth 100000 in
set_option maxHeartbeats 8000000 in
theorem lalaw_walk (A0 : Option Addr) (n0 c0 : Nat) (zs : List Int) (y : Int) (w : World)
    (y0 : 0 ≤ y) (y1 : y ≤ 255) (hA : Hid (A0 = none → c0 = 0)) (hn : Hid (zs.length = n0)) (hnc : n0 ≤ c0) (hm : n0 ≤ 9223372036854775807) (hs : Hid (Sees w w.heap.size A0 (cellsU8 zs))) (hz : Hid (∀ z ∈ zs, 0 ≤ z ∧ z ≤ 255)) (hT : Hid (Tab w)) :
    Calls Tryd.prog 4 #[.slice A0 n0 c0, .int .u8 y] w fun e w' => e = .returned (.bool true) ∧ Below w.heap.size w w' := by
  obtain ⟨j0, ji, jz0, jz1, jz2⟩ := info_parts infoS
  go_enter Tryd.func4, Tryd.ntmps4
  go_wp2_with fail
  refine (awake17_any w hT).mono ?_
  rintro e w1 ⟨rfl, hb1⟩
  have HB1 := hide hb1
  have HS1 := hide ((hs.out.below hb1).more hb1.size)
  clear hb1
  go_wp2_with fail
  refine (scene17_any A0 n0 c0 zs w1 hA hn hnc hm HS1 hz).mono ?_
  rintro e w2 ⟨P, A1, n1, c1, A2, n2, c2, f, N, AL, nL, cL, L, g, lo, rfl, hH, hE, hF, hO, hCd, hgl, hwg, hb2⟩
  obtain ⟨W, hW⟩ : ∃ V, (w2.alloc (.cells #[.int .i64 P, .slice A1 n1 c1, .slice A2 n2 c2] 30)).alloc (.cells #[.slice AL nL cL] 25) = V := ⟨_, rfl⟩
  have hb3 : Below w2.heap.size w2 W := by rw [← hW]; exact below2 _ _ _
  obtain ⟨B, hB⟩ : ∃ B, w2.heap.size = B := ⟨_, rfl⟩
  have HBB := hide hB
  have RB := hide (show Row W B 30 [.int .i64 P, .slice A1 n1 c1, .slice A2 n2 c2] by rw [← hW, ← hB]; exact (Row.new w2 _ _).alloc _)
  have RL := hide (show Row W (B + 1) 25 [.slice AL nL cL] by rw [← hW, ← hB]; exact (Row.new _ _ _).at_ (by simp))
  have HCd := hide (show CdAt W A2 n2 f.code from (hH.calls hb3).cd (fnE_zero.1 hE).1)
  have hs1 : f.slots.length = n1 := hH.l1
  have hn6 : n1 ≤ 6 := by omega
  have h1 : 1 ≤ n2 := by have h := flow_one hE; have h2 : f.code.length = n2 := hH.l2; omega
  have HOK := hide (show LvOk f.code n1 by rw [← hs1]; exact lv_ok hE (by omega))
  have hlen := HCd.out.len
  have hn2 := HCd.out.few
  have HOL := hide (hO.ann.below hb3)
  have HW := hide hW
  have HB3 := hide (below_call (below_call HB1.out hb2) hb3)
  have HT3 := hide (hT.out.below HB3.out)
  clear hW hb3 hb2 hO hCd hH hB hwg hgl hE HS1 hF HB1
  go_upto_region 4 with (fail)
  rw [HW.out, HBB.out]
  clear HW HBB RL HOL
  have q0 := RB.out.cell (k := 0) rfl
  have q1 := RB.out.cell (k := 1) rfl
  have q2 := RB.out.cell (k := 2) rfl
  have cs := rsolve_any (P := P) (A1 := A1) (n1 := n1) (c1 := c1) (c2 := c2) W HCd HOK
  have hsl : (solL f.code n1).length = n2 := by rw [(sol_in HOK.out).len, hlen]
  have HSI := hide (sol_in HOK.out)
  have HSO := hide (sol_ok HOK.out)
  have HSS := hide (sol_slack HOK.out)
  have HSL := hide (fun (k : Nat) (z : Int) (hk : k < f.code.length) (hz : z ∈ (solL f.code n1).getD k []) => sol_less HOK.out hk hz)
  obtain ⟨sol, hsol⟩ : ∃ s, solL f.code n1 = s := ⟨_, rfl⟩
  rw [hsol] at cs hsl HSO HSI HSS HSL
  clear hsol
  go_wp2_with fail
  refine cs.mono ?_
  rintro e w4 ⟨g6, c6, v6, p6, rfl, o6, hb4⟩
  rw [hsl]
  obtain ⟨W5, hW5⟩ : ∃ V, w4.alloc (.cells #[.slice (some ⟨g6, 0, none⟩) n2 c6] 25) = V := ⟨_, rfl⟩
  have hb5 : Below w4.heap.size w4 W5 := by rw [← hW5]; exact below1 _ _
  obtain ⟨X8, hX8⟩ : ∃ X, w4.heap.size = X := ⟨_, rfl⟩
  have R8 := hide (show Row W5 X8 25 [.slice (some ⟨g6, 0, none⟩) n2 c6] by rw [← hW5, ← hX8]; exact Row.new w4 _ _)
  have O5 := hide ((o6.below hb5).ann hsl (by omega))
  have RB5 := hide ((RB.out.call hb4).call hb5)
  have HC5 := hide ((HCd.out.below hb4).below hb5)
  have HT5 := hide ((HT3.out.below hb4).below hb5)
  have HB5 := hide (below_call (below_call HB3.out hb4) hb5)
  have HW5 := hide hW5
  have HX8 := hide hX8
  clear cs hb4 hb5 hW5 hX8 o6 q0 q1 q2 RB HCd HB3 HT3
  go_upto_region 5 with (fail)
  rw [HX8.out, HW5.out]
  clear HX8 HW5
  have y8 := R8.out.cell (k := 0) rfl
  obtain ⟨us, hul, HSe, H1c, HLs⟩ := (O5.out).open_
  have ho0 : W5.ownsRow W5.heap.size 42 1 (.slice none 0 0) 0 [] := ⟨rfl, .inl ⟨rfl, rfl⟩⟩
  have HO0 := hide ho0
  clear ho0
  go_wp2_with (at_builtin; refine wpList_append_sees rfl (.const (.slice none 0 0)) (.tmp 22) 23 rfl W5.heap.size 42 j0 (.slice none 0 0) 24 Tryd.underlying23 ji jz0 jz1 jz2 rfl _ 0 [] rfl HO0.out W5.heap.size (some ⟨g6, 0, none⟩) n2 c6 us rfl (hide (fun e => by cases e)) hul HSe.out H1c.out (by unfold maxLen; omega) (by omega) (Nat.le_refl _) ?_)
  intro v5 w5 ho5 hg5
  have hb5 : Below W5.heap.size W5 w5 := (Below.refl W5.heap.size W5).grown hg5 (Nat.le_refl _) (fun k hk => by cases hk)
  obtain ⟨G, c5, sp5, rfl, hG5, hR5⟩ := own_row ho5 (by omega)
  obtain ⟨W6, hW6⟩ : ∃ W, w5.alloc (.cells #[.slice (some ⟨G, 0, none⟩) n2 c5] 25) = W := ⟨_, rfl⟩
  have hb6 : Below w5.heap.size w5 W6 := by rw [← hW6]; exact below1 _ _
  obtain ⟨X, hX⟩ : ∃ X, w5.heap.size = X := ⟨_, rfl⟩
  have I6 := hide (show CpI W5 X G n2 c5 us sp5 sol W6 from ⟨by rw [← hW6, ← hX]; exact Row.new w5 _ _, (Anr.copy (O5.out) hul HLs.out hb5 hR5 hG5 hG5).below hb6, below_call hb5 hb6⟩)
  have HW6 := hide hW6
  have HX := hide hX
  clear hb5 hb6 hW6 hX ho5 hg5 hR5 hG5 HSe H1c HLs HO0 hul
  obtain ⟨s, hs⟩ : ∃ s : Int, y.tmod (n1 : Int) = s := ⟨_, rfl⟩
  have HSY := hide hs
  have hs0 : 0 < n1 → 0 ≤ s ∧ s < n1 := fun h => by
    rw [← hs]
    exact ⟨Int.tmod_nonneg _ y0, Int.tmod_lt_of_pos _ (by omega)⟩
  clear hs
  go_upto_region 6 with (fail)
  rw [HX.out, HW6.out]
  clear HX HW6 y8
  have I7 := hide (show CpI W5 X G n2 c5 us sp5 (adI sol s 0) W6 by rw [adI_start]; exact I6.out)
  clear I6
  go_wp2_with fail
  go_loopw [10] (fun s10 wr => ∃ (k : Nat) (vs : List Value), s10 = .int .i64 (k : Int) ∧ k ≤ n2 ∧ (n1 = 0 → k = 0) ∧ Hid (CpI W5 X G n2 c5 vs sp5 (adI sol s k) wr)) (fun s10 _ => n2 - (intOf s10).toNat)
  case atStart => exact ⟨0, us, rfl, by omega, fun _ => rfl, I7⟩
  case round =>
    obtain ⟨k, vs, rfl, hk, hk1, hI⟩ := hrel
    clear I7
    have qx := hI.out.x.cell (k := 0) rfl
    have q1 := (RB5.out.call hI.out.b).cell (k := 1) rfl
    by_cases hlt : k < n2
    · have hk0 : (0 : Int) ≤ (k : Int) := by omega
      have hkn : (k : Int) < (n2 : Int) := by omega
      by_cases hm0 : 0 < n1
      · have hm0' : (0 : Int) < (n1 : Int) := by omega
        have hmne : ¬ n1 = 0 := by omega
        have hwy : IntKind.i64.wrap y = y := by rw [IntKind.wrap_i64]; omega
        have hkl : k < sol.length := by omega
        obtain ⟨Ak, ck, hvk, z0, hlk, hnk⟩ := hI.out.o.vat (adI_at hkl)
        have HUA := hide (HSI.out.asc k)
        have HST := hide (adI_step (s := s) hkl)
        have HAL := hide (show k < (adI sol s k).length by rw [adI_len]; exact hkl)
        obtain ⟨u, hu⟩ : ∃ u, sol.getD k [] = u := ⟨_, rfl⟩
        rw [hu] at hvk z0 hlk HUA HST
        have HR := hide (fun (V : World) (hb : Below wr.heap.size wr V) => (s_add ck (hide (hlk.below hb)) HUA (hide rfl) : Calls Tryd.prog 17 #[.slice Ak u.length ck, .int .i64 s] V (OutPost (addL u s) V)))
        have HRA := hide (addL_asc (n := s) HUA.out)
        obtain ⟨r, hr⟩ : ∃ r, addL u s = r := ⟨_, rfl⟩
        rw [hr] at HST HR HRA
        have HPT := hide (fun (V : World) (A' : Option Addr) (c' : Nat) (h : Hid (CpI W5 X G n2 c5 vs sp5 (adI sol s k) V)) (hl : Hid (Lst V A' r.length r)) (hn : Hid (A' = none → c' = 0)) (ha : Awy A' r G) =>
          (show CpI W5 X G n2 c5 (vs.set k (.slice A' r.length c')) sp5 (adI sol s (k + 1)) (V.setCell ⟨G, k, none⟩ (.slice A' r.length c')) by
            rw [HST.out]
            exact h.out.put HAL.out hl.out hn.out ha))
        have HZ := hide (fun (V : World) (h : Hid (CpI W5 X G n2 c5 vs sp5 (adI sol s k) V)) => (show V.cell? ⟨G, k, none⟩ = some (.slice Ak u.length ck) ∧ V.frozen? ⟨G, k, none⟩ = false from
          ⟨h.out.o.row.cell (by rw [List.getElem?_append_left (List.getElem?_eq_some_iff.1 hvk).1]; exact hvk), h.out.o.free k⟩))
        have KS := hide (fun (V : World) (h : Hid (CpI W5 X G n2 c5 vs sp5 (adI sol s k) V)) => (⟨h.out.x.cell (k := 0) rfl, (RB5.out.call h.out.b).cell (k := 1) rfl, (HZ.out V h).1⟩ : _ ∧ _ ∧ _))
        have hGw : G < wr.heap.size := hI.out.o.row.lt
        have J0 := hide (hI.out.call (Below.refl _ _).drew)
        have B0 := hide (show Below wr.heap.size wr wr.drew from (Below.refl _ _).drew)
        have HS0 := KS.out _ J0
        clear hvk z0 hlk hnk hu hr hI
        go_upto_region 9 with (fail)
        clear qx q1
        refine wp_region_lastH (S := (fun V => V.cell? ⟨X, 0, none⟩ = some (.slice (some ⟨G, 0, none⟩) n2 c5) ∧ V.cell? ⟨B, 1, none⟩ = some (.slice A1 n1 c1) ∧ V.cell? ⟨G, k, none⟩ = some (.slice Ak u.length ck))) 16 (by kernel_rfl) rfl rfl (by kernel_rfl) ?_
        have hHeld := HS0
        refine wpAnyH_take (i := 0) (v := ?_) tk_0 (by kernel_rfl) (by kernel_rfl) (by kernel_rfl) (fun _ _ _ h => h) (Or.inl ⟨by rfl, ?_⟩) hHeld ?_
        rotate_left
        · intro V hSw
          try dsimp only at hSw
          go_simp
          all_goals with_reducible rfl
        try simp only [Act.put, List.setIfInBounds_toArray, List.set_cons_zero, List.set_cons_succ]
        refine wpAnyH_take (i := 1) (v := ?_) tk_1 (by kernel_rfl) (by kernel_rfl) (by kernel_rfl) (fun _ _ _ h => h) (Or.inl ⟨by rfl, ?_⟩) hHeld ?_
        rotate_left
        · intro V hSw
          try dsimp only at hSw
          go_simp
          all_goals with_reducible rfl
        try simp only [Act.put, List.setIfInBounds_toArray, List.set_cons_zero, List.set_cons_succ]
        refine wpAnyH_take (i := 2) (v := ?_) tk_2 (by kernel_rfl) (by kernel_rfl) (by kernel_rfl) (fun _ _ _ h => h) (Or.inl ⟨by rfl, ?_⟩) hHeld ?_
        rotate_left
        · intro V hSw
          try dsimp only at hSw
          go_simp
          all_goals with_reducible rfl
        try simp only [Act.put, List.setIfInBounds_toArray, List.set_cons_zero, List.set_cons_succ]
        refine wpAnyH_take (i := 3) (v := ?_) tk_3 (by kernel_rfl) (by kernel_rfl) (by kernel_rfl) (fun _ _ _ h => h) (Or.inl ⟨by rfl, ?_⟩) hHeld ?_
        rotate_left
        · intro V hSw
          try dsimp only at hSw
          go_simp
          all_goals with_reducible rfl
        try simp only [Act.put, List.setIfInBounds_toArray, List.set_cons_zero, List.set_cons_succ]
        refine wpAnyH_take (i := 4) (v := ?_) tk_4 (by kernel_rfl) (by kernel_rfl) (by kernel_rfl) (fun _ _ _ h => h) (Or.inl ⟨by rfl, ?_⟩) hHeld ?_
        rotate_left
        · intro V hSw
          try dsimp only at hSw
          go_simp
          all_goals with_reducible rfl
        try simp only [Act.put, List.setIfInBounds_toArray, List.set_cons_zero, List.set_cons_succ]
        refine wpAnyH_take (i := 5) (v := ?_) tk_5 (by kernel_rfl) (by kernel_rfl) (by kernel_rfl) (fun _ _ _ h => h) (Or.inl ⟨by rfl, ?_⟩) hHeld ?_
        rotate_left
        · intro V hSw
          try dsimp only at hSw
          go_simp
          all_goals with_reducible rfl
        try simp only [Act.put, List.setIfInBounds_toArray, List.set_cons_zero, List.set_cons_succ]
        refine wpAnyH_take (i := 6) (v := ?_) tk_6 (by kernel_rfl) (by kernel_rfl) (by kernel_rfl) (fun _ _ _ h => h) (Or.inl ⟨by rfl, ?_⟩) hHeld ?_
        rotate_left
        · intro V hSw
          try dsimp only at hSw
          go_simp
          all_goals with_reducible rfl
        try simp only [Act.put, List.setIfInBounds_toArray, List.set_cons_zero, List.set_cons_succ]
        refine wpAnyH_take (i := 7) (v := ?_) tk_7 (by kernel_rfl) (by kernel_rfl) (by kernel_rfl) (fun _ _ _ h => h) (Or.inl ⟨by rfl, ?_⟩) hHeld ?_
        rotate_left
        · intro V hSw
          try dsimp only at hSw
          go_simp
          all_goals with_reducible rfl
        try simp only [Act.put, List.setIfInBounds_toArray, List.set_cons_zero, List.set_cons_succ]
        refine wpAnyH_take (i := 8) (v := ?_) tk_8 (by kernel_rfl) (by kernel_rfl) (by kernel_rfl) (fun _ _ _ h => h) (Or.inl ⟨by rfl, ?_⟩) hHeld ?_
        rotate_left
        · intro V hSw
          try dsimp only at hSw
          go_simp
          all_goals with_reducible rfl
        try simp only [Act.put, List.setIfInBounds_toArray, List.set_cons_zero, List.set_cons_succ]
        refine wpAnyH_take (i := 9) (v := ?_) tk_9 (by kernel_rfl) (by kernel_rfl) (by kernel_rfl) (fun _ _ _ h => h) (Or.inl ⟨by rfl, ?_⟩) hHeld ?_
        rotate_left
        · intro V hSw
          try dsimp only at hSw
          go_simp
          all_goals with_reducible rfl
        try simp only [Act.put, List.setIfInBounds_toArray, List.set_cons_zero, List.set_cons_succ]
        refine wpAnyH_take (i := 10) (v := ?_) tk_10 (by kernel_rfl) (by kernel_rfl) (by kernel_rfl) (fun _ _ _ h => h) (Or.inl ⟨by rfl, ?_⟩) hHeld ?_
        rotate_left
        · intro V hSw
          try dsimp only at hSw
          go_simp
          all_goals with_reducible rfl
        try simp only [Act.put, List.setIfInBounds_toArray, List.set_cons_zero, List.set_cons_succ]
        refine wpAnyH_take (i := 11) (v := ?_) tk_11 (by kernel_rfl) (by kernel_rfl) (by kernel_rfl) (fun _ _ _ h => h) (Or.inl ⟨by rfl, ?_⟩) hHeld ?_
        rotate_left
        · intro V hSw
          try dsimp only at hSw
          go_simp
          all_goals with_reducible rfl
        try simp only [Act.put, List.setIfInBounds_toArray, List.set_cons_zero, List.set_cons_succ]
        refine wpAnyH_take (i := 12) (v := ?_) tk_12 (by kernel_rfl) (by kernel_rfl) (by kernel_rfl) (fun _ _ _ h => h) (Or.inl ⟨by rfl, ?_⟩) hHeld ?_
        rotate_left
        · intro V hSw
          try dsimp only at hSw
          go_simp
          all_goals with_reducible rfl
        try simp only [Act.put, List.setIfInBounds_toArray, List.set_cons_zero, List.set_cons_succ]
        refine wpAnyH_take (i := 13) (v := ?_) tk_13 (by kernel_rfl) (by kernel_rfl) (by kernel_rfl) (fun _ _ _ h => h) (Or.inl ⟨by rfl, ?_⟩) hHeld ?_
        rotate_left
        · intro V hSw
          try dsimp only at hSw
          go_simp
          all_goals with_reducible rfl
        try simp only [Act.put, List.setIfInBounds_toArray, List.set_cons_zero, List.set_cons_succ]
        refine wpAnyH_ready (rs := [14]) (by kernel_rfl) (by simp) ?_
        refine AllReadyH.cons tk_14 (fun K hK => ?_) AllReadyH.nil
        go_simp
        rw [HSY.out]
        go_at_call 17
        with_reducible refine Calls.mono (HR.out _ B0.out) ?_
        intro e w8 h8
        obtain ⟨A8, c8, rfl, HL8, HN8, HA8, hb8⟩ := OutPost.openA h8 HRA
        have HY8 := hide (HA8.out G J0.out.o.row.lt)
        have J8 := hide (J0.out.call hb8)
        have HS8 := KS.out _ J8
        obtain ⟨z8, f8⟩ := HZ.out _ J8
        have J9 := hide (HPT.out _ _ c8 J8 HL8 HN8 HY8.out)
        clear h8 hb8
        refine hK.out _ _ HS8 (fun hHeld => ?_)
        clear hK K
        try simp only [Act.put, List.setIfInBounds_toArray, List.set_cons_zero, List.set_cons_succ]
        refine wpAnyH_take (i := 15) (v := ?_) tk_15 (by kernel_rfl) (by kernel_rfl) (by kernel_rfl) (fun _ _ _ h => h) (Or.inl ⟨by rfl, ?_⟩) hHeld ?_
        rotate_left
        · intro V hSw
          try dsimp only at hSw
          go_simp
          all_goals with_reducible rfl
        try simp only [Act.put, List.setIfInBounds_toArray, List.set_cons_zero, List.set_cons_succ]
        refine wpAnyH_done (by kernel_rfl) ?_ _
        unfold LastQ
        clear HS0 HS8 HR HZ KS J0 J8 HPT HST HUA HRA HAL B0 HL8 HN8 HA8 HY8
        go_wp2_with fail
        go_roundw
        case rel => exact ⟨k + 1, _, by go_num, by omega, fun h => by omega, J9⟩
        case measure => simp [intOf]; omega
      · have hm0' : ¬ ((0 : Int) < (n1 : Int)) := by omega
        have hkz : k = 0 := hk1 (by omega)
        have okm := hide (show okL f.code n1 (adI sol s k) = true by rw [hkz, adI_start]; exact HSO.out)
        have q0 := (RB5.out.call hI.out.b).cell (k := 0) rfl
        have q2 := (RB5.out.call hI.out.b).cell (k := 2) rfl
        have q3 := (R8.out.call hI.out.b).cell (k := 0) rfl
        have D1 := lcheck_any (P := P) (A1 := A1) (n1 := n1) (c1 := c1) (c2 := c2) (cL := c6) wr (hide (HC5.out.below hI.out.b)) HOK (hide (O5.out.below hI.out.b)) (hide (HT5.out.below hI.out.b))
        rw [HSO.out, if_pos rfl] at D1
        have D2 := hide (fun (V : World) (hb : Below W5.heap.size W5 V) (h : Hid (CpI W5 X G n2 c5 vs sp5 (adI sol s k) V)) => lcheck_any (P := P) (A1 := A1) (n1 := n1) (c1 := c1) (c2 := c2) (cL := c5) V (hide (HC5.out.below hb)) HOK (hide (h.out.ann (by rw [adI_len]; exact hsl) (by omega))) (hide (HT5.out.below hb)))
        have D3 := hide (fun (V : World) (hb : Below W5.heap.size W5 V) => lslack_any (P := P) (A1 := A1) (n1 := n1) (c1 := c1) (c2 := c2) (cL := c6) V (hide (HC5.out.below hb)) HOK (hide (O5.out.below hb)) (hide (HT5.out.below hb)) h1)
        rw [HSS.out] at D3
        go_wp2_with fail
        refine D1.mono ?_
        rintro e w8 ⟨rfl, hb8⟩
        have J8 := hide (hI.out.call hb8)
        have d2 := D2.out w8 J8.out.b J8
        rw [okm.out, if_pos rfl] at d2
        clear hb8 D1 D2 q0 q1 q2 q3 qx hI
        have q0 := (RB5.out.call J8.out.b).cell (k := 0) rfl
        have q1 := (RB5.out.call J8.out.b).cell (k := 1) rfl
        have q2 := (RB5.out.call J8.out.b).cell (k := 2) rfl
        have qx := J8.out.x.cell (k := 0) rfl
        go_wp2_with fail
        refine d2.mono ?_
        rintro e w9 ⟨rfl, hb9⟩
        have J9 := hide (J8.out.call hb9)
        have d3 := D3.out w9 J9.out.b
        clear hb9 D3 d2 q0 q1 q2 qx J8
        have q0 := (RB5.out.call J9.out.b).cell (k := 0) rfl
        have q1 := (RB5.out.call J9.out.b).cell (k := 1) rfl
        have q2 := (RB5.out.call J9.out.b).cell (k := 2) rfl
        have q3 := (R8.out.call J9.out.b).cell (k := 0) rfl
        go_wp2_with fail
        refine d3.mono ?_
        rintro e w10 ⟨rfl, hb10⟩
        have HF := hide (below_call HB5.out (below_call J9.out.b hb10))
        clear d3 hb10 q0 q1 q2 q3 J9
        go_wp2_with fail
        go_ret
        exact ⟨rfl, HF.out⟩
    · have hkn : ¬ ((k : Int) < (n2 : Int)) := by omega
      have hm0 : 0 < n1 := by
        rcases Nat.eq_zero_or_pos n1 with h | h
        · have := hk1 h; omega
        · exact h
      have hkl : k = f.code.length := by omega
      have okm := hide (show okL f.code n1 (adI sol s k) = true by rw [hkl]; exact ok_ad HOK.out HSO.out (hs0 hm0).1 (hs0 hm0).2)
      have q0 := (RB5.out.call hI.out.b).cell (k := 0) rfl
      have q2 := (RB5.out.call hI.out.b).cell (k := 2) rfl
      have q3 := (R8.out.call hI.out.b).cell (k := 0) rfl
      have D1 := lcheck_any (P := P) (A1 := A1) (n1 := n1) (c1 := c1) (c2 := c2) (cL := c6) wr (hide (HC5.out.below hI.out.b)) HOK (hide (O5.out.below hI.out.b)) (hide (HT5.out.below hI.out.b))
      rw [HSO.out, if_pos rfl] at D1
      have D2 := hide (fun (V : World) (hb : Below W5.heap.size W5 V) (h : Hid (CpI W5 X G n2 c5 vs sp5 (adI sol s k) V)) => lcheck_any (P := P) (A1 := A1) (n1 := n1) (c1 := c1) (c2 := c2) (cL := c5) V (hide (HC5.out.below hb)) HOK (hide (h.out.ann (by rw [adI_len]; exact hsl) (by omega))) (hide (HT5.out.below hb)))
      have D3 := hide (fun (V : World) (hb : Below W5.heap.size W5 V) => lslack_any (P := P) (A1 := A1) (n1 := n1) (c1 := c1) (c2 := c2) (cL := c6) V (hide (HC5.out.below hb)) HOK (hide (O5.out.below hb)) (hide (HT5.out.below hb)) h1)
      rw [HSS.out] at D3
      go_wp2_with fail
      refine D1.mono ?_
      rintro e w8 ⟨rfl, hb8⟩
      have J8 := hide (hI.out.call hb8)
      have d2 := D2.out w8 J8.out.b J8
      rw [okm.out, if_pos rfl] at d2
      clear hb8 D1 D2 q0 q1 q2 q3 qx hI
      have q0 := (RB5.out.call J8.out.b).cell (k := 0) rfl
      have q1 := (RB5.out.call J8.out.b).cell (k := 1) rfl
      have q2 := (RB5.out.call J8.out.b).cell (k := 2) rfl
      have qx := J8.out.x.cell (k := 0) rfl
      go_wp2_with fail
      refine d2.mono ?_
      rintro e w9 ⟨rfl, hb9⟩
      have J9 := hide (J8.out.call hb9)
      have d3 := D3.out w9 J9.out.b
      clear hb9 D3 d2 q0 q1 q2 qx J8
      have q0 := (RB5.out.call J9.out.b).cell (k := 0) rfl
      have q1 := (RB5.out.call J9.out.b).cell (k := 1) rfl
      have q2 := (RB5.out.call J9.out.b).cell (k := 2) rfl
      have q3 := (R8.out.call J9.out.b).cell (k := 0) rfl
      go_wp2_with fail
      refine d3.mono ?_
      rintro e w10 ⟨rfl, hb10⟩
      have HF := hide (below_call HB5.out (below_call J9.out.b hb10))
      clear d3 hb10 q0 q1 q2 q3 J9
      go_wp2_with fail
      go_ret
      exact ⟨rfl, HF.out⟩
end Go.Proofs.YtidlnecgfgnllaaDoor
end

section
/-
  LivecheckAcceptsSolutions: for every input the law returns true, and each argument reads behind the call as it did before, where the listed table lies as its initialiser lays it; the card ties that table to the program's text. No other condition: every input that the row speaks of.
-/
namespace Go.Proofs.YtidlnecgfgnllaaDoor
open Go.ChangeShapes Go.WideShapes Go.ChangeAt Go.RowKit

namespace rowLivecheckAcceptsSolutions
set_option maxRecDepth 100000 in
theorem contract (H : Type) (enc : TypeId × Value → H) (W : World) (base : Nat) (args : Array Value) (ds gs : List (DataW H)) (before : List MemPlace)
    (hval : ∀ (j : Nat) t v, Tryd.f4.params[j]? = some t → args[j]? = some v → Value.okWide Tryd.prog W .any base t v)
    (hW : DataW.Whole enc Tryd.prog Tryd.f4.params.toList Rows.livecheckAcceptsSolutionsSpec.vars false W args.toList ds gs before) (hL : laidMetH Tryd.prog laidOne W) :
    Calls Tryd.prog 4 args W fun e W' => ∃ v, e = .returned v ∧ Rows.livecheckAcceptsSolutionsSpec.post enc Tryd.prog Tryd.f4 false true false false W args v W' := by
  have hW' := hW
  obtain ⟨p, q, hA, hV, rfl, hfz, hnd⟩ := hW
  have hA : DataW.TrodAll enc Tryd.prog W 0 (fun _ => true) true Tryd.f4.params.toList args.toList ds p := hA
  rw [Tryd.params4] at hA hval
  obtain ⟨v0, vs0, d0, ds0, p0, q0, hargs, rfl, rfl, h0, r0⟩ := trodAll_cons hA
  obtain ⟨v1, vs1, d1, ds1, p1, q1, rfl, rfl, rfl, h1, r1⟩ := trodAll_cons r0
  obtain ⟨rfl, rfl, rfl⟩ := trodAll_nil r1
  obtain rfl : args = #[v0, v1] := by cases args; simp_all
  obtain ⟨A0, n0, c0, zs0, rfl, hA0, hn0, hm0, hs0, hz0, hc0⟩ := open_u8s Tryd.underlying22 Tryd.underlying5 cells_u8 (hval 0 22 v0 rfl rfl) h0
  obtain ⟨a1, rfl, _, _, w1⟩ := open_int Tryd.underlying5 (hval 1 5 v1 rfl rfl) h1
  have b1 := bounds_u8 w1
  refine (lalaw_walk A0 n0 c0 zs0 a1 W (by have := b1; omega) (by have := b1; omega) (hide hA0) (hide hn0) hc0 hm0 (hide hs0) (hide hz0) (hide (tab_of_laid hL))).mono fun e W' ⟨he, hB⟩ => ⟨_, he, ?_⟩
  exact law_post laid_out (by decide +kernel) rfl rfl Tryd.underlying4 rfl hW' hB

set_option maxRecDepth 100000 in
theorem lifted (os : Os) (started : os.Started) (H : Type) (enc : TypeId × Value → H) :
    ReturnsInHanded {} Tryd.checked os 4 .any (fun w args => (Rows.livecheckAcceptsSolutionsSpec.pre enc Tryd.prog Tryd.f4 [] false w args ∧ laidMetH Tryd.prog laidOne w) ∧ sizedMet enc Tryd.prog Tryd.f4 (OpenSpec.ofChange Rows.livecheckAcceptsSolutionsSpec) false w args)
      (Rows.livecheckAcceptsSolutionsSpec.post enc Tryd.prog Tryd.f4 false true false false) := by
  refine returnsInHanded_of_change_and (C := Tryd.checked) (X := fun w _ => laidMetH Tryd.prog laidOne w) (fun _ _ _ hh h => h.of_heap hh) own_knob started (by kernel_rfl) Tryd.func4
    (ChangeSpec.witness_shaped (enc := enc) (C := Tryd.checked) (os := os) (X := fun w _ => laidMetH Tryd.prog laidOne w) false (World.doorLaid Tryd.prog 400 os) #[.slice none 0 0, .int .u8 0] 8 rfl (World.shaped_of_RefB (by kernel_rfl) (by kernel_rfl)) (by kernel_rfl) (by kernel_rfl) (by kernel_rfl) (door_met os _)) ?_
  intro W base args ds gs before hval hW _ _ hL _
  exact contract H enc W base args ds gs before hval hW hL

theorem row : Rows.LivecheckAcceptsSolutionsSaid :=
  OpenClaim.holds_of_wide 4 Tryd.f4 rfl rfl rfl rfl rfl rfl rfl ⟨rfl, rfl, rfl, rfl, rfl⟩ rfl rfl rfl rfl rfl (by kernel_rfl) Tryd.func4 (by kernel_rfl)
    (of_decide_eq_true (by kernel_rfl)) (by unfold Func.isWrapper; first | (rw [if_pos (by decide +kernel)]; kernel_rfl) | (rw [if_neg (by decide +kernel)]; exact ⟨rfl, rfl⟩))
    (fun os started H enc _ => lifted os started H enc)

theorem proved : Rows.LivecheckAcceptsSolutionsCardSaid :=
  Claim7.holds_tied_plain_at .later [] [.data] true (true, "dd5303d2fabf194ae77c69ad4ecf4317e4e9b93fddf7bcec66bf13a547e9b8b2") false
    row (fun _ h => by cases h) (by kernel_rfl) (fun _ h => by cases h) livecheckAcceptsSolutions_row_tie rfl ⟨rfl, rfl⟩ (by kernel_rfl) rfl
    (fun f fn hf hfn => by
      obtain rfl : f = 4 := Option.some.inj ((show Tryd.prog.funcNamed "spillframe/spillframelaw17.LivecheckAcceptsSolutions" = some 4 by kernel_rfl).symm.trans hf) |>.symm
      obtain rfl : fn = Tryd.f4 := (Option.some.inj (Tryd.func4.symm.trans hfn)).symm
      exact ⟨by kernel_rfl, fun j t ht => by
        rw [Tryd.params4] at ht
        have hm : t ∈ [22, 5] := by simpa using Array.mem_of_getElem? ht
        have hall : ([22, 5].all fun u => !Tryd.prog.wantsStandIn u) = true := by kernel_rfl
        exact (show Tryd.prog.wantsStandIn t = false by simpa using List.all_eq_true.1 hall t hm)⟩)
    (by kernel_rfl)
end rowLivecheckAcceptsSolutions
end Go.Proofs.YtidlnecgfgnllaaDoor
end
