import Derived.Test.YtidlnecgfgnllaaDoorMLawk
import Derived.Test.YtidlnecgfgnllaaDoorMLscn
import Derived.Test.YtidlnecgfgnllaaDoorMLce3
import Derived.Test.YtidlnecgfgnllaaDoorMLcp
import Derived.Test.YtidlnecgfgnllaaDoorMLcs
import Derived.Test.YtidlnecgfgnllaaDoorMAsal
import Derived.Test.YtidlnecgfgnllaaDoorMBrrem
import Derived.Test.YtidlnecgfgnllaaDoorMLaw
import Derived.Test.YtidlnecgfgnllaaDoorTie
import Derived.Test.YtidlnecgfgnllaaDoorCards
import Derived.SevenTiedAt
set_option linter.unusedVariables false
set_option linter.unusedSimpArgs false
section
/-
  The walk of the law LivecheckFindsWhatIsMissing: for all codes and numbers it returns true, and what was in memory before the call is as it was. Conditions: those of the types; the table of TrailingZeros64 lies as its initialiser lays it.
-/
namespace Go.Proofs.YtidlnecgfgnllaaDoor
open Go.RowKit

set_option maxRecDepth 100000 in
set_option maxHeartbeats 8000000 in
theorem lflaw_walk (A0 : Option Addr) (n0 c0 : Nat) (zs : List Int) (y : Int) (w : World)
    (y0 : 0 ≤ y) (y1 : y ≤ 65535) (hA : Hid (A0 = none → c0 = 0)) (hn : Hid (zs.length = n0)) (hnc : n0 ≤ c0) (hm : n0 ≤ 9223372036854775807) (hs : Hid (Sees w w.heap.size A0 (cellsU8 zs))) (hz : Hid (∀ z ∈ zs, 0 ≤ z ∧ z ≤ 255)) (hT : Hid (Tab w)) :
    Calls Tryd.prog 7 #[.slice A0 n0 c0, .int .u16 y] w fun e w' => e = .returned (.bool true) ∧ Below w.heap.size w w' := by
  obtain ⟨j0, ji, jz0, jz1, jz2⟩ := info_parts infoS
  obtain ⟨m, rfl⟩ := Int.eq_ofNat_of_zero_le y0
  go_enter Tryd.func7, Tryd.ntmps7
  go_wp2_with fail
  refine (awake17_any w hT).mono ?_
  rintro e w1 ⟨rfl, hb1⟩
  have HB1 := hide hb1
  have HS1 := hide ((hs.out.below hb1).more hb1.size)
  clear hb1
  go_wp2_with fail
  refine (scene17_any A0 n0 c0 zs w1 hA hn hnc hm HS1 hz).mono ?_
  rintro e w2 ⟨P, A1, n1, c1, A2, n2, c2, f, N, AL, nL, cL, L, g, lo, rfl, hH, hE, hF, hO, hCd, hgl, hwg, hb2⟩
  obtain ⟨W, hW⟩ : ∃ V, (w2.alloc (.cells #[.int .i64 P, .slice A1 n1 c1, .slice A2 n2 c2] 30)).alloc (.cells #[.slice AL nL cL] 25) = V := ⟨_, rfl⟩
  have hb3 : Below w2.heap.size w2 W := by rw [← hW]; exact below2 _ _ _
  obtain ⟨B, hB⟩ : ∃ B, w2.heap.size = B := ⟨_, rfl⟩
  have HBB := hide hB
  have RB := hide (show Row W B 30 [.int .i64 P, .slice A1 n1 c1, .slice A2 n2 c2] by rw [← hW, ← hB]; exact (Row.new w2 _ _).alloc _)
  have RL := hide (show Row W (B + 1) 25 [.slice AL nL cL] by rw [← hW, ← hB]; exact (Row.new _ _ _).at_ (by simp))
  have HCd := hide (show CdAt W A2 n2 f.code from (hH.calls hb3).cd (fnE_zero.1 hE).1)
  have hs1 : f.slots.length = n1 := hH.l1
  have hn6 : n1 ≤ 6 := by omega
  have h1 : 1 ≤ n2 := by have h := flow_one hE; have h2 : f.code.length = n2 := hH.l2; omega
  have HOK := hide (show LvOk f.code n1 by rw [← hs1]; exact lv_ok hE (by omega))
  have hlen := HCd.out.len
  have hn2 := HCd.out.few
  have HOL := hide (hO.ann.below hb3)
  have HW := hide hW
  have HB3 := hide (below_call (below_call HB1.out hb2) hb3)
  have HT3 := hide (hT.out.below HB3.out)
  clear hW hb3 hb2 hO hCd hH hB hwg hgl hE HS1 hF HB1
  go_upto_region 4 with (fail)
  rw [HW.out, HBB.out]
  clear HW HBB RL HOL
  have q0 := RB.out.cell (k := 0) rfl
  have q1 := RB.out.cell (k := 1) rfl
  have q2 := RB.out.cell (k := 2) rfl
  have cs := rsolve_any (P := P) (A1 := A1) (n1 := n1) (c1 := c1) (c2 := c2) W HCd HOK
  have hsl : (solL f.code n1).length = n2 := by rw [(sol_in HOK.out).len, hlen]
  have HSI := hide (sol_in HOK.out)
  have HSO := hide (sol_ok HOK.out)
  have HSS := hide (sol_slack HOK.out)
  have HSL := hide (fun (k : Nat) (z : Int) (hk : k < f.code.length) (hz : z ∈ (solL f.code n1).getD k []) => sol_less HOK.out hk hz)
  obtain ⟨sol, hsol⟩ : ∃ s, solL f.code n1 = s := ⟨_, rfl⟩
  rw [hsol] at cs hsl HSO HSI HSS HSL
  clear hsol
  go_wp2_with fail
  refine cs.mono ?_
  rintro e w4 ⟨g6, c6, v6, p6, rfl, o6, hb4⟩
  rw [hsl]
  obtain ⟨W5, hW5⟩ : ∃ V, w4.alloc (.cells #[.slice (some ⟨g6, 0, none⟩) n2 c6] 25) = V := ⟨_, rfl⟩
  have hb5 : Below w4.heap.size w4 W5 := by rw [← hW5]; exact below1 _ _
  obtain ⟨X8, hX8⟩ : ∃ X, w4.heap.size = X := ⟨_, rfl⟩
  have R8 := hide (show Row W5 X8 25 [.slice (some ⟨g6, 0, none⟩) n2 c6] by rw [← hW5, ← hX8]; exact Row.new w4 _ _)
  have O5 := hide ((o6.below hb5).ann hsl (by omega))
  have RB5 := hide ((RB.out.call hb4).call hb5)
  have HC5 := hide ((HCd.out.below hb4).below hb5)
  have HT5 := hide ((HT3.out.below hb4).below hb5)
  have HB5 := hide (below_call (below_call HB3.out hb4) hb5)
  have HW5 := hide hW5
  have HX8 := hide hX8
  clear cs hb4 hb5 hW5 hX8 o6 q0 q1 q2 RB HCd HB3 HT3
  go_upto_region 5 with (fail)
  rw [HX8.out, HW5.out]
  clear HX8 HW5
  go_wp2_with fail
  go_loopw [9, 10, 11, 12, 13, 14] (fun s9 s10 _ _ _ _ wr => ∃ (n k : Nat), s9 = .int .i64 (n : Int) ∧ s10 = .int .i64 (k : Int) ∧ n ≤ 65535 ∧ k ≤ n2 ∧ Hid (Below W5.heap.size W5 wr)) (fun _ s10 _ _ _ _ _ => n2 - (intOf s10).toNat)
  case atStart => exact ⟨m, 0, rfl, rfl, by omega, by omega, hide (Below.refl _ _)⟩
  case round =>
    obtain ⟨n, k, rfl, rfl, hn', hk, hbr⟩ := hrel
    have q8 := (R8.out.call hbr.out).cell (k := 0) rfl
    by_cases hlt : k < n2
    · have hk0 : (0 : Int) ≤ (k : Int) := by omega
      have hkn : (k : Int) < (n2 : Int) := by omega
      obtain ⟨b1, o1, Ak, ck, he1, -, y1', hlk, hnk⟩ := (O5.out.below hbr.out).at_ hlt
      injection he1 with he1
      injection he1 with he1 he1'
      subst he1 he1'
      have HKK := hide (show sol.getD k [] = sol.getD k [] from rfl)
      have HAK := hide (HSI.out.asc k)
      have HLE := hide (fun (z : Int) (hz : z ∈ sol.getD k []) => HSL.out k z (by omega) hz)
      have HIN := hide (fun z => HSI.out.less (show k < f.code.length by omega) z)
      obtain ⟨zk, hzk⟩ : ∃ z, sol.getD k [] = z := ⟨_, rfl⟩
      rw [hzk] at y1' hlk HAK HLE HIN
      rw [Nat.zero_add] at y1'
      have hzl : zk.length ≤ 512 := HAK.out.length
      clear hzk HKK
      by_cases hnl : zk.length ≤ n
      · have hnl' : (zk.length : Int) ≤ (n : Int) := by omega
        have hw : IntKind.i64.wrap ((n : Int) - (zk.length : Int)) = ((n - zk.length : Nat) : Int) := by rw [IntKind.wrap_i64]; omega
        clear hlk hnk
        go_wp2_with fail
        go_roundw
        case rel => exact ⟨n - zk.length, k + 1, by go_num, by go_num, by omega, by omega, hbr⟩
        case measure => simp [intOf]; omega
      · have hnl' : ¬ ((zk.length : Int) ≤ (n : Int)) := by omega
        have hn0 : (0 : Int) ≤ (n : Int) := by omega
        have hnz : (n : Int) < (zk.length : Int) := by omega
        have hni : n < zk.length := by omega
        have hzm := List.getElem_mem hni
        obtain ⟨bk, ok', rfl, -, x0⟩ := int_at hlk.see hni
        have HL1 := hide (HLE.out _ hzm)
        have HI1 := hide (HIN.out zk[n])
        generalize zk[n] = z at x0 HL1 HI1
        have HLK := hide hlk
        have hAn := hide (O5.out.below hbr.out)
        clear hlk hnk hzm
        obtain ⟨us, hul, HSe, H1c, HLs⟩ := (hAn.out).open_
        have ho0 : wr.ownsRow wr.heap.size 42 1 (.slice none 0 0) 0 [] := ⟨rfl, .inl ⟨rfl, rfl⟩⟩
        have HO0 := hide ho0
        clear ho0
        go_wp2_with (at_builtin; refine wpList_append_sees rfl (.const (.slice none 0 0)) (.tmp 51) 23 rfl wr.heap.size 42 j0 (.slice none 0 0) 24 Tryd.underlying23 ji jz0 jz1 jz2 rfl _ 0 [] rfl HO0.out wr.heap.size (some ⟨g6, 0, none⟩) n2 c6 us rfl (hide (fun e => by cases e)) hul HSe.out H1c.out (by unfold maxLen; omega) (by omega) (Nat.le_refl _) ?_)
        intro v5 w5 ho5 hg5
        have hb5 : Below wr.heap.size wr w5 := (Below.refl wr.heap.size wr).grown hg5 (Nat.le_refl _) (fun k hk => by cases hk)
        obtain ⟨G, c5, sp5, rfl, hG5, hR5⟩ := own_row ho5 (by omega)
        obtain ⟨W6, hW6⟩ : ∃ W, w5.alloc (.cells #[.slice (some ⟨G, 0, none⟩) n2 c5] 25) = W := ⟨_, rfl⟩
        have hb6 : Below w5.heap.size w5 W6 := by rw [← hW6]; exact below1 _ _
        obtain ⟨X, hX⟩ : ∃ X, w5.heap.size = X := ⟨_, rfl⟩
        have I6 := hide (show CpI wr X G n2 c5 us sp5 sol W6 from ⟨by rw [← hW6, ← hX]; exact Row.new w5 _ _, (Anr.copy (hAn.out) hul HLs.out hb5 hR5 hG5 hG5).below hb6, below_call hb5 hb6⟩)
        have HW6 := hide hW6
        have HX := hide hX
        clear hb5 hb6 hW6 hX ho5 hg5 hR5 hG5 HSe H1c HLs HO0 hul
        have HR := hide (fun (V : World) (hb : Below wr.heap.size wr V) => (s_remove ck (hide (HLK.out.below hb)) HAK (hide rfl) : Calls Tryd.prog 22 #[.slice (some ⟨bk, ok', none⟩) zk.length ck, .int .i64 z] V (OutPost (removeL zk z) V)))
        have HRA := hide (removeL_asc HAK.out z)
        obtain ⟨r, hr⟩ : ∃ r, removeL zk z = r := ⟨_, rfl⟩
        rw [hr] at HL1 HI1 HR HRA
        have KS := hide (fun (V : World) (h : Hid (CpI wr X G n2 c5 us sp5 sol V)) =>
          (⟨h.out.x.cell (k := 0) rfl, (R8.out.call (below_call hbr.out h.out.b)).cell (k := 0) rfl, keep_cellB h.out.b y1', keep_cellB h.out.b x0⟩ : _ ∧ _ ∧ _ ∧ _))
        have hkL : k < sol.length := by omega
        have HZ := hide (fun (V : World) (h : Hid (CpI wr X G n2 c5 us sp5 sol V)) => (show (∃ u, V.cell? ⟨G, k, none⟩ = some u) ∧ V.frozen? ⟨G, k, none⟩ = false from
          ⟨by obtain ⟨A', c', -, z, -⟩ := h.out.o.vat (List.getElem?_eq_getElem hkL); exact ⟨_, z⟩, h.out.o.free k⟩))
        have hwx := hide (fun (V : World) (h : Below wr.heap.size wr V) => keep_cellB h y1')
        have hwz := hide (fun (V : World) (h : Below wr.heap.size wr V) => keep_cellB h x0)
        go_upto_region 12 with (fail)
        rw [HX.out, HW6.out]
        have J0 := hide (I6.out.call (Below.refl _ _).drew)
        have HS0' := KS.out _ J0
        clear q8 y1' x0 I6 HW6 HX hr
        refine wp_region_lastH (S := (fun V => V.cell? ⟨X, 0, none⟩ = some (.slice (some ⟨G, 0, none⟩) n2 c5) ∧ V.cell? ⟨X8, 0, none⟩ = some (.slice (some ⟨g6, 0, none⟩) n2 c6) ∧ V.cell? ⟨g6, k, none⟩ = some (.slice (some ⟨bk, ok', none⟩) zk.length ck) ∧ V.cell? ⟨bk, ok' + n, none⟩ = some (.int .i64 z))) 18 (by kernel_rfl) rfl rfl (by kernel_rfl) ?_
        have hHeld := HS0'
        refine wpAnyH_take (i := 0) (v := ?_) tk_0 (by kernel_rfl) (by kernel_rfl) (by kernel_rfl) (fun _ _ _ h => h) (Or.inl ⟨by rfl, ?_⟩) hHeld ?_
        rotate_left
        · intro V hSw
          try dsimp only at hSw
          go_simp
          all_goals with_reducible rfl
        try simp only [Act.put, List.setIfInBounds_toArray, List.set_cons_zero, List.set_cons_succ]
        refine wpAnyH_take (i := 1) (v := ?_) tk_1 (by kernel_rfl) (by kernel_rfl) (by kernel_rfl) (fun _ _ _ h => h) (Or.inl ⟨by rfl, ?_⟩) hHeld ?_
        rotate_left
        · intro V hSw
          try dsimp only at hSw
          go_simp
          all_goals with_reducible rfl
        try simp only [Act.put, List.setIfInBounds_toArray, List.set_cons_zero, List.set_cons_succ]
        refine wpAnyH_take (i := 2) (v := ?_) tk_2 (by kernel_rfl) (by kernel_rfl) (by kernel_rfl) (fun _ _ _ h => h) (Or.inl ⟨by rfl, ?_⟩) hHeld ?_
        rotate_left
        · intro V hSw
          try dsimp only at hSw
          go_simp
          all_goals with_reducible rfl
        try simp only [Act.put, List.setIfInBounds_toArray, List.set_cons_zero, List.set_cons_succ]
        refine wpAnyH_take (i := 3) (v := ?_) tk_3 (by kernel_rfl) (by kernel_rfl) (by kernel_rfl) (fun _ _ _ h => h) (Or.inl ⟨by rfl, ?_⟩) hHeld ?_
        rotate_left
        · intro V hSw
          try dsimp only at hSw
          go_simp
          all_goals with_reducible rfl
        try simp only [Act.put, List.setIfInBounds_toArray, List.set_cons_zero, List.set_cons_succ]
        refine wpAnyH_take (i := 4) (v := ?_) tk_4 (by kernel_rfl) (by kernel_rfl) (by kernel_rfl) (fun _ _ _ h => h) (Or.inl ⟨by rfl, ?_⟩) hHeld ?_
        rotate_left
        · intro V hSw
          try dsimp only at hSw
          go_simp
          all_goals with_reducible rfl
        try simp only [Act.put, List.setIfInBounds_toArray, List.set_cons_zero, List.set_cons_succ]
        refine wpAnyH_take (i := 5) (v := ?_) tk_5 (by kernel_rfl) (by kernel_rfl) (by kernel_rfl) (fun _ _ _ h => h) (Or.inl ⟨by rfl, ?_⟩) hHeld ?_
        rotate_left
        · intro V hSw
          try dsimp only at hSw
          go_simp
          all_goals with_reducible rfl
        try simp only [Act.put, List.setIfInBounds_toArray, List.set_cons_zero, List.set_cons_succ]
        refine wpAnyH_take (i := 6) (v := ?_) tk_6 (by kernel_rfl) (by kernel_rfl) (by kernel_rfl) (fun _ _ _ h => h) (Or.inl ⟨by rfl, ?_⟩) hHeld ?_
        rotate_left
        · intro V hSw
          try dsimp only at hSw
          go_simp
          all_goals with_reducible rfl
        try simp only [Act.put, List.setIfInBounds_toArray, List.set_cons_zero, List.set_cons_succ]
        refine wpAnyH_take (i := 7) (v := ?_) tk_7 (by kernel_rfl) (by kernel_rfl) (by kernel_rfl) (fun _ _ _ h => h) (Or.inl ⟨by rfl, ?_⟩) hHeld ?_
        rotate_left
        · intro V hSw
          try dsimp only at hSw
          go_simp
          all_goals with_reducible rfl
        try simp only [Act.put, List.setIfInBounds_toArray, List.set_cons_zero, List.set_cons_succ]
        refine wpAnyH_take (i := 8) (v := ?_) tk_8 (by kernel_rfl) (by kernel_rfl) (by kernel_rfl) (fun _ _ _ h => h) (Or.inl ⟨by rfl, ?_⟩) hHeld ?_
        rotate_left
        · intro V hSw
          try dsimp only at hSw
          go_simp
          all_goals with_reducible rfl
        try simp only [Act.put, List.setIfInBounds_toArray, List.set_cons_zero, List.set_cons_succ]
        refine wpAnyH_take (i := 9) (v := ?_) tk_9 (by kernel_rfl) (by kernel_rfl) (by kernel_rfl) (fun _ _ _ h => h) (Or.inl ⟨by rfl, ?_⟩) hHeld ?_
        rotate_left
        · intro V hSw
          try dsimp only at hSw
          go_simp
          all_goals with_reducible rfl
        try simp only [Act.put, List.setIfInBounds_toArray, List.set_cons_zero, List.set_cons_succ]
        refine wpAnyH_take (i := 10) (v := ?_) tk_10 (by kernel_rfl) (by kernel_rfl) (by kernel_rfl) (fun _ _ _ h => h) (Or.inl ⟨by rfl, ?_⟩) hHeld ?_
        rotate_left
        · intro V hSw
          try dsimp only at hSw
          go_simp
          all_goals with_reducible rfl
        try simp only [Act.put, List.setIfInBounds_toArray, List.set_cons_zero, List.set_cons_succ]
        refine wpAnyH_take (i := 11) (v := ?_) tk_11 (by kernel_rfl) (by kernel_rfl) (by kernel_rfl) (fun _ _ _ h => h) (Or.inl ⟨by rfl, ?_⟩) hHeld ?_
        rotate_left
        · intro V hSw
          try dsimp only at hSw
          go_simp
          all_goals with_reducible rfl
        try simp only [Act.put, List.setIfInBounds_toArray, List.set_cons_zero, List.set_cons_succ]
        refine wpAnyH_take (i := 12) (v := ?_) tk_12 (by kernel_rfl) (by kernel_rfl) (by kernel_rfl) (fun _ _ _ h => h) (Or.inl ⟨by rfl, ?_⟩) hHeld ?_
        rotate_left
        · intro V hSw
          try dsimp only at hSw
          go_simp
          all_goals with_reducible rfl
        try simp only [Act.put, List.setIfInBounds_toArray, List.set_cons_zero, List.set_cons_succ]
        refine wpAnyH_take (i := 13) (v := ?_) tk_13 (by kernel_rfl) (by kernel_rfl) (by kernel_rfl) (fun _ _ _ h => h) (Or.inl ⟨by rfl, ?_⟩) hHeld ?_
        rotate_left
        · intro V hSw
          try dsimp only at hSw
          go_simp
          all_goals with_reducible rfl
        try simp only [Act.put, List.setIfInBounds_toArray, List.set_cons_zero, List.set_cons_succ]
        refine wpAnyH_take (i := 14) (v := ?_) tk_14 (by kernel_rfl) (by kernel_rfl) (by kernel_rfl) (fun _ _ _ h => h) (Or.inl ⟨by rfl, ?_⟩) hHeld ?_
        rotate_left
        · intro V hSw
          try dsimp only at hSw
          go_simp
          all_goals with_reducible rfl
        try simp only [Act.put, List.setIfInBounds_toArray, List.set_cons_zero, List.set_cons_succ]
        refine wpAnyH_take (i := 15) (v := ?_) tk_15 (by kernel_rfl) (by kernel_rfl) (by kernel_rfl) (fun _ _ _ h => h) (Or.inl ⟨by rfl, ?_⟩) hHeld ?_
        rotate_left
        · intro V hSw
          try dsimp only at hSw
          go_simp
          all_goals with_reducible rfl
        try simp only [Act.put, List.setIfInBounds_toArray, List.set_cons_zero, List.set_cons_succ]
        refine wpAnyH_ready (rs := [16]) (by kernel_rfl) (by simp) ?_
        refine AllReadyH.cons tk_16 (fun K hK => ?_) AllReadyH.nil
        go_simp
        go_at_call 22
        with_reducible refine Calls.mono (HR.out _ J0.out.b) ?_
        intro e w8 h8
        obtain ⟨A8, c8, rfl, HL8, HN8, HA8, hb8⟩ := OutPost.openA h8 HRA
        have HY8 := hide (HA8.out G J0.out.o.row.lt)
        have J8 := hide (J0.out.call hb8)
        have HS8 := KS.out _ J8
        obtain ⟨⟨u8, z8⟩, f8⟩ := HZ.out _ J8
        have J9 := hide (J8.out.put (c' := c8) hkL HL8.out HN8.out HY8.out)
        clear h8 hb8
        refine hK.out _ _ HS8 (fun hHeld => ?_)
        clear hK K
        try simp only [Act.put, List.setIfInBounds_toArray, List.set_cons_zero, List.set_cons_succ]
        refine wpAnyH_take (i := 17) (v := ?_) tk_17 (by kernel_rfl) (by kernel_rfl) (by kernel_rfl) (fun _ _ _ h => h) (Or.inl ⟨by rfl, ?_⟩) hHeld ?_
        rotate_left
        · intro V hSw
          try dsimp only at hSw
          go_simp
          all_goals with_reducible rfl
        try simp only [Act.put, List.setIfInBounds_toArray, List.set_cons_zero, List.set_cons_succ]
        refine wpAnyH_done (by kernel_rfl) ?_ _
        unfold LastQ
        obtain ⟨W9, hW9⟩ : ∃ V, w8.setCell ⟨G, k, none⟩ (.slice A8 r.length c8) = V := ⟨_, rfl⟩
        rw [hW9] at J9
        have HW9 := hide hW9
        have hnr := HI1.out.len
        have B9 := hide (below_call hbr.out J9.out.b)
        have cf := lfirst_any (P := P) (A1 := A1) (n1 := n1) (c1 := c1) (c2 := c2) (cL := c5) W9 (hide (HC5.out.below B9.out)) HOK (hide (J9.out.ann (by omega) (by omega))) (hide (HT5.out.below B9.out))
        rw [HL1.out.2] at cf
        unfold fval at cf
        have CC := hide (fun (V : World) (hb : Below W9.heap.size W9 V) => lcheck_any (P := P) (A1 := A1) (n1 := n1) (c1 := c1) (c2 := c2) (cL := c5) V (hide ((HC5.out.below B9.out).below hb)) HOK (hide ((J9.out.ann (by omega) (by omega)).below hb)) (hide ((HT5.out.below B9.out).below hb)))
        rw [HL1.out.1] at CC
        have p0 := J9.out.x.cell (k := 0) rfl
        have p1 := (RB5.out.call B9.out).cell (k := 0) rfl
        have p2 := (RB5.out.call B9.out).cell (k := 1) rfl
        have p3 := (RB5.out.call B9.out).cell (k := 2) rfl
        clear HS0' HS8 HR KS HZ J0 J8 HL8 HN8 HA8 HY8 HRA hW9 HL1
        go_upto_region 13 with (fail)
        rw [HW9.out]
        clear z8 f8 HW9
        go_wp2_with fail
        refine cf.mono ?_
        rintro e w10 ⟨rfl, hb10⟩
        have B10 := hide (below_call B9.out hb10)
        have J10 := hide (J9.out.call hb10)
        have cc := CC.out w10 hb10
        rw [if_neg (by decide)] at cc
        clear cf CC hb10 p0 p1 p2 p3 J9 B9
        have p0 := J10.out.x.cell (k := 0) rfl
        have p1 := (RB5.out.call B10.out).cell (k := 0) rfl
        have p2 := (RB5.out.call B10.out).cell (k := 1) rfl
        have p3 := (RB5.out.call B10.out).cell (k := 2) rfl
        go_wp2_with fail
        refine cc.mono ?_
        rintro e w11 ⟨rfl, hb11⟩
        have B11 := hide (below_call B10.out hb11)
        have x8 := (R8.out.call B11.out).cell (k := 0) rfl
        have x1 := hwx.out w11 (below_call J10.out.b hb11)
        have x2 := hwz.out w11 (below_call J10.out.b hb11)
        have HF := hide (below_call HB5.out B11.out)
        clear cc hb11 p0 p1 p2 p3 J10 B10 B11 hwx hwz
        go_wp2_with fail
        go_ret
        exact ⟨rfl, HF.out⟩
    · obtain rfl : k = n2 := by omega
      have HF := hide (below_call HB5.out hbr.out)
      go_wp2_with fail
      go_ret
      exact ⟨rfl, HF.out⟩
end Go.Proofs.YtidlnecgfgnllaaDoor
end

section
/-
  LivecheckFindsWhatIsMissing: for every input the law returns true, and each argument reads behind the call as it did before, where the listed table lies as its initialiser lays it; the card ties that table to the program's text. No other condition: every input that the row speaks of.
-/
namespace Go.Proofs.YtidlnecgfgnllaaDoor
open Go.ChangeShapes Go.WideShapes Go.ChangeAt Go.RowKit

namespace rowLivecheckFindsWhatIsMissing
set_option maxRecDepth 100000 in
theorem contract (H : Type) (enc : TypeId × Value → H) (W : World) (base : Nat) (args : Array Value) (ds gs : List (DataW H)) (before : List MemPlace)
    (hval : ∀ (j : Nat) t v, Tryd.f7.params[j]? = some t → args[j]? = some v → Value.okWide Tryd.prog W .any base t v)
    (hW : DataW.Whole enc Tryd.prog Tryd.f7.params.toList Rows.livecheckFindsWhatIsMissingSpec.vars false W args.toList ds gs before) (hL : laidMetH Tryd.prog laidOne W) :
    Calls Tryd.prog 7 args W fun e W' => ∃ v, e = .returned v ∧ Rows.livecheckFindsWhatIsMissingSpec.post enc Tryd.prog Tryd.f7 false true false false W args v W' := by
  have hW' := hW
  obtain ⟨p, q, hA, hV, rfl, hfz, hnd⟩ := hW
  have hA : DataW.TrodAll enc Tryd.prog W 0 (fun _ => true) true Tryd.f7.params.toList args.toList ds p := hA
  rw [Tryd.params7] at hA hval
  obtain ⟨v0, vs0, d0, ds0, p0, q0, hargs, rfl, rfl, h0, r0⟩ := trodAll_cons hA
  obtain ⟨v1, vs1, d1, ds1, p1, q1, rfl, rfl, rfl, h1, r1⟩ := trodAll_cons r0
  obtain ⟨rfl, rfl, rfl⟩ := trodAll_nil r1
  obtain rfl : args = #[v0, v1] := by cases args; simp_all
  obtain ⟨A0, n0, c0, zs0, rfl, hA0, hn0, hm0, hs0, hz0, hc0⟩ := open_u8s Tryd.underlying22 Tryd.underlying5 cells_u8 (hval 0 22 v0 rfl rfl) h0
  obtain ⟨a1, rfl, _, _, w1⟩ := open_int Tryd.underlying48 (hval 1 48 v1 rfl rfl) h1
  have b1 := bounds_u16 w1
  refine (lflaw_walk A0 n0 c0 zs0 a1 W (by have := b1; omega) (by have := b1; omega) (hide hA0) (hide hn0) hc0 hm0 (hide hs0) (hide hz0) (hide (tab_of_laid hL))).mono fun e W' ⟨he, hB⟩ => ⟨_, he, ?_⟩
  exact law_post laid_out (by decide +kernel) rfl rfl Tryd.underlying4 rfl hW' hB

set_option maxRecDepth 100000 in
theorem lifted (os : Os) (started : os.Started) (H : Type) (enc : TypeId × Value → H) :
    ReturnsInHanded {} Tryd.checked os 7 .any (fun w args => (Rows.livecheckFindsWhatIsMissingSpec.pre enc Tryd.prog Tryd.f7 [] false w args ∧ laidMetH Tryd.prog laidOne w) ∧ sizedMet enc Tryd.prog Tryd.f7 (OpenSpec.ofChange Rows.livecheckFindsWhatIsMissingSpec) false w args)
      (Rows.livecheckFindsWhatIsMissingSpec.post enc Tryd.prog Tryd.f7 false true false false) := by
  refine returnsInHanded_of_change_and (C := Tryd.checked) (X := fun w _ => laidMetH Tryd.prog laidOne w) (fun _ _ _ hh h => h.of_heap hh) own_knob started (by kernel_rfl) Tryd.func7
    (ChangeSpec.witness_shaped (enc := enc) (C := Tryd.checked) (os := os) (X := fun w _ => laidMetH Tryd.prog laidOne w) false (World.doorLaid Tryd.prog 400 os) #[.slice none 0 0, .int .u16 0] 8 rfl (World.shaped_of_RefB (by kernel_rfl) (by kernel_rfl)) (by kernel_rfl) (by kernel_rfl) (by kernel_rfl) (door_met os _)) ?_
  intro W base args ds gs before hval hW _ _ hL _
  exact contract H enc W base args ds gs before hval hW hL

theorem row : Rows.LivecheckFindsWhatIsMissingSaid :=
  OpenClaim.holds_of_wide 7 Tryd.f7 rfl rfl rfl rfl rfl rfl rfl ⟨rfl, rfl, rfl, rfl, rfl⟩ rfl rfl rfl rfl rfl (by kernel_rfl) Tryd.func7 (by kernel_rfl)
    (of_decide_eq_true (by kernel_rfl)) (by unfold Func.isWrapper; first | (rw [if_pos (by decide +kernel)]; kernel_rfl) | (rw [if_neg (by decide +kernel)]; exact ⟨rfl, rfl⟩))
    (fun os started H enc _ => lifted os started H enc)

theorem proved : Rows.LivecheckFindsWhatIsMissingCardSaid :=
  Claim7.holds_tied_plain_at .later [] [.data] true (true, "dd5303d2fabf194ae77c69ad4ecf4317e4e9b93fddf7bcec66bf13a547e9b8b2") false
    row (fun _ h => by cases h) (by kernel_rfl) (fun _ h => by cases h) livecheckFindsWhatIsMissing_row_tie rfl ⟨rfl, rfl⟩ (by kernel_rfl) rfl
    (fun f fn hf hfn => by
      obtain rfl : f = 7 := Option.some.inj ((show Tryd.prog.funcNamed "spillframe/spillframelaw17.LivecheckFindsWhatIsMissing" = some 7 by kernel_rfl).symm.trans hf) |>.symm
      obtain rfl : fn = Tryd.f7 := (Option.some.inj (Tryd.func7.symm.trans hfn)).symm
      exact ⟨by kernel_rfl, fun j t ht => by
        rw [Tryd.params7] at ht
        have hm : t ∈ [22, 48] := by simpa using Array.mem_of_getElem? ht
        have hall : ([22, 48].all fun u => !Tryd.prog.wantsStandIn u) = true := by kernel_rfl
        exact (show Tryd.prog.wantsStandIn t = false by simpa using List.all_eq_true.1 hall t hm)⟩)
    (by kernel_rfl)
end rowLivecheckFindsWhatIsMissing
end Go.Proofs.YtidlnecgfgnllaaDoor
end
