import Derived.Test.YtidlnecgfgnllaaDoorMLcr
import Derived.Test.YtidlnecgfgnllaaDoorMLcs
import Derived.Test.YtidlnecgfgnllaaDoorMLcp
import Derived.Test.YtidlnecgfgnllaaDoorMBrrem
set_option linter.unusedVariables false
set_option linter.unusedSimpArgs false
section
/-
  The contract of the reference's Slack (chapter 17). Conditions: those of the types; the function is right and has an instruction; the annotation can be read.
-/
namespace Go.Proofs.YtidlnecgfgnllaaDoor
open Go.RowKit

section
variable {P : Int} {A1 : Option Addr} {n1 c1 : Nat} {A2 : Option Addr} {n2 c2 : Nat} {AL : Option Addr} {nL cL : Nat} {l : List Ins} {L : List (List Int)} {w : World}
set_option maxRecDepth 100000 in
set_option maxHeartbeats 4000000 in
theorem rslack_any (w : World) (hC : Hid (CdAt w A2 n2 l)) (hok : Hid (LvOk l n1)) (hL : Hid (Ann w AL nL L)) (h1 : 1 ≤ n2) :
    Calls Tryd.prog 15 #[fv P A1 n1 c1 A2 n2 c2, .agg #[.slice AL nL cL]] w fun e w' => e = .returned (.int .i64 (slV l n1 L : Nat)) ∧ Below w.heap.size w w' := by
  have hlen := hC.out.len
  have hn2 := hC.out.few
  have hn1 := hok.out.few
  obtain ⟨j0, ji, jz0, jz1, jz2⟩ := info_parts infoS
  obtain ⟨W2, hW2⟩ : ∃ W, (w.alloc (.cells #[.int .i64 P, .slice A1 n1 c1, .slice A2 n2 c2] 30)).alloc (.cells #[.slice AL nL cL] 25) = W := ⟨_, rfl⟩
  have F2 := hide (show Row W2 w.heap.size 30 [.int .i64 P, .slice A1 n1 c1, .slice A2 n2 c2] by rw [← hW2]; exact (Row.new w _ _).alloc _)
  have L2 := hide (show Row W2 (w.heap.size + 1) 25 [.slice AL nL cL] by rw [← hW2]; exact (Row.new _ _ _).at_ (by simp))
  have B2 := hide (show Below w.heap.size w W2 by rw [← hW2]; exact below2 w _ _)
  have HW2 := hide hW2
  have cc := rcheck17_any (P := P) (A1 := A1) (n1 := n1) (c1 := c1) (c2 := c2) (cL := cL) W2 (hide (hC.out.below B2.out)) hok (hide (hL.out.below B2.out))
  have q0 := F2.out.cell (k := 0) rfl
  have q1 := F2.out.cell (k := 1) rfl
  have q2 := F2.out.cell (k := 2) rfl
  have q3 := L2.out.cell (k := 0) rfl
  clear hW2
  cases hb : okL l n1 L with
  | false =>
    have hv : slV l n1 L = 0 := by unfold slV; rw [hb]; rfl
    rw [hb, if_neg (by decide)] at cc
    rw [hv]
    clear hb hv
    go_enter Tryd.func15, Tryd.ntmps15
    go_upto_region 1 with (fail)
    rw [HW2.out]
    go_wp2_with fail
    refine cc.mono ?_
    rintro e w3 ⟨rfl, hb3⟩
    have HB3 := hide (below_call B2.out hb3)
    clear cc hb3 q0 q1 q2 q3
    go_wp2_with fail
    go_ret
    exact ⟨rfl, HB3.out⟩
  | true =>
    have hv : slV l n1 L = slN l L := by unfold slV; rw [hb]; rfl
    have HOK := hide hb
    have HLI := hide (by have h := (okL_iff.1 hb).1; rw [hlen] at h; exact h)
    have hnl : nL = n2 := by have h1 := hL.out.len; have h2 := HLI.out.len; omega
    subst hnl
    rw [hb, if_pos rfl] at cc
    rw [hv]
    obtain ⟨bL, oL, rfl⟩ : ∃ b off, AL = some ⟨b, off, none⟩ := by
      obtain ⟨b, off, A', c', e, -⟩ := hL.out.at_ (i := 0) (by omega)
      exact ⟨b, off, e⟩
    have hLl : L.length = nL := HLI.out.len
    have HSN := hide (show cnI l L nL = slN l L by rw [← cnI_end (by omega), hlen])
    have HCI := hide (fun k => cnI_le (l := l) HLI.out.asc HLI.out.lt k)
    have HCF := hide (fun k => cnS_full (l := l) HLI.out.asc k)
    have HAL := hide (fun k => asc_le (HLI.out.asc k) (HLI.out.lt k))
    rw [← HSN.out]
    clear hb hv
    go_enter Tryd.func15, Tryd.ntmps15
    go_upto_region 1 with (fail)
    rw [HW2.out]
    go_wp2_with fail
    refine cc.mono ?_
    rintro e w3 ⟨rfl, hb3⟩
    have F3 := hide (F2.out.call hb3)
    have L3 := hide (L2.out.call hb3)
    have B3 := hide (below_call B2.out hb3)
    have L3A := hide (hL.out.below B3.out)
    clear cc hb3 q0 q1 q2 q3 F2 L2 B2
    go_wp2_with fail
    go_loopw [5, 6] (fun s5 s6 wr => ∃ k : Nat, s5 = .int .i64 ((cnI l L k : Nat) : Int) ∧ s6 = .int .i64 (k : Int) ∧ k ≤ nL ∧ Hid (Below w3.heap.size w3 wr)) (fun _ s6 _ => nL - (intOf s6).toNat)
    case atStart => exact ⟨0, rfl, rfl, by omega, hide (Below.refl _ _)⟩
    case round =>
      obtain ⟨k, rfl, rfl, hk, hbr⟩ := hrel
      have q3 := (L3.out.call hbr.out).cell (k := 0) rfl
      by_cases hlt : k < nL
      · have hk0 : (0 : Int) ≤ (k : Int) := by omega
        have hkn : (k : Int) < (nL : Int) := by omega
        have hkl : k < l.length := by omega
        have hcn := HCI.out k
        have hbd : k * n1 ≤ 1024 * 512 := Nat.mul_le_mul (by omega) hn1
        have hal := HAL.out k
        obtain ⟨bb, oo, Ak, ck, he, -, y0, hlk, hnk⟩ := L3A.out.at_ hlt
        injection he with he
        injection he with he1 he2
        subst he1 he2
        have HLO := hide (fun (z : Int) (hz : z ∈ L.getD k []) => less_ok hok.out HOK.out hkl hz)
        have HST := hide (cnI_step l L k)
        have HCK := hide (HCF.out k)
        have HS0 := hide (cnS_zero l L k)
        have HSS := hide (fun (i : Nat) (z : Int) (h : (L.getD k [])[i]? = some z) => cnS_step (l := l) h)
        have HSL := hide (fun i => cnS_le l L k i)
        have HIN := hide (fun z => HLI.out.less hlt z)
        have HAK := hide (HLI.out.asc k)
        have HEK := hide (show L.getD k [] = L.getD k [] from rfl)
        obtain ⟨zk, hzk⟩ : ∃ z, L.getD k [] = z := ⟨_, rfl⟩
        rw [hzk] at y0 hlk hal HLO HCK HSS HSL HIN HAK
        have HLK := hide hlk
        have HNK := hide hnk
        obtain ⟨a, ha⟩ : ∃ a, cnI l L k = a := ⟨_, rfl⟩
        rw [ha] at hcn HST
        rw [ha]
        clear hlk hnk hzk HEK ha
        go_wp2_with fail
        go_loopw [5, 7, 8] (fun s5 s7 s8 wr => ∃ i : Nat, s5 = .int .i64 (((a + cnS l L k i : Nat)) : Int) ∧ s7 = .int .i64 (i : Int) ∧ i ≤ zk.length ∧ Hid (Below w3.heap.size w3 wr)) (fun _ s7 _ _ => zk.length - (intOf s7).toNat)
        case atStart => exact ⟨0, by rw [HS0.out]; rfl, rfl, by omega, hbr⟩
        case round =>
          obtain ⟨i, rfl, rfl, hi, hbs⟩ := hrel
          have r3 := (L3.out.call hbs.out).cell (k := 0) rfl
          have yk := keep_cellB hbs.out y0
          clear q3
          by_cases hli : i < zk.length
          · have hi0 : (0 : Int) ≤ (i : Int) := by omega
            have hin : (i : Int) < (zk.length : Int) := by omega
            have hzi := List.getElem?_eq_getElem hli
            have hzm := List.getElem_mem hli
            obtain ⟨bk, ok', rfl, -, x0⟩ := int_at HLK.out.see hli
            have HS1 := hide (HSS.out i _ hzi)
            have HL1 := hide (HLO.out _ hzm)
            have HI1 := hide (HIN.out zk[i])
            generalize zk[i] = z at x0 HS1 HL1 HI1
            have xi := keep_cellB hbs.out x0
            have hsl := HSL.out i
            have hsl2 := HSL.out (i + 1)
            have hAn := hide (L3A.out.below hbs.out)
            obtain ⟨us, hul, HSe, H1c, HLs⟩ := (hAn.out).open_
            have ho0 : wr.ownsRow wr.heap.size 42 1 (.slice none 0 0) 0 [] := ⟨rfl, .inl ⟨rfl, rfl⟩⟩
            have HO0 := hide ho0
            clear ho0
            go_wp2_with (at_builtin; refine wpList_append_sees rfl (.const (.slice none 0 0)) (.tmp 31) 23 rfl wr.heap.size 42 j0 (.slice none 0 0) 24 Tryd.underlying23 ji jz0 jz1 jz2 rfl _ 0 [] rfl HO0.out wr.heap.size (some ⟨bL, oL, none⟩) nL cL us rfl (hide (fun e => by cases e)) hul HSe.out H1c.out (by unfold maxLen; omega) (by omega) (Nat.le_refl _) ?_)
            intro v5 w5 ho5 hg5
            have hb5 : Below wr.heap.size wr w5 := (Below.refl wr.heap.size wr).grown hg5 (Nat.le_refl _) (fun k hk => by cases hk)
            obtain ⟨G, c5, sp5, rfl, hG5, hR5⟩ := own_row ho5 (by omega)
            obtain ⟨W6, hW6⟩ : ∃ W, w5.alloc (.cells #[.slice (some ⟨G, 0, none⟩) nL c5] 25) = W := ⟨_, rfl⟩
            have hb6 : Below w5.heap.size w5 W6 := by rw [← hW6]; exact below1 _ _
            obtain ⟨X, hX⟩ : ∃ X, w5.heap.size = X := ⟨_, rfl⟩
            have I6 := hide (show CpI wr X G nL c5 us sp5 L W6 from ⟨by rw [← hW6, ← hX]; exact Row.new w5 _ _, (Anr.copy (hAn.out) hul HLs.out hb5 hR5 hG5 hG5).below hb6, below_call hb5 hb6⟩)
            have HW6 := hide hW6
            have HX := hide hX
            clear hb5 hb6 hW6 hX ho5 hg5 hR5 hG5 HSe H1c HLs HO0 hul
            have HR := hide (fun (V : World) (hb : Below wr.heap.size wr V) => (s_remove ck (hide (HLK.out.below (below_call hbs.out hb))) HAK (hide rfl) : Calls Tryd.prog 22 #[.slice (some ⟨bk, ok', none⟩) zk.length ck, .int .i64 z] V (OutPost (removeL zk z) V)))
            have HRA := hide (removeL_asc HAK.out z)
            obtain ⟨r, hr⟩ : ∃ r, removeL zk z = r := ⟨_, rfl⟩
            rw [hr] at HL1 HI1 HR HRA
            have KS := hide (fun (V : World) (h : Hid (CpI wr X G nL c5 us sp5 L V)) =>
              (⟨h.out.x.cell (k := 0) rfl, (L3.out.call (below_call hbs.out h.out.b)).cell (k := 0) rfl, keep_cellB h.out.b yk, keep_cellB h.out.b xi⟩ : _ ∧ _ ∧ _ ∧ _))
            have hkL : k < L.length := by omega
            have HZ := hide (fun (V : World) (h : Hid (CpI wr X G nL c5 us sp5 L V)) => (show (∃ u, V.cell? ⟨G, k, none⟩ = some u) ∧ V.frozen? ⟨G, k, none⟩ = false from
              ⟨by obtain ⟨A', c', -, z, -⟩ := h.out.o.vat (List.getElem?_eq_getElem hkL); exact ⟨_, z⟩, h.out.o.free k⟩))
            go_upto_region 11 with (fail)
            rw [HX.out, HW6.out]
            have hgW := I6.out.o.row.lt
            have J0 := hide (I6.out.call (Below.refl _ _).drew)
            have HS0' := KS.out _ J0
            clear r3 yk xi I6 HW6 HX hr hzi hzm
            refine wp_region_lastH (S := (fun V => V.cell? ⟨X, 0, none⟩ = some (.slice (some ⟨G, 0, none⟩) nL c5) ∧ V.cell? ⟨w.heap.size + 1, 0, none⟩ = some (.slice (some ⟨bL, oL, none⟩) nL cL) ∧ V.cell? ⟨bL, oL + k, none⟩ = some (.slice (some ⟨bk, ok', none⟩) zk.length ck) ∧ V.cell? ⟨bk, ok' + i, none⟩ = some (.int .i64 z))) 18 (by kernel_rfl) rfl rfl (by kernel_rfl) ?_
            have hHeld := HS0'
            refine wpAnyH_take (i := 0) (v := ?_) tk_0 (by kernel_rfl) (by kernel_rfl) (by kernel_rfl) (fun _ _ _ h => h) (Or.inl ⟨by rfl, ?_⟩) hHeld ?_
            rotate_left
            · intro V hSw
              try dsimp only at hSw
              go_simp
              all_goals with_reducible rfl
            try simp only [Act.put, List.setIfInBounds_toArray, List.set_cons_zero, List.set_cons_succ]
            refine wpAnyH_take (i := 1) (v := ?_) tk_1 (by kernel_rfl) (by kernel_rfl) (by kernel_rfl) (fun _ _ _ h => h) (Or.inl ⟨by rfl, ?_⟩) hHeld ?_
            rotate_left
            · intro V hSw
              try dsimp only at hSw
              go_simp
              all_goals with_reducible rfl
            try simp only [Act.put, List.setIfInBounds_toArray, List.set_cons_zero, List.set_cons_succ]
            refine wpAnyH_take (i := 2) (v := ?_) tk_2 (by kernel_rfl) (by kernel_rfl) (by kernel_rfl) (fun _ _ _ h => h) (Or.inl ⟨by rfl, ?_⟩) hHeld ?_
            rotate_left
            · intro V hSw
              try dsimp only at hSw
              go_simp
              all_goals with_reducible rfl
            try simp only [Act.put, List.setIfInBounds_toArray, List.set_cons_zero, List.set_cons_succ]
            refine wpAnyH_take (i := 3) (v := ?_) tk_3 (by kernel_rfl) (by kernel_rfl) (by kernel_rfl) (fun _ _ _ h => h) (Or.inl ⟨by rfl, ?_⟩) hHeld ?_
            rotate_left
            · intro V hSw
              try dsimp only at hSw
              go_simp
              all_goals with_reducible rfl
            try simp only [Act.put, List.setIfInBounds_toArray, List.set_cons_zero, List.set_cons_succ]
            refine wpAnyH_take (i := 4) (v := ?_) tk_4 (by kernel_rfl) (by kernel_rfl) (by kernel_rfl) (fun _ _ _ h => h) (Or.inl ⟨by rfl, ?_⟩) hHeld ?_
            rotate_left
            · intro V hSw
              try dsimp only at hSw
              go_simp
              all_goals with_reducible rfl
            try simp only [Act.put, List.setIfInBounds_toArray, List.set_cons_zero, List.set_cons_succ]
            refine wpAnyH_take (i := 5) (v := ?_) tk_5 (by kernel_rfl) (by kernel_rfl) (by kernel_rfl) (fun _ _ _ h => h) (Or.inl ⟨by rfl, ?_⟩) hHeld ?_
            rotate_left
            · intro V hSw
              try dsimp only at hSw
              go_simp
              all_goals with_reducible rfl
            try simp only [Act.put, List.setIfInBounds_toArray, List.set_cons_zero, List.set_cons_succ]
            refine wpAnyH_take (i := 6) (v := ?_) tk_6 (by kernel_rfl) (by kernel_rfl) (by kernel_rfl) (fun _ _ _ h => h) (Or.inl ⟨by rfl, ?_⟩) hHeld ?_
            rotate_left
            · intro V hSw
              try dsimp only at hSw
              go_simp
              all_goals with_reducible rfl
            try simp only [Act.put, List.setIfInBounds_toArray, List.set_cons_zero, List.set_cons_succ]
            refine wpAnyH_take (i := 7) (v := ?_) tk_7 (by kernel_rfl) (by kernel_rfl) (by kernel_rfl) (fun _ _ _ h => h) (Or.inl ⟨by rfl, ?_⟩) hHeld ?_
            rotate_left
            · intro V hSw
              try dsimp only at hSw
              go_simp
              all_goals with_reducible rfl
            try simp only [Act.put, List.setIfInBounds_toArray, List.set_cons_zero, List.set_cons_succ]
            refine wpAnyH_take (i := 8) (v := ?_) tk_8 (by kernel_rfl) (by kernel_rfl) (by kernel_rfl) (fun _ _ _ h => h) (Or.inl ⟨by rfl, ?_⟩) hHeld ?_
            rotate_left
            · intro V hSw
              try dsimp only at hSw
              go_simp
              all_goals with_reducible rfl
            try simp only [Act.put, List.setIfInBounds_toArray, List.set_cons_zero, List.set_cons_succ]
            refine wpAnyH_take (i := 9) (v := ?_) tk_9 (by kernel_rfl) (by kernel_rfl) (by kernel_rfl) (fun _ _ _ h => h) (Or.inl ⟨by rfl, ?_⟩) hHeld ?_
            rotate_left
            · intro V hSw
              try dsimp only at hSw
              go_simp
              all_goals with_reducible rfl
            try simp only [Act.put, List.setIfInBounds_toArray, List.set_cons_zero, List.set_cons_succ]
            refine wpAnyH_take (i := 10) (v := ?_) tk_10 (by kernel_rfl) (by kernel_rfl) (by kernel_rfl) (fun _ _ _ h => h) (Or.inl ⟨by rfl, ?_⟩) hHeld ?_
            rotate_left
            · intro V hSw
              try dsimp only at hSw
              go_simp
              all_goals with_reducible rfl
            try simp only [Act.put, List.setIfInBounds_toArray, List.set_cons_zero, List.set_cons_succ]
            refine wpAnyH_take (i := 11) (v := ?_) tk_11 (by kernel_rfl) (by kernel_rfl) (by kernel_rfl) (fun _ _ _ h => h) (Or.inl ⟨by rfl, ?_⟩) hHeld ?_
            rotate_left
            · intro V hSw
              try dsimp only at hSw
              go_simp
              all_goals with_reducible rfl
            try simp only [Act.put, List.setIfInBounds_toArray, List.set_cons_zero, List.set_cons_succ]
            refine wpAnyH_take (i := 12) (v := ?_) tk_12 (by kernel_rfl) (by kernel_rfl) (by kernel_rfl) (fun _ _ _ h => h) (Or.inl ⟨by rfl, ?_⟩) hHeld ?_
            rotate_left
            · intro V hSw
              try dsimp only at hSw
              go_simp
              all_goals with_reducible rfl
            try simp only [Act.put, List.setIfInBounds_toArray, List.set_cons_zero, List.set_cons_succ]
            refine wpAnyH_take (i := 13) (v := ?_) tk_13 (by kernel_rfl) (by kernel_rfl) (by kernel_rfl) (fun _ _ _ h => h) (Or.inl ⟨by rfl, ?_⟩) hHeld ?_
            rotate_left
            · intro V hSw
              try dsimp only at hSw
              go_simp
              all_goals with_reducible rfl
            try simp only [Act.put, List.setIfInBounds_toArray, List.set_cons_zero, List.set_cons_succ]
            refine wpAnyH_take (i := 14) (v := ?_) tk_14 (by kernel_rfl) (by kernel_rfl) (by kernel_rfl) (fun _ _ _ h => h) (Or.inl ⟨by rfl, ?_⟩) hHeld ?_
            rotate_left
            · intro V hSw
              try dsimp only at hSw
              go_simp
              all_goals with_reducible rfl
            try simp only [Act.put, List.setIfInBounds_toArray, List.set_cons_zero, List.set_cons_succ]
            refine wpAnyH_take (i := 15) (v := ?_) tk_15 (by kernel_rfl) (by kernel_rfl) (by kernel_rfl) (fun _ _ _ h => h) (Or.inl ⟨by rfl, ?_⟩) hHeld ?_
            rotate_left
            · intro V hSw
              try dsimp only at hSw
              go_simp
              all_goals with_reducible rfl
            try simp only [Act.put, List.setIfInBounds_toArray, List.set_cons_zero, List.set_cons_succ]
            refine wpAnyH_ready (rs := [16]) (by kernel_rfl) (by simp) ?_
            refine AllReadyH.cons tk_16 (fun K hK => ?_) AllReadyH.nil
            go_simp
            go_at_call 22
            with_reducible refine Calls.mono (HR.out _ J0.out.b) ?_
            intro e w8 h8
            obtain ⟨A8, c8, rfl, HL8, HN8, HA8, hb8⟩ := OutPost.openA h8 HRA
            have HY8 := hide (HA8.out G J0.out.o.row.lt)
            have J8 := hide (J0.out.call hb8)
            have HS8 := KS.out _ J8
            obtain ⟨⟨u8, z8⟩, f8⟩ := HZ.out _ J8
            have J9 := hide (J8.out.put (c' := c8) hkL HL8.out HN8.out HY8.out)
            clear h8 hb8
            refine hK.out _ _ HS8 (fun hHeld => ?_)
            clear hK K
            try simp only [Act.put, List.setIfInBounds_toArray, List.set_cons_zero, List.set_cons_succ]
            refine wpAnyH_take (i := 17) (v := ?_) tk_17 (by kernel_rfl) (by kernel_rfl) (by kernel_rfl) (fun _ _ _ h => h) (Or.inl ⟨by rfl, ?_⟩) hHeld ?_
            rotate_left
            · intro V hSw
              try dsimp only at hSw
              go_simp
              all_goals with_reducible rfl
            try simp only [Act.put, List.setIfInBounds_toArray, List.set_cons_zero, List.set_cons_succ]
            refine wpAnyH_done (by kernel_rfl) ?_ _
            unfold LastQ
            obtain ⟨W9, hW9⟩ : ∃ V, w8.setCell ⟨G, k, none⟩ (.slice A8 r.length c8) = V := ⟨_, rfl⟩
            rw [hW9] at J9
            have HW9 := hide hW9
            have hnr := HI1.out.len
            have B9 := hide (below_call hbs.out J9.out.b)
            have cc := rcheck17_any (P := P) (A1 := A1) (n1 := n1) (c1 := c1) (c2 := c2) (cL := c5) W9 (hide (hC.out.below (below_call B3.out B9.out))) hok (hide (J9.out.ann hnr (by omega)))
            rw [HL1.out] at cc
            have p0 := J9.out.x.cell (k := 0) rfl
            have p1 := (F3.out.call B9.out).cell (k := 0) rfl
            have p2 := (F3.out.call B9.out).cell (k := 1) rfl
            have p3 := (F3.out.call B9.out).cell (k := 2) rfl
            clear HS0' HS8 HR KS HZ J0 J8 HL8 HN8 HA8 HY8 HRA hW9
            go_upto_region 12 with (fail)
            rw [HW9.out]
            clear z8 f8 HW9
            go_wp2_with fail
            refine cc.mono ?_
            rintro e w10 ⟨rfl, hb10⟩
            have B10 := hide (below_call B9.out hb10)
            clear cc hb10 p0 p1 p2 p3 J9
            by_cases hz : z ∈ frS l L k (suc l k)
            · rw [if_pos hz] at HS1
              rw [decide_eq_true hz]
              have hw : IntKind.i64.wrap (((a + cnS l L k i : Nat) : Int) + 1) = ((a + cnS l L k i : Nat) : Int) + 1 := by rw [IntKind.wrap_i64]; omega
              clear hz
              go_wp2_with fail
              go_roundw
              case rel => exact ⟨i + 1, by rw [HS1.out]; go_num, by go_num, by omega, B10⟩
              case measure => simp [intOf]; omega
            · rw [if_neg hz] at HS1
              rw [decide_eq_false hz]
              clear hz
              go_wp2_with fail
              go_roundw
              case rel => exact ⟨i + 1, by rw [HS1.out]; go_num, by go_num, by omega, B10⟩
              case measure => simp [intOf]; omega
          · obtain rfl : i = zk.length := by omega
            rw [HCK.out, ← HST.out]
            go_wp2_with fail
            go_roundw
            case rel => exact ⟨k + 1, rfl, by go_num, by omega, hbs⟩
            case measure => simp [intOf]; omega
      · obtain rfl : k = nL := by omega
        have HB := hide (below_call B3.out hbr.out)
        go_wp2_with fail
        go_ret
        exact ⟨rfl, HB.out⟩
end
end Go.Proofs.YtidlnecgfgnllaaDoor
end
