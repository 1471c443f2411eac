import Derived.Test.YtidlnecgfgnllaaDoorMLcg
import Derived.Test.YtidlnecgfgnllaaDoorMBrrem
import Derived.Test.YtidlnecgfgnllaaDoorMLce3
import Derived.Test.YtidlnecgfgnllaaDoorMFrn
set_option linter.unusedVariables false
set_option linter.unusedSimpArgs false
section
/-
  The contracts of the reference's missing, First and Check (chapter 17). Conditions: those of the types; the function is right; the annotation can be read.
-/
namespace Go.Proofs.YtidlnecgfgnllaaDoor
open Go.RowKit

section
variable {P : Int} {A1 : Option Addr} {n1 c1 : Nat} {A2 : Option Addr} {n2 c2 : Nat} {AL : Option Addr} {nL cL k : Nat} {l : List Ins} {L : List (List Int)} {w : World}
set_option maxRecDepth 100000 in
set_option maxHeartbeats 4000000 in
theorem missing_any (w : World) (hC : Hid (CdAt w A2 n2 l)) (hok : Hid (LvOk l n1)) (hL : Hid (Ann w AL n2 L)) (hLI : Hid (LvIn n2 n1 L)) (hk : k < n2) :
    Calls Tryd.prog 30 #[fv P A1 n1 c1 A2 n2 c2, .agg #[.slice AL n2 cL], .int .i64 (k : Int)] w (OutPost (msL l L k (suc l k)) w) := by
  have hlen := hC.out.len
  have hn2 := hC.out.few
  obtain ⟨W2, hW2⟩ : ∃ W, (w.alloc (.cells #[.int .i64 P, .slice A1 n1 c1, .slice A2 n2 c2] 30)).alloc (.cells #[.slice AL n2 cL] 25) = W := ⟨_, rfl⟩
  have F2 := hide (show Row W2 w.heap.size 30 [.int .i64 P, .slice A1 n1 c1, .slice A2 n2 c2] by rw [← hW2]; exact (Row.new w _ _).alloc _)
  have L2 := hide (show Row W2 (w.heap.size + 1) 25 [.slice AL n2 cL] by rw [← hW2]; exact (Row.new _ _ _).at_ (by simp))
  have B2 := hide (show Below w.heap.size w W2 by rw [← hW2]; exact below2 w _ _)
  have HW2 := hide hW2
  have cn := rnext_any (P := P) (A1 := A1) (n1 := n1) (c1 := c1) (c2 := c2) (k : Int) W2 (hide (hC.out.below B2.out)) hok.out.flow
  rw [sucZ_nat] at cn
  have hXS := hide (fun (j : Nat) (h : j ∈ suc l k) => suc_lt hok.out.flow h)
  have hX2 := hide (suc_len l k)
  obtain ⟨xs, hxs⟩ : ∃ xs, suc l k = xs := ⟨_, rfl⟩
  rw [hxs] at cn hXS hX2 ⊢
  have HXS := hide hxs
  have q0 := F2.out.cell (k := 0) rfl
  have q1 := F2.out.cell (k := 1) rfl
  have q2 := F2.out.cell (k := 2) rfl
  clear hW2 hxs
  go_enter Tryd.func30, Tryd.ntmps30
  go_upto_region 1 with (fail)
  rw [HW2.out]
  clear HW2
  go_wp2_with fail
  refine cn.mono ?_
  rintro e w5 ⟨A5, c5, rfl, ho5, hb5⟩
  have B5 := hide (below_call B2.out hb5)
  have F5 := hide (F2.out.call hb5)
  have L5 := hide (L2.out.call hb5)
  have N5 := hide (show w5.ownsRow w.heap.size 3 1 (.slice A5 xs.length c5) xs.length (cellsI (toI xs)) by rw [toI_len] at ho5; exact own_lower ho5 B2.out.size)
  rw [toI_len]
  have hx2 : xs.length ≤ 2 := hX2.out
  clear hb5 ho5 cn q0 q1 q2 F2 L2 B2
  go_wp2_with fail
  go_loopw [7, 9, 10] (fun s7 s9 s10 wr => ∃ (i : Nat) (A : Option Addr) (c : Nat), s7 = .slice A (msL l L k (xs.take i)).length c ∧ s9 = .int .i64 (i : Int) ∧ i ≤ xs.length ∧ Hid (wr.ownsRow w.heap.size 3 1 (.slice A (msL l L k (xs.take i)).length c) (msL l L k (xs.take i)).length (cellsI (msL l L k (xs.take i)))) ∧ Hid (Below w5.heap.size w5 wr)) (fun _ s9 _ _ => xs.length - (intOf s9).toNat)
  case atStart => exact ⟨0, none, 0, rfl, rfl, by omega, hide (World.ownsRow_nil _ _ _ _), hide (Below.refl _ _)⟩
  case round =>
    obtain ⟨i, Au, cu, rfl, rfl, hi, hU, hbr⟩ := hrel
    have BB := hide (below_call B5.out hbr.out)
    by_cases hlt : i < xs.length
    · have hN := hide (own_below N5.out hbr.out)
      obtain ⟨g5, c5', he5, -, -, -, -⟩ := own_block hN.out (by omega)
      injection he5 with he5 _ he5c
      subst he5 he5c
      have hjx := List.getElem?_eq_getElem hlt
      have hjm := List.getElem_mem hlt
      have x0 : wr.cell? ⟨g5, i, none⟩ = some (.int .i64 ((xs[i] : Nat) : Int)) := by
        rw [hN.out.cellAt i (by omega), cellsI, List.getElem?_map, toI_get, hjx]; rfl
      have hjl : xs[i] < l.length := hXS.out xs[i] hjm
      have HST := hide (msL_take (l := l) (L := L) (k := k) hjx)
      generalize xs[i] = j at x0 hjl HST
      obtain ⟨x, hx⟩ : ∃ x, l[j]? = some x := ⟨_, List.getElem?_eq_getElem hjl⟩
      obtain ⟨_, hxe⟩ := List.getElem?_eq_some_iff.1 hx
      obtain ⟨b2, o2, rfl, hb2, y0, y1, y2, y3, y4⟩ := ins_at hC.out.see hjl
      rw [hxe] at y0 y1 y2 y3 y4
      obtain ⟨b3, o3, A3, c3, rfl, hb3, y5, hl3, hn3⟩ := hL.out.at_ (i := j) (by omega)
      obtain ⟨b3', o3', A4, c4, he4, -, y6, hl4, hn4⟩ := hL.out.at_ (i := k) hk
      injection he4 with he4
      injection he4 with he4 he5
      subst he4 he5
      obtain ⟨zj, hzj⟩ : ∃ z, L.getD j [] = z := ⟨_, rfl⟩
      obtain ⟨zk, hzk⟩ : ∃ z, L.getD k [] = z := ⟨_, rfl⟩
      have hzA : Asc zj := by rw [← hzj]; exact hLI.out.asc j
      have hKJ : inK l L j = inX x zj := by rw [inK_some hx, hzj]
      rw [hzj] at y5 hl3
      rw [hzk] at y6 hl4 HST
      have HVA := hide (inK_asc (l := l) (L := L) hLI.out.asc j)
      have CI := hide (fun (V : World) (h : Below w.heap.size w V) =>
        (show Calls Tryd.prog 50 #[iv x.op x.a x.b x.c x.imm, .slice A3 zj.length c3] V (OutPost (inK l L j) V) by
          have q := rin_use x.op x.a x.b x.c x.imm A3 zj.length c3 zj V (hide (hok.out.usAsc hx)) (hide (hl3.below h)) (hide hzA) (hide hn3)
          rw [hKJ]
          exact q))
      obtain ⟨v, hv⟩ : ∃ v, inK l L j = v := ⟨_, rfl⟩
      rw [hv] at HVA CI HST
      have CM := hide (fun (V : World) (A' : Option Addr) (c' : Nat) (h : Hid (Lst V A' v.length v)) (hb : Below w.heap.size w V) =>
        (s_minus c' c4 h (hide (hl4.below hb)) HVA (hide rfl) : Calls Tryd.prog 40 #[.slice A' v.length c', .slice A4 zk.length c4] V (OutPost (minusL v zk) V)))
      have HMA := hide (minusL_asc HVA.out zk)
      obtain ⟨m, hm⟩ : ∃ m, minusL v zk = m := ⟨_, rfl⟩
      rw [hm] at CM HST HMA
      have HUA := hide (msL_asc l L k (xs.take i))
      obtain ⟨u, hu⟩ : ∃ u, msL l L k (xs.take i) = u := ⟨_, rfl⟩
      rw [hu] at HUA hU HST
      obtain ⟨_, _, hau, hnu, -⟩ := own_form hU.out
      injection hau with ha1 _ ha3
      subst ha1 ha3
      have HUL := hide (lst_own hU.out (IntOk.asc HUA.out))
      have CU := hide (fun (V : World) (A' : Option Addr) (c' : Nat) (h : Hid (Lst V A' m.length m)) (hb : Below wr.heap.size wr V) =>
        (s_union cu c' (hide (HUL.out.below hb)) h (hide hnu) HUA HMA (hide rfl) : Calls Tryd.prog 20 #[.slice Au u.length cu, .slice A' m.length c'] V (OutPost (unionL u m) V)))
      have HRA := hide (unionL_asc (b := m) HUA.out)
      obtain ⟨r, hr⟩ : ∃ r, unionL u m = r := ⟨_, rfl⟩
      rw [hr] at CU HST HRA
      rw [hu]
      have KS := hide (fun (V : World) (hb : Below w5.heap.size w5 V) =>
        (⟨(F5.out.call hb).cell (k := 2) rfl, (L5.out.call hb).cell (k := 0) rfl, keep_cellB (below_call B5.out hb) y0, keep_cellB (below_call B5.out hb) y1, keep_cellB (below_call B5.out hb) y2, keep_cellB (below_call B5.out hb) y3, keep_cellB (below_call B5.out hb) y4, keep_cellB (below_call B5.out hb) y5, keep_cellB (below_call B5.out hb) y6⟩ :
        _ ∧ _ ∧ _ ∧ _ ∧ _ ∧ _ ∧ _ ∧ _ ∧ _))
      have B0 := hide (show Below wr.heap.size wr wr.drew from (Below.refl _ _).drew)
      have D0 := hide (below_call hbr.out B0.out)
      have HS0 := KS.out _ D0.out
      have hi0 : (0 : Int) ≤ (i : Int) := by omega
      have hin : (i : Int) < (xs.length : Int) := by omega
      have hk0 : (0 : Int) ≤ (k : Int) := by omega
      have hkn : (k : Int) < (n2 : Int) := by omega
      have hj0 : (0 : Int) ≤ (j : Int) := by omega
      have hjn : (j : Int) < (n2 : Int) := by omega
      clear hjx hjm hx hxe hzj hzk hzA hKJ hv hm hu hr y0 y1 y2 y3 y4 y5 y6 hl3 hl4 hn3 hn4 hb2 hb3 hnu hU
      go_upto_region 7 with (fail)
      clear x0 hN
      go_region_held3 (fun V => V.cell? ⟨w.heap.size, 2, none⟩ = some (.slice (some ⟨b2, o2, none⟩) n2 c2) ∧ V.cell? ⟨w.heap.size + 1, 0, none⟩ = some (.slice (some ⟨b3, o3, none⟩) n2 cL) ∧ V.cell? ⟨b2, o2 + j * 5, none⟩ = some (.int .i64 x.op) ∧ V.cell? ⟨b2, o2 + j * 5 + 1, none⟩ = some (.int .i64 x.a) ∧ V.cell? ⟨b2, o2 + j * 5 + 2, none⟩ = some (.int .i64 x.b) ∧ V.cell? ⟨b2, o2 + j * 5 + 3, none⟩ = some (.int .i64 x.c) ∧ V.cell? ⟨b2, o2 + j * 5 + 4, none⟩ = some (.int .u64 x.imm) ∧ V.cell? ⟨b3, o3 + j, none⟩ = some (.slice A3 zj.length c3) ∧ V.cell? ⟨b3, o3 + k, none⟩ = some (.slice A4 zk.length c4))
        (first | exact HS0 | exact HS6 | exact HS7 | exact HS8)
        (first
          | (go_at_call 50; with_reducible refine Calls.mono (CI.out _ (below_call B5.out D0.out)) ?_; intro e w6 h6; obtain ⟨A6, c6, rfl, HL6, -, hb6⟩ := OutPost.open h6 HVA; have B6 := hide (below_call B0.out hb6); have D6 := hide (below_call D0.out hb6); have HS6 := KS.out _ D6.out; clear h6 hb6)
          | (go_at_call 40; with_reducible refine Calls.mono (CM.out _ A6 c6 HL6 (below_call B5.out D6.out)) ?_; intro e w7 h7; obtain ⟨A7, c7, rfl, HL7, -, hb7⟩ := OutPost.open h7 HMA; have B7 := hide (below_call B6.out hb7); have D7 := hide (below_call D6.out hb7); have HS7 := KS.out _ D7.out; clear h7 hb7)
          | (go_at_call 20; with_reducible refine Calls.mono (CU.out _ A7 c7 HL7 B7.out) ?_; intro e w8 h8; unfold OutPost at h8; obtain ⟨A8, c8, rfl, ho8, hb8⟩ := h8; have D8 := hide (below_call D7.out hb8); have HO8 := hide (own_lower ho8 (below_call B5.out D7.out).size); have HS8 := KS.out _ D8.out; clear ho8 hb8))
      clear HS0 HS6 HS7 HS8 CI CM CU KS
      go_wp2_with fail
      go_roundw
      case rel => exact ⟨i + 1, A8, c8, by rw [HST.out], by go_num, by omega, by rw [HST.out]; exact HO8, D8⟩
      case measure => simp [intOf]; omega
    · obtain rfl : i = xs.length := by omega
      rw [List.take_length] at hU ⊢
      have HF := hide (show OutPost (msL l L k xs) w (.returned (.slice Au (msL l L k xs).length cu)) wr from ⟨Au, cu, rfl, hU.out, BB.out⟩)
      clear hU
      go_wp2_with fail
      go_ret
      exact HF.out
set_option maxRecDepth 100000 in
set_option maxHeartbeats 4000000 in
theorem rfirst17_any (w : World) (hC : Hid (CdAt w A2 n2 l)) (hok : Hid (LvOk l n1)) (hL : Hid (Ann w AL nL L)) :
    Calls Tryd.prog 11 #[fv P A1 n1 c1 A2 n2 c2, .agg #[.slice AL nL cL]] w fun e w' => e = .returned (fval (frV l n1 L)) ∧ Below w.heap.size w w' := by
  have hlen := hC.out.len
  have hn2 := hC.out.few
  have hn1 := hok.out.few
  obtain ⟨W2, hW2⟩ : ∃ W, (w.alloc (.cells #[.int .i64 P, .slice A1 n1 c1, .slice A2 n2 c2] 30)).alloc (.cells #[.slice AL nL cL] 25) = W := ⟨_, rfl⟩
  have F2 := hide (show Row W2 w.heap.size 30 [.int .i64 P, .slice A1 n1 c1, .slice A2 n2 c2] by rw [← hW2]; exact (Row.new w _ _).alloc _)
  have L2 := hide (show Row W2 (w.heap.size + 1) 25 [.slice AL nL cL] by rw [← hW2]; exact (Row.new _ _ _).at_ (by simp))
  have B2 := hide (show Below w.heap.size w W2 by rw [← hW2]; exact below2 w _ _)
  have HW2 := hide hW2
  have cb := shape_any (P := P) (A1 := A1) (n1 := n1) (c1 := c1) (A2 := A2) (n2 := n2) (c2 := c2) (cL := cL) W2 hn2 (by omega) (hide (hL.out.below B2.out))
  have HE := hide (show frV l n1 L = if belB n2 n1 L = true then fstV l L else (0, 0, false) by unfold frV; rw [hlen])
  rw [HE.out]
  have q0 := F2.out.cell (k := 0) rfl
  have q1 := F2.out.cell (k := 1) rfl
  have q2 := F2.out.cell (k := 2) rfl
  have q3 := L2.out.cell (k := 0) rfl
  clear hW2 HE
  cases hb : belB n2 n1 L with
  | false =>
    rw [hb] at cb
    rw [if_neg (by decide)]
    clear hb
    go_enter Tryd.func11, Tryd.ntmps11
    go_upto_region 1 with (fail)
    rw [HW2.out]
    go_wp2_with fail
    refine cb.mono ?_
    rintro e w3 ⟨rfl, hb3⟩
    have HB3 := hide (below_call B2.out hb3)
    clear cb hb3 q0 q1 q2 q3
    go_wp2_with fail
    exact bodyPost_ret (v := fval (0, 0, false)) (by simp [results, Tryd.results11, go_sem, fval]) rfl ⟨rfl, HB3.out⟩
  | true =>
    rw [hb] at cb
    rw [if_pos rfl]
    have HLI := hide (belB_iff.1 hb)
    have hnl : nL = n2 := by have h1 := hL.out.len; have h2 := HLI.out.len; omega
    subst hnl
    clear hb
    have HVL := hide (fun (k : Nat) (s : Int) (b : Bool) (h : Fst l L k s b) => h.val HLI.out.asc)
    obtain ⟨p, hp⟩ : ∃ p, fstV l L = p := ⟨_, rfl⟩
    rw [hp] at HVL ⊢
    clear hp
    go_enter Tryd.func11, Tryd.ntmps11
    go_upto_region 1 with (fail)
    rw [HW2.out]
    go_wp2_with fail
    refine cb.mono ?_
    rintro e w3 ⟨rfl, hb3⟩
    have HB3 := hide (below_call B2.out hb3)
    have F3 := hide (F2.out.call hb3)
    have L3 := hide (L2.out.call hb3)
    clear cb hb3 q0 q1 q2 q3 F2 L2
    go_wp2_with fail
    go_loopw [7, 8] (fun s7 s8 wr => ∃ k : Nat, s7 = .int .i64 (k : Int) ∧ k ≤ nL ∧ Hid (∀ m z, m < k → ¬ Ms l L m z) ∧ Hid (Below w3.heap.size w3 wr)) (fun s7 _ _ => nL - (intOf s7).toNat)
    case atStart => exact ⟨0, rfl, by omega, hide (fun m z h => by omega), hide (Below.refl _ _)⟩
    case round =>
      obtain ⟨k, rfl, hk, hM, hbr⟩ := hrel
      have q0 := (F3.out.call hbr.out).cell (k := 0) rfl
      have q1 := (F3.out.call hbr.out).cell (k := 1) rfl
      have q2 := (F3.out.call hbr.out).cell (k := 2) rfl
      have q3 := (L3.out.call hbr.out).cell (k := 0) rfl
      have BB := hide (below_call HB3.out hbr.out)
      by_cases hlt : k < nL
      · have hk0 : (0 : Int) ≤ (k : Int) := by omega
        have hkn : (k : Int) < (nL : Int) := by omega
        have cm := missing_any (P := P) (A1 := A1) (c1 := c1) (c2 := c2) (cL := cL) wr (hide (hC.out.below BB.out)) hok (hide (hL.out.below BB.out)) HLI hlt
        have HMS := hide (fun z => mem_ms (l := l) (k := k) (z := z) HLI.out.asc)
        have HMA := hide (msL_asc l L k (suc l k))
        obtain ⟨m, hm⟩ : ∃ m, msL l L k (suc l k) = m := ⟨_, rfl⟩
        rw [hm] at cm HMS HMA
        clear hm
        go_wp2_with fail
        refine cm.mono ?_
        rintro e w4 h4
        obtain ⟨A4, c4, rfl, HL4, -, hb4⟩ := OutPost.open h4 HMA
        have HB4 := hide (below_call hbr.out hb4)
        clear h4 hb4 cm q0 q1 q2 q3
        cases m with
        | nil =>
          have HM := hide (show ∀ m z, m < k + 1 → ¬ Ms l L m z from fun m z h hz => by
            by_cases e : m = k
            · subst e
              have := (HMS.out z).2 hz
              cases this
            · exact hM.out m z (by omega) hz)
          clear HMS HL4 HMA
          go_wp2_with fail
          go_roundw
          case rel => exact ⟨k + 1, by go_num, by omega, HM, HB4⟩
          case measure => simp [intOf]; omega
        | cons t r =>
          have HP := hide (HVL.out k t true (.inr ⟨rfl, by omega, (HMS.out t).1 (by simp), fun z hz => asc_head HMA.out ((HMS.out z).2 hz), hM.out⟩))
          obtain ⟨b7, o7, rfl, hb7, x0⟩ := HL4.out.see 0 (.int .i64 t) rfl
          rw [Nat.add_zero] at x0
          have hlr := HL4.out.le
          have BF := hide (below_call HB3.out HB4.out)
          clear HMS HL4 HMA hb7
          go_wp2_with fail
          go_quiet (fail)
          clear x0
          go_wp2_with fail
          exact bodyPost_ret (v := .tuple #[.int .i64 (k : Int), .int .i64 t, .bool true]) (by simp [results, Tryd.results11, go_sem]) rfl ⟨by rw [HP.out]; rfl, below_draws BF.out _⟩
      · obtain rfl : k = nL := by omega
        have HP := hide (HVL.out 0 0 false (.inl ⟨rfl, rfl, rfl, fun m z h => hM.out m z (by omega)⟩))
        clear q0 q1 q3
        go_wp2_with fail
        exact bodyPost_ret (v := .tuple #[.int .i64 0, .int .i64 0, .bool false]) (by simp [results, Tryd.results11, go_sem]) rfl ⟨by rw [HP.out]; rfl, BB.out⟩
set_option maxHeartbeats 2000000 in
theorem rcheck17_any (w : World) (hC : Hid (CdAt w A2 n2 l)) (hok : Hid (LvOk l n1)) (hL : Hid (Ann w AL nL L)) :
    Calls Tryd.prog 13 #[fv P A1 n1 c1 A2 n2 c2, .agg #[.slice AL nL cL]] w fun e w' => e = .returned (.int .i64 (if okL l n1 L then 0 else 11)) ∧ Below w.heap.size w w' := by
  have hlen := hC.out.len
  have hn2 := hC.out.few
  have hn1 := hok.out.few
  obtain ⟨W2, hW2⟩ : ∃ W, (w.alloc (.cells #[.int .i64 P, .slice A1 n1 c1, .slice A2 n2 c2] 30)).alloc (.cells #[.slice AL nL cL] 25) = W := ⟨_, rfl⟩
  have F2 := hide (show Row W2 w.heap.size 30 [.int .i64 P, .slice A1 n1 c1, .slice A2 n2 c2] by rw [← hW2]; exact (Row.new w _ _).alloc _)
  have L2 := hide (show Row W2 (w.heap.size + 1) 25 [.slice AL nL cL] by rw [← hW2]; exact (Row.new _ _ _).at_ (by simp))
  have B2 := hide (show Below w.heap.size w W2 by rw [← hW2]; exact below2 w _ _)
  have HW2 := hide hW2
  have cf := rfirst17_any (P := P) (A1 := A1) (n1 := n1) (c1 := c1) (c2 := c2) (cL := cL) W2 (hide (hC.out.below B2.out)) hok (hide (hL.out.below B2.out))
  have HE := hide (show okL l n1 L = (belB n2 n1 L && !(fstV l L).2.2) by unfold okL; rw [hlen])
  have HG := hide (show frV l n1 L = if belB n2 n1 L = true then fstV l L else (0, 0, false) by unfold frV; rw [hlen])
  rw [HE.out]
  rw [HG.out] at cf
  have q0 := F2.out.cell (k := 0) rfl
  have q1 := F2.out.cell (k := 1) rfl
  have q2 := F2.out.cell (k := 2) rfl
  have q3 := L2.out.cell (k := 0) rfl
  have CS := hide (fun (V : World) (hb : Below W2.heap.size W2 V) => shape_any (P := P) (A1 := A1) (n1 := n1) (c1 := c1) (A2 := A2) (n2 := n2) (c2 := c2) (cL := cL) V hn2 (by omega) (hide (hL.out.below (below_call B2.out hb))))
  clear hW2 HE HG
  cases hb : belB n2 n1 L with
  | false =>
    rw [hb] at cf CS
    rw [if_neg (by decide)] at cf
    rw [Bool.false_and, if_neg (by decide)]
    unfold fval at cf
    clear hb
    go_enter Tryd.func13, Tryd.ntmps13
    go_upto_region 1 with (fail)
    rw [HW2.out]
    go_wp2_with fail
    refine cf.mono ?_
    rintro e w3 ⟨rfl, hb3⟩
    have cs := CS.out w3 hb3
    have HB3 := hide (below_call B2.out hb3)
    have F3 := hide (F2.out.call hb3)
    have L3 := hide (L2.out.call hb3)
    clear cf hb3 q0 q1 q2 q3 CS
    have q0 := F3.out.cell (k := 0) rfl
    have q1 := F3.out.cell (k := 1) rfl
    have q2 := F3.out.cell (k := 2) rfl
    have q3 := L3.out.cell (k := 0) rfl
    go_wp2_with fail
    refine cs.mono ?_
    rintro e w4 ⟨rfl, hb4⟩
    have HB4 := hide (below_call HB3.out hb4)
    clear cs hb4 q0 q1 q2 q3
    go_wp2_with fail
    go_ret
    exact ⟨rfl, HB4.out⟩
  | true =>
    rw [hb] at cf CS
    rw [if_pos rfl] at cf
    rw [Bool.true_and]
    clear hb
    obtain ⟨⟨k, s, b⟩, hp⟩ : ∃ p, fstV l L = p := ⟨_, rfl⟩
    rw [hp] at cf ⊢
    clear hp
    unfold fval at cf
    go_enter Tryd.func13, Tryd.ntmps13
    go_upto_region 1 with (fail)
    rw [HW2.out]
    go_wp2_with fail
    refine cf.mono ?_
    rintro e w3 ⟨rfl, hb3⟩
    have cs := CS.out w3 hb3
    have HB3 := hide (below_call B2.out hb3)
    have F3 := hide (F2.out.call hb3)
    have L3 := hide (L2.out.call hb3)
    clear cf hb3 q0 q1 q2 q3 CS
    cases b with
    | true =>
      go_wp2_with fail
      go_ret
      exact ⟨rfl, HB3.out⟩
    | false =>
      have q0 := F3.out.cell (k := 0) rfl
      have q1 := F3.out.cell (k := 1) rfl
      have q2 := F3.out.cell (k := 2) rfl
      have q3 := L3.out.cell (k := 0) rfl
      go_wp2_with fail
      refine cs.mono ?_
      rintro e w4 ⟨rfl, hb4⟩
      have HB4 := hide (below_call HB3.out hb4)
      clear cs hb4 q0 q1 q2 q3
      go_wp2_with fail
      go_ret
      exact ⟨rfl, HB4.out⟩
end
end Go.Proofs.YtidlnecgfgnllaaDoor
end
