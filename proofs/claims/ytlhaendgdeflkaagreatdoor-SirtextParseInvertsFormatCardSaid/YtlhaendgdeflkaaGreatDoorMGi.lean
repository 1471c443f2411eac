import Derived.Test.YtlhaendgdeflkaaGreatDoorMGh
import Derived.Test.YtlhaendgdeflkaaGreatDoorMGc
set_option linter.unusedVariables false
set_option linter.unusedSimpArgs false
section
/-
  The reference's CheckFunc and Check. Conditions: those of the types.
-/
namespace Go.Proofs.YtlhaendgdeflkaaGreatDoor
open Go.RowKit

theorem closedB_last {l : List Ins} {n : Nat} (h : l.length = n + 1) (hl : n < l.length) : closedB l = termB l[n].op := by
  unfold closedB
  rw [List.getLast?_eq_getElem?, h, Nat.add_sub_cancel, List.getElem?_eq_getElem hl]

set_option maxRecDepth 100000 in
set_option maxHeartbeats 4000000 in
theorem rchkfn_any (w : World) (lo : Nat) (A : Option Addr) (n c : Nat) (hs : List Hd) (F : Pg) (i : Nat) (f : Fn) (H : Hid (PgAt w lo w.heap.size A n c hs F)) (hn : n ≤ 100000) (hf : Hid (F[i]? = some f)) :
    Calls Tryz.prog 35 #[gv A n c, .int .i64 (i : Int)] w fun e w' => e = .returned (.int .i64 (fnE n f)) ∧ Below w.heap.size w w' := by
  have hin : i < n := by
    rw [← H.out.len]
    exact (List.getElem?_eq_some_iff.1 hf.out).1
  obtain ⟨b, off, P, A1, n1, c1, A2, n2, c2, f', rfl, hb, hFi, hhs, HF, e0, e1, e2⟩ := fn_at H.out hin
  rw [hf.out] at hFi
  injection hFi with hFi
  subst hFi
  have l1 := HF.l1
  have l2 := HF.l2
  have hP := HF.p
  simp only at l1 l2 hP
  have HL1 := hide l1
  have HL2 := hide l2
  have hn2 : n2 ≤ 8796093022208 := HF.k2.2.2
  have hn1 : n1 ≤ 8796093022208 := HF.k1.2.2
  have hi1 : withB (i : Int) (n : Int) = true := withB_true.2 ⟨by omega, by omega⟩
  have hiz : (i : Int) < (n : Int) := by omega
  obtain ⟨Wp, hWp⟩ : ∃ W, w.alloc (.cells #[.slice (some ⟨b, off, none⟩) n c] 29) = W := ⟨_, rfl⟩
  obtain ⟨Wf, hWf⟩ : ∃ W, Wp.alloc (.cells #[.int .i64 P, .slice A1 n1 c1, .slice A2 n2 c2] 49) = W := ⟨_, rfl⟩
  obtain ⟨gf, hgf⟩ : ∃ g, Wp.heap.size = g := ⟨_, rfl⟩
  have hbp := hide (show Below w.heap.size w Wp by rw [← hWp]; exact below1 w _)
  have hbf := hide (show Below w.heap.size w Wf by rw [← hWf]; exact hbp.out.alloc hbp.out.size _)
  have rp := hide (show Row Wf w.heap.size 29 [.slice (some ⟨b, off, none⟩) n c] by rw [← hWf, ← hWp]; exact (Row.new w _ _).alloc _)
  have rf := hide (show Row Wf gf 49 [.int .i64 P, .slice A1 n1 c1, .slice A2 n2 c2] by rw [← hWf, ← hgf]; exact Row.new Wp _ _)
  have rp0 : Wp.cell? ⟨w.heap.size, 0, none⟩ = some (.slice (some ⟨b, off, none⟩) n c) := by rw [← hWp]; exact (Row.new w 29 [.slice (some ⟨b, off, none⟩) n c]).cell (k := 0) rfl
  have p0 := (hbp.out.cell (p := ⟨b, off + i * 3, none⟩) hb).trans e0
  have p1 := (hbp.out.cell (p := ⟨b, off + i * 3 + 1, none⟩) hb).trans e1
  have p2 := (hbp.out.cell (p := ⟨b, off + i * 3 + 2, none⟩) hb).trans e2
  have HX := hide (show PgAt Wf lo Wf.heap.size (some ⟨b, off, none⟩) n c hs F by rw [← hWf, ← hWp]; exact (H.out.alloc _).alloc _)
  have HFX := hide (show HdAt Wf lo w.heap.size ⟨P, A1, n1, c1, A2, n2, c2⟩ f from HF.below hbf.out)
  have cs := rslots_any A1 n1 c1 f.slots w.heap.size Wf HL1 (by omega) HFX.out.s1
  have g0 := rf.out.cell (k := 0) rfl
  have g1 := rf.out.cell (k := 1) rfl
  have g2 := rf.out.cell (k := 2) rfl
  have z0 := rp.out.cell (k := 0) rfl
  have HWp := hide hWp
  have HWf := hide hWf
  have HGF := hide hgf
  have HP := hide hP
  clear hWp hWf hgf e0 e1 e2 HF hb l1 l2 hP hhs
  by_cases h3 : 1024 < n2
  · have E := hide (show fnE n f = 3 by unfold fnE; rw [if_pos (by rw [HL2.out]; exact h3)])
    have h3z : (1024 : Int) < (n2 : Int) := by omega
    go_enter Tryz.func35, Tryz.ntmps35
    go_upto_region 1 with (fail)
    rw [HWp.out]
    clear HWp
    go_upto_region 4 with (go_at_call 58; refine (rwithin_any _ _ _).mono ?_; rintro e w' ⟨rfl, rfl⟩)
    rw [HWf.out, HGF.out]
    clear HWf HGF
    go_wp2
    go_ret
    exact ⟨ret_int E.out.symm, hbf.out⟩
  · have h3z : (n2 : Int) ≤ 1024 := by omega
    have h3n : ¬ (1024 < f.code.length) := by rw [HL2.out]; exact h3
    by_cases hse : slotsE f.slots = 0
    · rw [hse] at cs
      by_cases hPl : P < 0
      · have E := hide (show fnE n f = 4 by unfold fnE; rw [if_neg h3n, if_neg (by simp [hse]), if_pos (withB_false.2 (by rw [← HP.out]; omega))])
        go_enter Tryz.func35, Tryz.ntmps35
        go_upto_region 1 with (fail)
        rw [HWp.out]
        clear HWp
        go_upto_region 4 with (go_at_call 58; refine (rwithin_any _ _ _).mono ?_; rintro e w' ⟨rfl, rfl⟩)
        rw [HWf.out, HGF.out]
        clear HWf HGF
        go_wp2_with fail
        refine cs.mono ?_
        rintro e w' ⟨rfl, rfl⟩
        go_wp2
        go_ret
        exact ⟨ret_int E.out.symm, hbf.out⟩

      · by_cases hPg : 8 < P
        · have E := hide (show fnE n f = 4 by unfold fnE; rw [if_neg h3n, if_neg (by simp [hse]), if_pos (withB_false.2 (by rw [← HP.out]; omega))])
          go_enter Tryz.func35, Tryz.ntmps35
          go_upto_region 1 with (fail)
          rw [HWp.out]
          clear HWp
          go_upto_region 4 with (go_at_call 58; refine (rwithin_any _ _ _).mono ?_; rintro e w' ⟨rfl, rfl⟩)
          rw [HWf.out, HGF.out]
          clear HWf HGF
          go_wp2_with fail
          refine cs.mono ?_
          rintro e w' ⟨rfl, rfl⟩
          go_wp2
          go_ret
          exact ⟨ret_int E.out.symm, hbf.out⟩

        · have hP0 : 0 ≤ P := by omega
          have hP8 : P ≤ 8 := by omega
          have EF := hide (show fnE n f = if firstE (f.code.map (insE n f)) ≠ 0 then firstE (f.code.map (insE n f)) else if closedB f.code = false then 6 else 0 by
            unfold fnE
            rw [if_neg h3n, if_neg (by simp [hse]), if_neg (by rw [withB_true.2 (by rw [← HP.out]; omega)]; simp)])
          clear hPl hPg h3 h3n hse
          go_enter Tryz.func35, Tryz.ntmps35
          go_upto_region 1 with (fail)
          rw [HWp.out]
          clear HWp
          go_upto_region 4 with (go_at_call 58; refine (rwithin_any _ _ _).mono ?_; rintro e w' ⟨rfl, rfl⟩)
          rw [HWf.out, HGF.out]
          clear HWf HGF
          go_wp2_with fail
          refine cs.mono ?_
          rintro e w' ⟨rfl, rfl⟩
          clear cs g1 p0 p1 p2 z0 rp0
          go_wp2_with fail
          go_loopw [7, 8] (fun kv _ wr => ∃ k : Nat, k ≤ n2 ∧ kv = .int .i64 (k : Int) ∧ Hid (Below Wf.heap.size Wf wr) ∧ Hid (∀ j, j < k → (f.code.map (insE n f))[j]? = some 0)) (fun kv _ _ => n2 - (intOf kv).toNat)
          case atStart => exact ⟨0, Nat.zero_le _, rfl, hide (Below.refl _ _), hide (fun j hj => by omega)⟩
          case round =>
            obtain ⟨k, hk, rfl, HB, HZ⟩ := hrel
            have rp5 := hide (rp.out.call HB.out)
            have rf5 := hide (rf.out.call HB.out)
            have HX5 := hide (HX.out.call HB.out)
            have u0 := rp5.out.cell (k := 0) rfl
            have v0 := rf5.out.cell (k := 0) rfl
            have v2 := rf5.out.cell (k := 2) rfl
            have HBW := hide (hbf.out.trans (HB.out.mono hbf.out.size))
            clear g0 g2
            by_cases hlt : k < n2
            · have hlz : (k : Int) < (n2 : Int) := by omega
              have hkl : k < f.code.length := by rw [HL2.out]; exact hlt
              have ci := rchkins_any wr lo (some ⟨b, off, none⟩) n c hs F i k f f.code[k] HX5 hn hf (hide (List.getElem?_eq_getElem hkl))
              have HM := hide (show (f.code.map (insE n f))[k]? = some (insE n f f.code[k]) by rw [List.getElem?_map, List.getElem?_eq_getElem hkl]; rfl)
              rcases Decidable.em (insE n f f.code[k] = 0) with hz | hz
              · rw [hz] at ci HM
                clear hz
                go_wp2_with fail
                refine ci.mono ?_
                rintro e w6 ⟨rfl, hb6⟩
                have HB6 := hide (HB.out.trans (hb6.mono HB.out.size))
                clear hb6 ci u0 v0 v2
                go_wp2_with fail
                go_roundw
                case rel => exact ⟨k + 1, by omega, by go_num, HB6, hide (fun j hj => by
                  rcases Nat.lt_or_ge j k with h | h
                  · exact HZ.out j h
                  · obtain rfl : j = k := by omega
                    exact HM.out)⟩
                case measure => simp [intOf]; omega
              · have E := hide (show fnE n f = insE n f f.code[k] by
                  have hh := firstE_hit HM.out hz HZ.out
                  rw [EF.out, hh, if_pos hz])
                have hzb : (insE n f f.code[k] == 0) = false := by rw [beq_eq_false_iff_ne]; exact hz
                obtain ⟨x, hx⟩ : ∃ x, insE n f f.code[k] = x := ⟨_, rfl⟩
                rw [hx] at ci E hzb
                clear hz hx HM
                go_wp2_with fail
                refine ci.mono ?_
                rintro e w6 ⟨rfl, hb6⟩
                have HB6 := hide (HBW.out.trans (hb6.mono HBW.out.size))
                clear hb6 ci u0 v0 v2
                go_wp2
                go_ret
                exact ⟨ret_int E.out.symm, HB6.out⟩
            · obtain rfl : k = n2 := by omega
              have hfz : firstE (f.code.map (insE n f)) = 0 := firstE_zero.2 (fun e he => by
                obtain ⟨j, hj, hje⟩ := List.mem_iff_getElem.1 he
                have hj2 : j < k := by rw [List.length_map] at hj; rw [← HL2.out]; exact hj
                have h1 := HZ.out j hj2
                rw [List.getElem?_eq_getElem hj, hje] at h1
                injection h1)
              have EF2 := hide (show fnE n f = if closedB f.code = false then 6 else 0 by rw [EF.out, if_neg (by simp [hfz])])
              clear hfz EF HZ
              cases k with
              | zero =>
                rw [show ((0 : Nat) : Int) = 0 from rfl]
                have hcz : closedB f.code = false := by
                  have h0 : f.code = [] := List.eq_nil_of_length_eq_zero HL2.out
                  rw [h0]; rfl
                have E := hide (show fnE n f = 6 by rw [EF2.out, if_pos hcz])
                clear hcz
                go_wp2
                go_ret
                exact ⟨ret_int E.out.symm, HBW.out⟩
              | succ q =>
                have hql : q < f.code.length := by rw [HL2.out]; omega
                have EC := hide (closedB_last HL2.out hql)
                obtain ⟨b2, off2, hA2, hb2, x0, -⟩ := ins_at (HFX.out.below (HB.out.mono hbf.out.size)).s2 hql
                simp only at hA2
                subst hA2
                have ct := fun w' : World => rterm_any f.code[q].op w'
                have hq0 : (0 : Int) ≤ (q : Int) := by omega
                have hqz : (q : Int) < ((q + 1 : Nat) : Int) := by omega
                have hne : ¬ (((q + 1 : Nat) : Int) = 0) := by omega
                have hqe : ((q + 1 : Nat) : Int) - 1 = (q : Int) := by omega
                obtain ⟨o, ho⟩ : ∃ o, f.code[q].op = o := ⟨_, rfl⟩
                rw [ho] at x0 ct EC
                clear ho
                rcases hte : termB o with _ | _
                · rw [hte] at ct EC
                  have E := hide (show fnE n f = 6 by rw [EF2.out, if_pos EC.out])
                  clear hte
                  go_wp2_with fail
                  refine (ct _).mono ?_
                  rintro e w' ⟨rfl, rfl⟩
                  go_wp2
                  go_ret
                  exact ⟨ret_int E.out.symm, HBW.out⟩
                · rw [hte] at ct EC
                  have E := hide (show fnE n f = 0 by rw [EF2.out, if_neg (by rw [EC.out]; simp)])
                  clear hte
                  go_wp2_with fail
                  refine (ct _).mono ?_
                  rintro e w' ⟨rfl, rfl⟩
                  go_wp2
                  go_ret
                  exact ⟨ret_int E.out.symm, HBW.out⟩
    · have E := hide (show fnE n f = slotsE f.slots by unfold fnE; rw [if_neg h3n, if_pos hse])
      have hsb : (slotsE f.slots == 0) = false := by rw [beq_eq_false_iff_ne]; exact hse
      obtain ⟨x, hx⟩ : ∃ x, slotsE f.slots = x := ⟨_, rfl⟩
      rw [hx] at cs E hsb
      clear hse hx h3n
      go_enter Tryz.func35, Tryz.ntmps35
      go_upto_region 1 with (fail)
      rw [HWp.out]
      clear HWp
      go_upto_region 4 with (go_at_call 58; refine (rwithin_any _ _ _).mono ?_; rintro e w' ⟨rfl, rfl⟩)
      rw [HWf.out, HGF.out]
      clear HWf HGF
      go_wp2_with fail
      refine cs.mono ?_
      rintro e w' ⟨rfl, rfl⟩
      go_wp2
      go_ret
      exact ⟨ret_int E.out.symm, hbf.out⟩

end Go.Proofs.YtlhaendgdeflkaaGreatDoor
end

section
/-
  The reference's Check of any program. Conditions: those of the types.
-/
namespace Go.Proofs.YtlhaendgdeflkaaGreatDoor
open Go.RowKit

set_option maxRecDepth 100000 in
set_option maxHeartbeats 4000000 in
theorem rcheck_any (w : World) (lo : Nat) (A : Option Addr) (n c : Nat) (hs : List Hd) (F : Pg) (H : Hid (PgAt w lo w.heap.size A n c hs F)) :
    Calls Tryz.prog 16 #[gv A n c] w fun e w' => e = .returned (.int .i64 (pgE F)) ∧ Below w.heap.size w w' := by
  have hlen := H.out.len
  have hnm : n ≤ 8796093022208 := H.out.cap.2.2
  have HLEN := hide hlen
  obtain ⟨Wp, hWp⟩ : ∃ W, w.alloc (.cells #[.slice A n c] 29) = W := ⟨_, rfl⟩
  have hbp := hide (show Below w.heap.size w Wp by rw [← hWp]; exact below1 w _)
  have rp := hide (show Row Wp w.heap.size 29 [.slice A n c] by rw [← hWp]; exact Row.new w _ _)
  have HX := hide (show PgAt Wp lo Wp.heap.size A n c hs F by rw [← hWp]; exact H.out.alloc _)
  have z0 := rp.out.cell (k := 0) rfl
  have HWp := hide hWp
  clear hWp
  by_cases h3 : 80 < n
  · have E := hide (show pgE F = 3 by unfold pgE; rw [if_pos (by rw [hlen]; exact h3)])
    have h3z : (80 : Int) < (n : Int) := by omega
    clear hlen
    go_enter Tryz.func16, Tryz.ntmps16
    go_upto_region 1 with (fail)
    rw [HWp.out]
    clear HWp
    go_wp2
    go_ret
    exact ⟨ret_int E.out.symm, hbp.out⟩
  · have h3z : (n : Int) ≤ 80 := by omega
    have h3n : ¬ (80 < F.length) := by omega
    cases n with
    | zero =>
      have E := hide (show pgE F = 4 by
        obtain rfl : F = [] := List.eq_nil_of_length_eq_zero hlen
        rfl)
      clear hlen h3n h3 h3z
      go_enter Tryz.func16, Tryz.ntmps16
      go_upto_region 1 with (fail)
      rw [HWp.out]
      clear HWp
      go_wp2
      go_ret
      exact ⟨ret_int E.out.symm, hbp.out⟩
    | succ q =>
      obtain ⟨n, hn⟩ : ∃ n, q + 1 = n := ⟨_, rfl⟩
      rw [hn] at hlen HX z0 h3z h3 H HLEN rp HWp ⊢
      have hn0 : 0 < n := by omega
      have hn0z : (0 : Int) < (n : Int) := by omega
      have hne : ((n : Int) == 0) = false := by rw [beq_eq_false_iff_ne]; omega
      obtain ⟨b, off, P, A1, n1, c1, A2, n2, c2, f, rfl, hb, hF0, hhs, HF, e0, -, -⟩ := fn_at H.out hn0
      have hP : P = f.params := HF.p
      rw [Nat.zero_mul, Nat.add_zero] at e0
      have p0 := (hbp.out.cell (p := ⟨b, off, none⟩) hb).trans e0
      have hpg : pgE F = if f.params ≠ 0 then 7 else firstE (F.map (fnE F.length)) := by
        unfold pgE
        rw [if_neg h3n]
        match F, hF0 with
        | g :: r, hF0 => simp at hF0; subst hF0; rfl
      clear hn hb HF e0 hhs
      by_cases hP0 : P = 0
      · have EF := hide (show pgE F = firstE (F.map (fnE n)) by rw [hpg, if_neg (by simp [← hP, hP0]), hlen])
        subst hP0
        clear hpg hP hF0 hlen h3n
        go_enter Tryz.func16, Tryz.ntmps16
        go_upto_region 1 with (fail)
        rw [HWp.out]
        clear HWp
        go_wp2_with fail
        go_loopw [3, 4] (fun kv _ wr => ∃ k : Nat, k ≤ n ∧ kv = .int .i64 (k : Int) ∧ Hid (Below Wp.heap.size Wp wr) ∧ Hid (∀ j, j < k → (F.map (fnE n))[j]? = some 0)) (fun kv _ _ => n - (intOf kv).toNat)
        case atStart => exact ⟨0, Nat.zero_le _, rfl, hide (Below.refl _ _), hide (fun j hj => by omega)⟩
        case round =>
          obtain ⟨k, hk, rfl, HB, HZ⟩ := hrel
          have rp5 := hide (rp.out.call HB.out)
          have HX5 := hide (HX.out.call HB.out)
          have u0 := rp5.out.cell (k := 0) rfl
          have HBW := hide (hbp.out.trans (HB.out.mono hbp.out.size))
          clear z0 p0
          by_cases hlt : k < n
          · have hlz : (k : Int) < (n : Int) := by omega
            have hkl : k < F.length := by rw [HLEN.out]; exact hlt
            have ci := rchkfn_any wr lo (some ⟨b, off, none⟩) n c hs F k F[k] HX5 (by omega) (hide (List.getElem?_eq_getElem hkl))
            have HM := hide (show (F.map (fnE n))[k]? = some (fnE n F[k]) by rw [List.getElem?_map, List.getElem?_eq_getElem hkl]; rfl)
            rcases Decidable.em (fnE n F[k] = 0) with hz | hz
            · rw [hz] at ci HM
              clear hz
              go_wp2_with fail
              refine ci.mono ?_
              rintro e w6 ⟨rfl, hb6⟩
              have HB6 := hide (HB.out.trans (hb6.mono HB.out.size))
              clear hb6 ci u0
              go_wp2_with fail
              go_roundw
              case rel => exact ⟨k + 1, by omega, by go_num, HB6, hide (fun j hj => by
                rcases Nat.lt_or_ge j k with h | h
                · exact HZ.out j h
                · obtain rfl : j = k := by omega
                  exact HM.out)⟩
              case measure => simp [intOf]; omega
            · have E := hide (show pgE F = fnE n F[k] by rw [EF.out]; exact firstE_hit HM.out hz HZ.out)
              have hzb : (fnE n F[k] == 0) = false := by rw [beq_eq_false_iff_ne]; exact hz
              obtain ⟨x, hx⟩ : ∃ x, fnE n F[k] = x := ⟨_, rfl⟩
              rw [hx] at ci E hzb
              clear hz hx HM
              go_wp2_with fail
              refine ci.mono ?_
              rintro e w6 ⟨rfl, hb6⟩
              have HB6 := hide (HBW.out.trans (hb6.mono HBW.out.size))
              clear hb6 ci u0
              go_wp2
              go_ret
              exact ⟨ret_int E.out.symm, HB6.out⟩
          · obtain rfl : k = n := by omega
            have E := hide (show pgE F = 0 by
              rw [EF.out]
              exact firstE_zero.2 (fun e he => by
                obtain ⟨j, hj, hje⟩ := List.mem_iff_getElem.1 he
                have hj2 : j < k := by rw [List.length_map] at hj; rw [← HLEN.out]; exact hj
                have h1 := HZ.out j hj2
                rw [List.getElem?_eq_getElem hj, hje] at h1
                injection h1))
            clear EF HZ
            go_wp2
            go_ret
            exact ⟨ret_int E.out.symm, HBW.out⟩
      · have E := hide (show pgE F = 7 by rw [hpg, if_pos (by rw [← hP]; exact hP0)])
        have hPb : (P == 0) = false := by rw [beq_eq_false_iff_ne]; exact hP0
        clear hpg hP hF0 hlen h3n hP0
        go_enter Tryz.func16, Tryz.ntmps16
        go_upto_region 1 with (fail)
        rw [HWp.out]
        clear HWp
        go_wp2
        go_ret
        exact ⟨ret_int E.out.symm, hbp.out⟩
end Go.Proofs.YtlhaendgdeflkaaGreatDoor
end
