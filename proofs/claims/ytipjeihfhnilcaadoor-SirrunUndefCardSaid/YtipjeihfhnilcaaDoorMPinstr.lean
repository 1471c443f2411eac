import Derived.Test.YtipjeihfhnilcaaDoorMPoper
import Derived.Deep.DeepCutAuto
set_option linter.unusedVariables false
set_option linter.unusedSimpArgs false
section
/-
  The contract of sir.CheckInstr at an instruction that is there: its first error. Conditions: the table of operations lies as its initialiser lays it.
-/
namespace Go.Proofs.YtipjeihfhnilcaaDoor
open Go.RowKit

theorem insE_in {N : Nat} {f : Fn} {x : Ins} (h : withB x.op 25 = true) : insE N f x = rankE (opndsE N f x) (moveBad f x) := by unfold insE; rw [if_neg (by simp [h])]
theorem moveBad_not {f : Fn} {x : Ins} (h : x.op ≠ 17) : moveBad f x = false := by unfold moveBad; rw [decide_eq_false h]; rfl
/-- A Move whose operands have no error of range names slots. -/
theorem move_slots {N : Nat} {f : Fn} {x : Ins} (h : x.op = 17) (h4 : (opndsE N f x).contains 4 = false) : (0 ≤ x.a ∧ x.a < f.slots.length) ∧ (0 ≤ x.b ∧ x.b < f.slots.length) := by
  unfold opndsE foundE at h4
  rw [h] at h4
  have e1 : (shpOf 17).1 = 2 := rfl
  have e2 : (shpOf 17).2.1 = 2 := rfl
  rw [e1, e2] at h4
  simp only [List.contains_eq_any_beq, List.any_append, List.any_cons, Bool.or_eq_false_iff] at h4
  obtain ⟨⟨ha, hb, _⟩, _⟩ := h4
  have k : ∀ n, (4 == opndE N f 2 n) = false → 0 ≤ n ∧ n < (f.slots.length : Int) := fun n hn => by
    unfold opndE at hn
    by_cases hw : withB n (cntV N f 2) = true
    · exact withB_true.1 hw
    · rw [if_neg hw] at hn
      simp at hn
  exact ⟨k _ ha, k _ hb⟩

set_option maxRecDepth 100000 in
set_option maxHeartbeats 4000000 in
theorem chkins_any (A : Option Addr) (n c : Nat) (hs : List Hd) (F : Pg) (lo B i k : Nat) (f : Fn) (x : Ins) (w : World) (H : Hid (PgAt w lo B A n c hs F)) (hB : B ≤ w.heap.size) (hT : Hid (Shapes w))
    (hi : i < n) (hf : Hid (F[i]? = some f)) (hx : Hid (f.code[k]? = some x)) :
    Calls Tryd.prog 47 #[gv A n c, .int .i64 (i : Int), .int .i64 (k : Int)] w fun e w' => e = .returned (.int .i64 (insE n f x)) ∧ Below w.heap.size w w' := by
  obtain ⟨b, off, P, A1, n1, c1, A2, n2, c2, f0, rfl, hbB, hf0, _, h, p0, p1, p2⟩ := fn_at H.out hi
  obtain rfl : f0 = f := by have := hf.out; rw [hf0] at this; injection this
  have hk : k < f0.code.length := (List.getElem?_eq_some_iff.1 hx.out).1
  have hk2 : k < n2 := by have := h.l2; simp only at this; omega
  obtain ⟨b2, off2, hA2, hb2B, x0, x1, x2, x3, x4⟩ := ins_at h.s2 hk
  simp only at hA2
  subst hA2
  obtain rfl : f0.code[k] = x := by have := hx.out; rw [List.getElem?_eq_getElem hk] at this; injection this
  obtain ⟨x, hxe⟩ : ∃ x, f0.code[k] = x := ⟨_, rfl⟩
  rw [hxe] at x0 x1 x2 x3 x4 ⊢
  clear hx hxe
  have Hh := hide h
  have hn2 := cap_le h.k2
  have hn := cap_le H.out.cap
  simp only at hn2
  have hbw : b < w.heap.size := by omega
  have hb2w : b2 < w.heap.size := by omega
  have hwi := within_any (i : Int) (n : Int)
  rw [withB_true.2 ⟨by omega, by omega⟩] at hwi
  have hwk := within_any (k : Int) (n2 : Int)
  rw [withB_true.2 ⟨by omega, by omega⟩] at hwk
  have hwo := within_any x.op 25
  have hkz : (0 : Int) ≤ (k : Int) := by omega
  have hkz' : (k : Int) < (n2 : Int) := by omega
  have hiz : (0 : Int) ≤ (i : Int) := by omega
  have hiz' : (i : Int) < (n : Int) := by omega
  obtain ⟨op, hop⟩ : ∃ op, x.op = op := ⟨_, rfl⟩
  obtain ⟨a, ha⟩ : ∃ a, x.a = a := ⟨_, rfl⟩
  obtain ⟨bb, hbb⟩ : ∃ a, x.b = a := ⟨_, rfl⟩
  obtain ⟨d, hd⟩ : ∃ a, x.c = a := ⟨_, rfl⟩
  obtain ⟨m, hm⟩ : ∃ a, x.imm = a := ⟨_, rfl⟩
  rw [hop] at x0 hwo
  rw [ha] at x1
  rw [hbb] at x2
  rw [hd] at x3
  rw [hm] at x4
  have HI := hide hwi
  have HK := hide hwk
  have HO := hide hop
  have Ha := hide ha
  have Hb := hide hbb
  have Hd' := hide hd
  have Hm := hide hm
  clear hwi hwk h hf hf0 hop ha hbb hd hm
  by_cases hrg : withB op 25 = true
  · rw [hrg] at hwo
    have HWo := hide hwo
    obtain ⟨q, rfl⟩ := Int.eq_ofNat_of_zero_le (withB_true.1 hrg).1
    have hq : q < 25 := by have := (withB_true.1 hrg).2; omega
    have HR := hide (show insE n f0 x = rankE (opndsE n f0 x) (moveBad f0 x) from insE_in (by rw [HO.out]; exact hrg))
    obtain ⟨es, hes⟩ : ∃ es, opndsE n f0 x = es := ⟨_, rfl⟩
    have c1' : ∀ W, Below w.heap.size w W → Calls Tryd.prog 60 #[gv (some ⟨b, off, none⟩) n c, fv P A1 n1 c1 (some ⟨b2, off2, none⟩) n2 c2, iv q a bb d m] W (ErrsPost es W) := fun W hW => by
      have := operr_any (some ⟨b, off, none⟩) n c P A1 n1 c1 (some ⟨b2, off2, none⟩) n2 c2 q a bb d m W (hide (hT.out.below hW)) hq
      have e : foundE (oneE n P n1 n2 (shpOf (q : Int)).1 a) (oneE n P n1 n2 (shpOf (q : Int)).2.1 bb) (oneE n P n1 n2 (shpOf (q : Int)).2.2.1 d) (shpOf (q : Int)).2.2.2 m = es := by
        rw [← hes]
        unfold opndsE
        have l0 := Hh.out.p
        have l1 := Hh.out.l1
        have l2 := Hh.out.l2
        simp only at l0 l1 l2
        rw [HO.out, Ha.out, Hb.out, Hd'.out, Hm.out, l0, ← l1, ← l2]
        rfl
      rw [e] at this
      exact this
    have HC := hide c1'
    have HES := hide hes
    clear c1' hes hwo hrg
    obtain ⟨W, hW, hbW, hsW, r0, r1, r2⟩ := boxes3 w [.slice (some ⟨b, off, none⟩) n c] [.int .i64 P, .slice A1 n1 c1, .slice (some ⟨b2, off2, none⟩) n2 c2] [.int .i64 (q : Int), .int .i64 a, .int .i64 bb, .int .i64 d, .int .u64 m] 26 52 48
    have HW := hide hW
    have HS := hide hsW
    have HBW := hide hbW
    have R1 := hide r1
    have R2 := hide r2
    clear hW hsW hbW r0 r1 r2
    go_enter Tryd.func47, Tryd.ntmps47
    go_wp2_with fail
    refine (HI.out _).mono ?_
    rintro e w' ⟨rfl, rfl⟩
    go_wp2_with fail
    refine (HK.out _).mono ?_
    rintro e w' ⟨rfl, rfl⟩
    go_wp2_with fail
    refine (HWo.out _).mono ?_
    rintro e w' ⟨rfl, rfl⟩
    go_wp2_with fail
    rw [HW.out]
    clear HW HI HK HWo p0 p1 p2 x0 x1 x2 x3 x4
    refine (HC.out _ HBW.out).mono ?_
    rintro e w3 ⟨A', c', rfl, hsee, hb3⟩
    have HB3 := hide (HBW.out.trans (hb3.mono HBW.out.size))
    have r1 := R1.out.call hb3
    have r2 := R2.out.call hb3
    have y1 := r1.cell (k := 1) rfl
    have z0 := r2.cell (k := 0) rfl
    have z1 := r2.cell (k := 1) rfl
    have z2 := r2.cell (k := 2) rfl
    have hel : es.length ≤ 4 := by rw [← HES.out]; unfold opndsE foundE; split <;> simp
    have k2 := econt_any A' es.length c' es 2 _ w3 (hide rfl) (by omega) (hide hsee)
    have k4 := econt_any A' es.length c' es 4 _ w3 (hide rfl) (by omega) (hide hsee)
    have k6 := fun j => econt_any A' es.length c' es 6 _ (w3.drewN j) (hide rfl) (by omega) (hide (hsee.draws j))
    have HRE := hide (show insE n f0 x = rankE es (moveBad f0 x) by rw [HR.out, HES.out])
    have HMS := hide (fun (e17 : (q : Int) = 17) (e4 : es.contains 4 = false) => move_slots (N := n) (f := f0) (x := x) (HO.out.trans e17) (by rw [HES.out]; exact e4))
    clear hb3 hsee r1 r2 R1 R2 HC HR HES
    obtain ⟨q2, hq2⟩ : ∃ q2, es.contains 2 = q2 := ⟨_, rfl⟩
    obtain ⟨q4, hq4⟩ : ∃ q4, es.contains 4 = q4 := ⟨_, rfl⟩
    obtain ⟨q6, hq6⟩ : ∃ q6, es.contains 6 = q6 := ⟨_, rfl⟩
    rw [hq2] at k2
    rw [hq4] at k4
    rw [hq6] at k6
    have HQ2 := hide hq2
    have HQ4 := hide hq4
    have HQ6 := hide hq6
    have K2 := hide k2
    have K4 := hide k4
    have K6 := hide k6
    clear hq2 hq4 hq6 k2 k4 k6
    go_wp2_with fail
    refine K2.out.mono ?_
    rintro e w' ⟨rfl, rfl⟩
    cases q2 with
    | true =>
      go_wp2_with fail
      go_ret
      exact ⟨ret_int (by rw [HRE.out]; unfold rankE; rw [HQ2.out]; rfl), HB3.out⟩
    | false =>
      go_wp2_with fail
      refine K4.out.mono ?_
      rintro e w' ⟨rfl, rfl⟩
      cases q4 with
      | true =>
        go_wp2_with fail
        go_ret
        exact ⟨ret_int (by rw [HRE.out]; unfold rankE; rw [HQ2.out, HQ4.out]; rfl), HB3.out⟩
      | false =>
        by_cases h17 : q = 17
        · subst h17
          obtain ⟨⟨a0, a1⟩, b0, b1⟩ := HMS.out rfl HQ4.out
          rw [Ha.out] at a0 a1
          rw [Hb.out] at b0 b1
          obtain ⟨a, rfl⟩ := Int.eq_ofNat_of_zero_le a0
          obtain ⟨bb, rfl⟩ := Int.eq_ofNat_of_zero_le b0
          have la : a < f0.slots.length := by omega
          have lb : bb < f0.slots.length := by omega
          have l1 := Hh.out.l1
          simp only at l1
          have a2 : (a : Int) < (n1 : Int) := by omega
          have b2' : (bb : Int) < (n1 : Int) := by omega
          have hsl := (Hh.out.s1).below (HB3.out.mono hB)
          obtain ⟨g1, o1, e1, -, u0, -⟩ := pair_at hsl la
          obtain ⟨g2, o2, e2, -, v0, -⟩ := pair_at hsl lb
          simp only at e1 e2
          subst e1
          injection e2 with e2
          injection e2 with e2 e3
          subst e2 e3
          have HMB := hide (show moveBad f0 x = !decide ((f0.slots[a]'la).1 = (f0.slots[bb]'lb).1) by
            unfold moveBad sizeAt
            rw [HO.out, Ha.out, Hb.out, Int.toNat_natCast, Int.toNat_natCast, List.getD_eq_getElem?_getD, List.getD_eq_getElem?_getD, List.getElem?_eq_getElem la, List.getElem?_eq_getElem lb]
            rfl)
          obtain ⟨s1, hs1⟩ : ∃ s, (f0.slots[a]'la).1 = s := ⟨_, rfl⟩
          obtain ⟨s2, hs2⟩ : ∃ s, (f0.slots[bb]'lb).1 = s := ⟨_, rfl⟩
          rw [hs1] at u0 HMB
          rw [hs2] at v0 HMB
          clear hs1 hs2 hsl l1 la lb
          go_wp2_with fail
          by_cases hss : s1 = s2
          · subst hss
            have HM0 := hide (show moveBad f0 x = false by rw [HMB.out]; simp)
            go_quiet (fail)
            go_wp2_with fail
            refine (K6.out _).mono ?_
            rintro e w' ⟨rfl, rfl⟩
            cases q6 with
            | true =>
              have HRR := hide (show insE n f0 x = 6 by rw [HRE.out, HM0.out]; unfold rankE; rw [HQ2.out, HQ4.out, HQ6.out]; rfl)
              go_wp2_with fail
              go_ret
              exact ⟨ret_int HRR.out.symm, drewN_below HB3.out _⟩
            | false =>
              have HRR := hide (show insE n f0 x = 0 by rw [HRE.out, HM0.out]; unfold rankE; rw [HQ2.out, HQ4.out, HQ6.out]; rfl)
              go_wp2_with fail
              go_ret
              exact ⟨ret_int HRR.out.symm, drewN_below HB3.out _⟩
          · have hne : (s1 != s2) = true := by rw [bne_iff_ne]; exact hss
            have HRR := hide (show insE n f0 x = 5 by rw [HRE.out]; unfold rankE; rw [HQ2.out, HQ4.out, HMB.out, decide_eq_false hss]; rfl)
            go_quiet (fail)
            go_wp2_with fail
            go_ret
            exact ⟨ret_int HRR.out.symm, drewN_below HB3.out _⟩
        · have hq17 : ((q : Int) == 17) = false := by simp; omega
          have HM0 := hide (show moveBad f0 x = false from moveBad_not (by rw [HO.out]; omega))
          go_wp2_with fail
          go_quiet (fail)
          go_wp2_with fail
          refine (K6.out _).mono ?_
          rintro e w' ⟨rfl, rfl⟩
          cases q6 with
          | true =>
            have HRR := hide (show insE n f0 x = 6 by rw [HRE.out, HM0.out]; unfold rankE; rw [HQ2.out, HQ4.out, HQ6.out]; rfl)
            go_wp2_with fail
            go_ret
            exact ⟨ret_int HRR.out.symm, drewN_below HB3.out _⟩
          | false =>
            have HRR := hide (show insE n f0 x = 0 by rw [HRE.out, HM0.out]; unfold rankE; rw [HQ2.out, HQ4.out, HQ6.out]; rfl)
            go_wp2_with fail
            go_ret
            exact ⟨ret_int HRR.out.symm, drewN_below HB3.out _⟩
  · have hrf : withB op 25 = false := by simpa using hrg
    rw [hrf] at hwo
    have HWo := hide hwo
    have HRR := hide (show insE n f0 x = 4 by unfold insE; rw [HO.out, if_pos hrf])
    clear hrg hrf hwo
    go_enter Tryd.func47, Tryd.ntmps47
    go_wp2_with fail
    refine (HI.out _).mono ?_
    rintro e w' ⟨rfl, rfl⟩
    go_wp2_with fail
    refine (HK.out _).mono ?_
    rintro e w' ⟨rfl, rfl⟩
    go_wp2_with fail
    refine (HWo.out _).mono ?_
    rintro e w' ⟨rfl, rfl⟩
    go_wp2_with fail
    go_ret
    exact ⟨ret_int HRR.out.symm, below3 _ _ _ _⟩
end Go.Proofs.YtipjeihfhnilcaaDoor
end
