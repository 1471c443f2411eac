import Derived.Test.YtlhaendgdeflkaaGreatDoorMGw
import Derived.Test.YtlhaendgdeflkaaGreatDoorMGi
set_option linter.unusedVariables false
set_option linter.unusedSimpArgs false
section
/-
  The reference's Format (chapter 7) of any program in memory whose Imm fields are of 64 bits. Conditions: those of the types.
-/
namespace Go.Proofs.YtlhaendgdeflkaaGreatDoor
open Go.RowKit

/-- The line of a function's head behind a text. -/
theorem step_head (t L : List UInt8) (ht : t.length ≤ 30) (hL : L.length ≤ 100000000) : ∃ p q r : List UInt8, ((⟨#[102, 117, 110, 99, 32]⟩ : ByteArray) ++ ⟨t.toArray⟩) = ⟨p.toArray⟩ ∧ ¬ 9223372036854775807 < 5 + t.length ∧
    ((⟨p.toArray⟩ : ByteArray) ++ ⟨#[10]⟩) = ⟨q.toArray⟩ ∧ ¬ 9223372036854775807 < p.length + 1 ∧ ((⟨L.toArray⟩ : ByteArray) ++ ⟨q.toArray⟩) = ⟨r.toArray⟩ ∧ ¬ 9223372036854775807 < L.length + q.length ∧
    Hid (r = L ++ ([102, 117, 110, 99, 32] ++ t ++ [10])) := by
  refine ⟨[102, 117, 110, 99, 32] ++ t, [102, 117, 110, 99, 32] ++ t ++ [10], L ++ ([102, 117, 110, 99, 32] ++ t ++ [10]), cat_eq [102, 117, 110, 99, 32] t, by omega, cat_eq _ [10], ?_, cat_eq _ _, ?_, rfl⟩
  · simp only [List.length_cons, List.length_append, List.length_nil]; omega
  · simp only [List.length_cons, List.length_append, List.length_nil]; omega
/-- The line of a slot behind a text. -/
theorem step_slot (a b L : List UInt8) (ha : a.length ≤ 30) (hb : b.length ≤ 30) (hL : L.length ≤ 100000000) : ∃ p q r s t : List UInt8, ((⟨#[115, 108, 111, 116, 32]⟩ : ByteArray) ++ ⟨a.toArray⟩) = ⟨p.toArray⟩ ∧ ¬ 9223372036854775807 < 5 + a.length ∧
    ((⟨p.toArray⟩ : ByteArray) ++ ⟨#[32]⟩) = ⟨q.toArray⟩ ∧ ¬ 9223372036854775807 < p.length + 1 ∧ ((⟨q.toArray⟩ : ByteArray) ++ ⟨b.toArray⟩) = ⟨r.toArray⟩ ∧ ¬ 9223372036854775807 < q.length + b.length ∧
    ((⟨r.toArray⟩ : ByteArray) ++ ⟨#[10]⟩) = ⟨s.toArray⟩ ∧ ¬ 9223372036854775807 < r.length + 1 ∧ ((⟨L.toArray⟩ : ByteArray) ++ ⟨s.toArray⟩) = ⟨t.toArray⟩ ∧ ¬ 9223372036854775807 < L.length + s.length ∧
    Hid (t = L ++ ([115, 108, 111, 116, 32] ++ a ++ [32] ++ b ++ [10])) := by
  refine ⟨[115, 108, 111, 116, 32] ++ a, [115, 108, 111, 116, 32] ++ a ++ [32], [115, 108, 111, 116, 32] ++ a ++ [32] ++ b, [115, 108, 111, 116, 32] ++ a ++ [32] ++ b ++ [10], L ++ ([115, 108, 111, 116, 32] ++ a ++ [32] ++ b ++ [10]),
    cat_eq [115, 108, 111, 116, 32] a, by omega, cat_eq _ [32], ?_, cat_eq _ _, ?_, cat_eq _ [10], ?_, cat_eq _ _, ?_, rfl⟩ <;> (simp only [List.length_cons, List.length_append, List.length_nil]; omega)
/-- The line of an instruction behind a text. -/
theorem step_code (t L : List UInt8) (ht : t.length ≤ 200) (hL : L.length ≤ 100000000) : ∃ p q : List UInt8, ((⟨t.toArray⟩ : ByteArray) ++ ⟨#[10]⟩) = ⟨p.toArray⟩ ∧ ¬ 9223372036854775807 < t.length + 1 ∧
    ((⟨L.toArray⟩ : ByteArray) ++ ⟨p.toArray⟩) = ⟨q.toArray⟩ ∧ ¬ 9223372036854775807 < L.length + p.length ∧ Hid (q = L ++ (t ++ [10])) := by
  refine ⟨t ++ [10], L ++ (t ++ [10]), cat_eq _ [10], ?_, cat_eq _ _, ?_, rfl⟩ <;> (try simp only [List.length_cons, List.length_append, List.length_nil]) <;> omega

theorem fmt_end {F : Pg} {x : Int} {t : List UInt8} (he : fmtE F = x) (ht : fmtT F = t) : Ending.returned (.tuple #[.string ⟨t.toArray⟩, .int .i64 x]) = .returned (.tuple #[.string ⟨(fmtT F).toArray⟩, .int .i64 (fmtE F)]) := by rw [he, ht]
theorem fmtT_bad {F : Pg} (h : fmtE F ≠ 0) : fmtT F = [] := by unfold fmtT; rw [if_neg h]
theorem fmtT_good {F : Pg} (h : fmtE F = 0) : fmtT F = pgT F := by unfold fmtT; rw [if_pos h]
/-- What Format gives. -/
def FmtPost (F : Pg) (w : World) (e : Ending) (w' : World) : Prop := e = .returned (.tuple #[.string ⟨(fmtT F).toArray⟩, .int .i64 (fmtE F)]) ∧ Below w.heap.size w w'

set_option maxRecDepth 100000 in
set_option maxHeartbeats 8000000 in
theorem rformat_any (w : World) (lo : Nat) (A : Option Addr) (n c : Nat) (hs : List Hd) (F : Pg) (H : Hid (PgAt w lo w.heap.size A n c hs F)) (him : Hid (∀ f ∈ F, ∀ x ∈ f.code, 0 ≤ x.imm ∧ x.imm ≤ 18446744073709551615)) :
    Calls Tryz.prog 6 #[gv A n c] w (FmtPost F w) := by
  have HLEN := hide H.out.len
  obtain ⟨W, hW⟩ : ∃ W, w.alloc (.cells #[.slice A n c] 29) = W := ⟨_, rfl⟩
  have hbW := hide (show Below w.heap.size w W by rw [← hW]; exact below1 w _)
  have rp := hide (show Row W w.heap.size 29 [.slice A n c] by rw [← hW]; exact Row.new w _ _)
  have HX := hide (show PgAt W lo W.heap.size A n c hs F by rw [← hW]; exact H.out.alloc _)
  have z0 := rp.out.cell (k := 0) rfl
  have HW := hide hW
  have cc := rcheck_any W lo A n c hs F HX
  clear hW
  by_cases hce : pgE F = 0
  · rw [hce] at cc
    obtain ⟨h80, hFB⟩ := pgB_of hce him.out
    have HFB := hide hFB
    have hn80 : n ≤ 80 := by rw [← HLEN.out]; exact h80
    have EE := hide (show fmtE F = if 65536 < (pgT F).length then 3 else 0 by unfold fmtE; rw [if_neg (by simp [hce])])
    clear hce hFB h80
    go_enter Tryz.func6, Tryz.ntmps6
    go_upto_region 1 with (fail)
    rw [HW.out]
    clear HW
    go_wp2_with fail
    refine cc.mono ?_
    rintro e w1 ⟨rfl, hb1⟩
    have B1 := hide hb1
    clear hb1 cc z0
    go_wp2_with fail
    go_loopw [5, 6, 7, 8, 9] (fun sv iv _ _ _ wr => ∃ (i : Nat) (L : List UInt8), i ≤ n ∧ iv = .int .i64 (i : Int) ∧ sv = .string ⟨L.toArray⟩ ∧ Hid (L = (F.take i).flatMap fnT) ∧ Hid (Below W.heap.size W wr)) (fun _ iv _ _ _ _ => n - (intOf iv).toNat)
    case atStart => exact ⟨0, [], Nat.zero_le _, rfl, rfl, rfl, B1⟩
    case round =>
      obtain ⟨i, L, hin, rfl, rfl, hL, HB⟩ := hrel
      have HXr := hide (HX.out.call HB.out)
      have u0 := (rp.out.call HB.out).cell (k := 0) rfl
      have HBW := hide (hbW.out.trans (HB.out.mono hbW.out.size))
      by_cases hlt : i < n
      · have hlz : (i : Int) < (n : Int) := by omega
        by_cases hsh : L.length ≤ 65536
        · have hshz : (L.length : Int) ≤ 65536 := by omega
          obtain ⟨b, off, P, A1, n1, c1, A2, n2, c2, f, rfl, hb, hFi, -, HFd, e0, e1, e2⟩ := fn_at HXr.out hlt
          obtain ⟨hiF, hfe⟩ := List.getElem?_eq_some_iff.1 hFi
          have hfb := HFB.out f (List.mem_of_getElem? hFi)
          have hp := HFd.p
          have hl1 := HFd.l1
          have hl2 := HFd.l2
          simp only at hp hl1 hl2
          have hn1 : n1 ≤ 512 := by rw [← hl1]; exact hfb.ns
          have hn2 : n2 ≤ 1024 := by rw [← hl2]; exact hfb.nc
          have HL1 := hide hl1; have HL2 := hide hl2; have HFI := hide hFi
          have HFS := hide (flat_take_succ fnT F i f hFi)
          have HSB := hide (fun k => Nat.le_trans (flat_take_le slotT f.slots k) (flat_bound slotT 49 f.slots fun u hu => slotT_len (hfb.s u hu).1 (hfb.s u hu).2))
          have HCB := hide (fun k => Nat.le_trans (flat_take_le codeT f.code k) (flat_bound codeT 101 f.code fun x hx => codeT_len (hfb.c x hx)))
          have HS := hide hfb.s
          have HC := hide hfb.c
          obtain ⟨Wf, hWf⟩ : ∃ Wf, wr.alloc (.cells #[.int .i64 P, .slice A1 n1 c1, .slice A2 n2 c2] 49) = Wf := ⟨_, rfl⟩
          have HBf := hide (show Below W.heap.size W Wf by rw [← hWf]; exact HB.out.alloc HB.out.size _)
          have rf := hide (show Row Wf wr.heap.size 49 [.int .i64 P, .slice A1 n1 c1, .slice A2 n2 c2] by rw [← hWf]; exact Row.new wr _ _)
          have HFX := hide (show HdAt Wf lo Wf.heap.size ⟨P, A1, n1, c1, A2, n2, c2⟩ f by rw [← hWf]; exact (HFd.below (below1 wr _)).more (by simp) (Nat.le_refl _))
          have g0 := rf.out.cell (k := 0) rfl
          have ci := rint_any P (by rw [hp]; exact hfb.p0) (by rw [hp]; exact hfb.p1) Wf
          have hti : (Lib.itoa P).length ≤ 30 := by have := Lib.itoa_length_le P (by rw [hp]; exact hfb.p0) (by rw [hp]; exact hfb.p1); omega
          obtain ⟨t, et⟩ : ∃ t, Lib.itoa P = t := ⟨_, rfl⟩
          rw [et] at ci hti
          have HET := hide (show headT f.params = [102, 117, 110, 99, 32] ++ t ++ [10] by rw [← hp, ← et]; rfl)
          obtain ⟨p, q, r, k1, n1', k2, n2', k3, n3', HR⟩ := step_head t L hti (by omega)
          have HWf := hide hWf
          clear hWf et hp hl1 hl2 hfb hFi hfe HFd hb
          go_upto_region 9 with (fail)
          rw [HWf.out]
          clear HWf u0 e0 e1 e2
          go_wp2_with fail
          refine ci.mono ?_
          rintro e w2 ⟨rfl, hb2⟩
          have HB2 := hide (HBf.out.trans (hb2.mono HBf.out.size))
          have HS2 := hide (show Below Wf.heap.size Wf w2 from hb2)
          have HHL := hide (show r.length ≤ 100000 by rw [HR.out]; simp only [List.length_append, List.length_cons, List.length_nil]; omega)
          clear ci hb2 g0
          go_wp2_with fail
          clear k1 n1' k2 n2' k3 n3'
          go_loopw [5, 8] (fun sv kv wk => ∃ (k : Nat) (M : List UInt8), k ≤ n1 ∧ kv = .int .i64 (k : Int) ∧ sv = .string ⟨M.toArray⟩ ∧ Hid (M = r ++ (f.slots.take k).flatMap slotT) ∧ Hid (Below Wf.heap.size Wf wk)) (fun _ kv _ => n1 - (intOf kv).toNat)
          case atStart => exact ⟨0, r, Nat.zero_le _, rfl, rfl, by simp [Hid], HS2⟩
          case round =>
            obtain ⟨k, M, hkn, rfl, rfl, hM, HBk⟩ := hrel
            have rk := hide (rf.out.call HBk.out)
            have hMl : M.length ≤ 200000 := by
              have h1 := HSB.out k
              have h2 := HHL.out
              rw [hM.out, List.length_append]
              have : f.slots.length * 49 ≤ 512 * 49 := Nat.mul_le_mul_right _ (by rw [HL1.out]; exact hn1)
              omega
            by_cases hkl : k < n1
            · have hkz : (k : Int) < (n1 : Int) := by omega
              have hkf : k < f.slots.length := by rw [HL1.out]; exact hkl
              obtain ⟨b1, o1, rfl, hb1, s0, s1⟩ := pair_at (HFX.out.below HBk.out).s1 hkf
              have hsb := HS.out f.slots[k] (List.getElem_mem hkf)
              have HTS := hide (flat_take_succ slotT f.slots k f.slots[k] (List.getElem?_eq_getElem hkf))
              obtain ⟨⟨z1, z2⟩, hz⟩ : ∃ z, f.slots[k] = z := ⟨_, rfl⟩
              rw [hz] at s0 s1 hsb HTS
              dsimp only at s0 s1 hsb
              have ha : (Lib.itoa z1).length ≤ 30 := by have := Lib.itoa_length_le z1 hsb.1.1 hsb.1.2; omega
              have hbb : (Lib.itoa z2).length ≤ 30 := by have := Lib.itoa_length_le z2 hsb.2.1 hsb.2.2; omega
              obtain ⟨ta, eta⟩ : ∃ t, Lib.itoa z1 = t := ⟨_, rfl⟩
              obtain ⟨tb, etb⟩ : ∃ t, Lib.itoa z2 = t := ⟨_, rfl⟩
              have K1 := hide (fun pw : After wr => rint_any z1 hsb.1.1 hsb.1.2 pw.w)
              have K2 := hide (fun pw : After wr => rint_any z2 hsb.2.1 hsb.2.2 pw.w)
              rw [eta] at K1 ha
              rw [etb] at K2 hbb
              have HSL := hide (show slotT (z1, z2) = [115, 108, 111, 116, 32] ++ ta ++ [32] ++ tb ++ [10] by rw [← eta, ← etb]; rfl)
              obtain ⟨p1, p2, p3, p4, p5, k1, m1, k2, m2, k3, m3, k4, m4, k5, m5, HT⟩ := step_slot ta tb M ha hbb (by omega)
              have v1 := rk.out.cell (k := 1) rfl
              have f1 := after_cell v1
              have f2 := after_cell s0
              have f3 := after_cell s1
              clear s0 s1 eta etb hz hb1 hsb
              go_upto_region 13 with (fail)
              clear v1
              refine wp_region_after (by kernel_rfl) (by kernel_rfl) ?_
              repeat (go_big_quiet_step ((first
                | (go_at_call 17; with_reducible exact after_of (K1.out _))
                | (go_at_call 17; with_reducible exact after_of (K2.out _)))))
              refine wpQuiet_nil ?_
              intro _ hw'
              obtain ⟨p0, hw''⟩ := hw'
              subst hw''
              clear f1 f2 f3 k1 k2 k3 k4 k5 m1 m2 m3 m4 m5
              have HBn := hide (HBk.out.trans (p0.b.mono HBk.out.size))
              go_wp2_with fail
              go_roundw
              case rel =>
                refine ⟨k + 1, p5, by omega, by go_num, rfl, ?_, HBn⟩
                show p5 = _
                rw [HT.out, HTS.out, hM.out, HSL.out, List.append_assoc]
              case measure => simp [intOf]; omega
            · have hk2 : k = n1 := by omega
              subst hk2
              have hMe := hide (show M = r ++ f.slots.flatMap slotT by rw [hM.out, List.take_of_length_le (by rw [HL1.out]; exact Nat.le_refl _)])
              have HMl := hide hMl
              have v2 := rk.out.cell (k := 1) rfl
              clear hMl hM
              go_wp2_with fail
              clear v2
              go_loopw [5, 9] (fun sv kv wk => ∃ (j : Nat) (N : List UInt8), j ≤ n2 ∧ kv = .int .i64 (j : Int) ∧ sv = .string ⟨N.toArray⟩ ∧ Hid (N = M ++ (f.code.take j).flatMap codeT) ∧ Hid (Below Wf.heap.size Wf wk)) (fun _ kv _ => n2 - (intOf kv).toNat)
              case atStart => exact ⟨0, M, Nat.zero_le _, rfl, rfl, by simp [Hid], HBk⟩
              case round =>
                obtain ⟨j, N, hjn, rfl, rfl, hN, HBj⟩ := hrel
                have rj := hide (rf.out.call HBj.out)
                have hNl : N.length ≤ 400000 := by
                  have h1 := HCB.out j
                  have h2 := HMl.out
                  rw [hN.out, List.length_append]
                  have : f.code.length * 101 ≤ 1024 * 101 := Nat.mul_le_mul_right _ (by rw [HL2.out]; exact hn2)
                  omega
                have v2 := rj.out.cell (k := 2) rfl
                by_cases hjl : j < n2
                · have hjz : (j : Int) < (n2 : Int) := by omega
                  have hjf : j < f.code.length := by rw [HL2.out]; exact hjl
                  obtain ⟨b2, o2, rfl, hb2, i0, i1, i2, i3, i4⟩ := ins_at (HFX.out.below HBj.out).s2 hjf
                  have hxb := HC.out f.code[j] (List.getElem_mem hjf)
                  have HTS := hide (flat_take_succ codeT f.code j f.code[j] (List.getElem?_eq_getElem hjf))
                  obtain ⟨x, hx⟩ : ∃ x, f.code[j] = x := ⟨_, rfl⟩
                  rw [hx] at i0 i1 i2 i3 i4 hxb HTS
                  have hts := insT_short hxb
                  have cx := rinstr_any x hxb wr
                  obtain ⟨t, et⟩ : ∃ t, insT x = t := ⟨_, rfl⟩
                  rw [et] at hts cx
                  have HCT := hide (show codeT x = t ++ [10] by rw [← et]; rfl)
                  obtain ⟨p1, p2, k1, m1, k2, m2, HT⟩ := step_code t N (by omega) (by omega)
                  clear hx hb2 hxb et
                  obtain ⟨x0, x1, x2, x3, x4⟩ := x
                  dsimp only at *
                  go_wp2_with fail
                  refine cx.mono ?_
                  rintro e w5 ⟨rfl, hb5⟩
                  have HBn := hide (HBj.out.trans (hb5.mono HBj.out.size))
                  clear hb5 cx
                  go_wp2_with fail
                  go_roundw
                  case rel =>
                    refine ⟨j + 1, p2, by omega, by go_num, rfl, ?_, HBn⟩
                    show p2 = _
                    rw [HT.out, HTS.out, hN.out, HCT.out, List.append_assoc]
                  case measure => simp [intOf]; omega
                · have hj2 : j = n2 := by omega
                  subst hj2
                  have hNe := hide (show N = (F.take (i + 1)).flatMap fnT by
                    rw [hN.out, List.take_of_length_le (by rw [HL2.out]; exact Nat.le_refl _), hMe.out, HR.out, hL.out, HFS.out]
                    unfold fnT
                    rw [HET.out]
                    simp only [List.append_assoc])
                  have HBn := hide (HBf.out.trans (HBj.out.mono HBf.out.size))
                  clear hNl hN
                  go_wp2_with fail
                  go_roundw
                  case rel => exact ⟨i + 1, N, by omega, by go_num, rfl, hNe, HBn⟩
                  case measure => simp [intOf]; omega
        · have hshz : ¬ ((L.length : Int) ≤ 65536) := by omega
          have hshg : (65536 : Int) < (L.length : Int) := by omega
          have E3 := hide (show fmtE F = 3 by
            rw [EE.out, if_pos]
            have h1 := flat_take_le fnT F i
            rw [← hL.out] at h1
            unfold pgT
            omega)
          go_wp2
          go_ret2
          exact ⟨fmt_end (t := []) E3.out (fmtT_bad (by rw [E3.out]; decide)), HBW.out⟩
      · have hi2 : i = n := by omega
        subst hi2
        have HE := hide (show L = pgT F by rw [hL.out, List.take_of_length_le (by rw [HLEN.out]; exact Nat.le_refl _)]; rfl)
        by_cases hsh : 65536 < L.length
        · have hshg : (65536 : Int) < (L.length : Int) := by omega
          have E3 := hide (show fmtE F = 3 by rw [EE.out, if_pos (by rw [← HE.out]; exact hsh)])
          go_wp2
          go_ret2
          exact ⟨fmt_end (t := []) E3.out (fmtT_bad (by rw [E3.out]; decide)), HBW.out⟩
        · have hshg : ¬ ((65536 : Int) < (L.length : Int)) := by omega
          have E3 := hide (show fmtE F = 0 by rw [EE.out, if_neg (by rw [← HE.out]; exact hsh)])
          go_wp2
          go_ret2
          exact ⟨fmt_end E3.out ((fmtT_good E3.out).trans HE.out.symm), HBW.out⟩
  · have hcb : (pgE F == 0) = false := by rw [beq_eq_false_iff_ne]; exact hce
    have E := hide (show fmtE F = pgE F by unfold fmtE; rw [if_pos hce])
    obtain ⟨x, hx⟩ : ∃ x, pgE F = x := ⟨_, rfl⟩
    have hxn := hide hce
    rw [hx] at cc hcb E hxn
    clear hx hce
    go_enter Tryz.func6, Tryz.ntmps6
    go_upto_region 1 with (fail)
    rw [HW.out]
    clear HW
    go_wp2_with fail
    refine cc.mono ?_
    rintro e w1 ⟨rfl, hb1⟩
    have HB := hide (hbW.out.trans (hb1.mono hbW.out.size))
    clear hb1 cc z0
    go_wp2
    go_ret2
    exact ⟨fmt_end (t := []) E.out (fmtT_bad (by rw [E.out]; exact hxn.out)), HB.out⟩
end Go.Proofs.YtlhaendgdeflkaaGreatDoor
end
