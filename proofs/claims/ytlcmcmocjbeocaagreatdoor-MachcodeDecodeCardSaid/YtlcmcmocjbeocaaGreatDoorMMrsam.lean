import Derived.Test.YtlcmcmocjbeocaaGreatDoorMPmem
import Derived.Test.YtlcmcmocjbeocaaGreatDoorMJgd
import Derived.Deep.DeepCutAuto
import Derived.Outline
set_option linter.unusedVariables false
set_option linter.unusedSimpArgs false
section
/-
  The contract of the reference's Same (chapter 10): whether two targets are equal. Conditions: those of the types.
-/
namespace Go.Proofs.YtlcmcmocjbeocaaGreatDoor
open Go.RowKit

set_option maxRecDepth 100000 in
set_option maxHeartbeats 4000000 in
theorem rsame10_any (Al : Int) (A : Option Addr) (n c : Nat) (hs : List Fd) (F : Tg) (Al' : Int) (A' : Option Addr) (n' c' : Nat) (hs' : List Fd) (F' : Tg) (lo lo' B B' : Nat) (w : World) (H : Hid (TgAt w lo B A n c hs F)) (H' : Hid (TgAt w lo' B' A' n' c' hs' F')) (hB : B ≤ w.heap.size) (hB' : B' ≤ w.heap.size) :
    Calls Tryz.prog 24 #[tv Al A n c, tv Al' A' n' c'] w (BoolBelow (decide (Al = Al' ∧ F = F')) w) := by
  have hm := cap_le H.out.cap
  obtain ⟨r, hr⟩ : ∃ v, decide (Al = Al' ∧ F = F') = v := ⟨_, rfl⟩
  rw [hr]
  have HRR := hide hr
  clear hr
  by_cases hal : Al = Al'
  · subst hal
    by_cases hnn : n = n'
    · subst hnn
      have HB := hide (show decide (F = F') = r by rw [← HRR.out]; simp)
      obtain ⟨W, hW, hbW, hsW, r0, r1⟩ := boxes2q w [.int .i64 Al, .slice A n c] [.int .i64 Al, .slice A' n c'] 53 53
      have HW := hide hW
      have HBW := hide hbW
      have R0 := hide r0
      have R1 := hide r1
      have H1 := hide (H.out.below (hbW.mono hB))
      have H1' := hide (H'.out.below (hbW.mono hB'))
      have hBW : B ≤ W.heap.size := by omega
      have hBW' : B' ≤ W.heap.size := by omega
      have x0 := r0.cell (k := 0) rfl
      have x1 := r0.cell (k := 1) rfl
      have y0 := r1.cell (k := 0) rfl
      have y1 := r1.cell (k := 1) rfl
      clear hW hbW r0 r1 HRR
      go_enter Tryz.func24, Tryz.ntmps24
      go_upto_region 1 with (fail)
      rw [HW.out]
      go_wp2_with fail
      clear x0 x1 y0 y1
      go_loopw [5] (fun i wr => ∃ k : Nat, k ≤ n ∧ i = .int .i64 k ∧ Hid (F.take k = F'.take k) ∧ Hid (Below W.heap.size W wr)) (fun i _ => n - (intOf i).toNat)
      case atStart => exact ⟨0, by omega, rfl, hide rfl, hide (Below.refl _ _)⟩
      case round =>
        obtain ⟨k, hk, rfl, hT, hb⟩ := hrel
        have x1 := (R0.out.call hb.out).cell (k := 1) rfl
        have y1 := (R1.out.call hb.out).cell (k := 1) rfl
        have hwr := hb.out.size
        by_cases hlt : k < n
        · have G := H1.out.below (hb.out.mono hBW)
          have G' := H1'.out.below (hb.out.mono hBW')
          obtain ⟨b1, o1, P, S, A2, n2, c2, f, rfl, hb1, e1, _, h1, p0, p1, p2⟩ := fm_at G hlt
          obtain ⟨b2, o2, P', S', A2', n2', c2', f', rfl, hb2, e2, _, h2, q0, q1, q2⟩ := fm_at G' hlt
          have l1 : k < F.length := by rw [G.len]; exact hlt
          have l2 : k < F'.length := by rw [G'.len]; exact hlt
          have i1 : F[k] = f := by rw [List.getElem?_eq_getElem l1] at e1; injection e1
          have i2 : F'[k] = f' := by rw [List.getElem?_eq_getElem l2] at e2; injection e2
          have N1 := hide (fun hne : f ≠ f' => (show F ≠ F' from ne_take l1 l2 (by rw [i1, i2]; exact hne)))
          have N2 := hide (fun heq : f = f' => (show F.take (k + 1) = F'.take (k + 1) by rw [snoc_take l1, snoc_take l2, hT.out, i1, i2, heq]))
          have D := hide (show decide (f = f') = (decide (P = P') && (decide (S = S') && decide (f.code = f'.code))) by
            have e1 : P = f.params := h1.p
            have e2 : S = f.size := h1.s
            have e3 : P' = f'.params := h2.p
            have e4 : S' = f'.size := h2.s
            rw [e1, e2, e3, e4, ← Bool.decide_and, ← Bool.decide_and]; exact decide_eq_decide.2 fm_eq)
          have k1 : ∀ W', Below wr.heap.size wr W' → Calls Tryz.prog 51 #[.slice A2 n2 c2, .slice A2' n2' c2'] W' (BoolDrew (decide (f.code = f'.code)) W') := fun W' hw =>
            rsamecode_any A2 n2 c2 f.code A2' n2' c2' f'.code B B' W' (hide h1.l) (hide h2.l) (cap_le h1.k) (hide (h1.c.below (hw.mono (Nat.le_trans hBW hwr)))) (hide (h2.c.below (hw.mono (Nat.le_trans hBW' hwr))))
          obtain ⟨v, hv⟩ : ∃ v, decide (f.code = f'.code) = v := ⟨_, rfl⟩
          rw [hv] at D
          simp only [hv] at k1
          have K1 := hide k1
          have HBr := hb
          have hkz : (0 : Int) ≤ (k : Int) := by omega
          have hkz' : (k : Int) < (n : Int) := by omega
          have g1 : b1 < wr.heap.size := by omega
          have g2 : b2 < wr.heap.size := by omega
          have g3 : w.heap.size < wr.heap.size := by omega
          have g4 : w.heap.size + 1 < wr.heap.size := by omega
          clear k1 G G' e1 e2 h1 h2 l1 l2 i1 i2 hb1 hb2 hb hv
          go_upto_region 6 with (fail)
          go_region
          all_goals
            by_cases hp : P = P'
            · have bp : (P != P') = false := by simpa using hp
              by_cases hs : S = S'
              · have bs : (S != S') = false := by simpa using hs
                cases v with
                | true =>
                  have H2 := hide (N2.out (of_decide_eq_true (by rw [D.out, decide_eq_true hp, decide_eq_true hs]; rfl)))
                  clear N1 N2 hp hs
                  go_wp2_with fail
                  refine (K1.out _ (below2 wr _ _).drew).mono ?_
                  rintro e w' ⟨rfl, q, rfl⟩
                  go_wp2_with fail
                  go_roundw
                  case rel => exact ⟨k + 1, by omega, by go_num, H2, hide (drewN_below (below_call HBr.out (below2 wr _ _)) _)⟩
                  case measure => simp [intOf]; omega
                | false =>
                  have hBf := hide (HB.out.symm.trans (decide_eq_false (N1.out (of_decide_eq_false (by rw [D.out]; simp)))))
                  clear N1 N2 hp hs
                  go_wp2_with fail
                  refine (K1.out _ (below2 wr _ _).drew).mono ?_
                  rintro e w' ⟨rfl, q, rfl⟩
                  go_wp2_with fail
                  go_ret
                  exact ⟨ret_bool hBf.out.symm, HBW.out.trans ((drewN_below (below_call HBr.out (below2 wr _ _)) _).mono HBW.out.size)⟩
              · have bs : (S != S') = true := by simpa using hs
                have hBf := hide (HB.out.symm.trans (decide_eq_false (N1.out (of_decide_eq_false (by rw [D.out, decide_eq_false hs]; simp)))))
                clear N1 N2 hp hs
                go_wp2_with fail
                go_ret
                exact ⟨ret_bool hBf.out.symm, HBW.out.trans ((below_call HBr.out (below2 wr _ _).drew).mono HBW.out.size)⟩
            · have bp : (P != P') = true := by simpa using hp
              have hBf := hide (HB.out.symm.trans (decide_eq_false (N1.out (of_decide_eq_false (by rw [D.out, decide_eq_false hp]; simp)))))
              clear N1 N2 hp
              go_wp2_with fail
              go_ret
              exact ⟨ret_bool hBf.out.symm, HBW.out.trans ((below_call HBr.out (below2 wr _ _).drew).mono HBW.out.size)⟩
        · obtain rfl : k = n := by omega
          have hBt := hide (HB.out.symm.trans (decide_eq_true (by
            have := hT.out
            rwa [List.take_of_length_le (by have := H.out.len; omega), List.take_of_length_le (by have := H'.out.len; omega)] at this)))
          go_wp2_with fail
          go_ret
          exact ⟨by rw [hBt.out]; rfl, HBW.out.trans (hb.out.mono HBW.out.size)⟩
    · have hne : ((n : Int) != (n' : Int)) = true := by rw [bne_iff_ne]; omega
      have HB := hide (show r = false by
        rw [← HRR.out, decide_eq_false_iff_not]
        rintro ⟨_, rfl⟩
        exact hnn (H.out.len.symm.trans H'.out.len))
      clear hnn HRR
      go_enter Tryz.func24, Tryz.ntmps24
      go_wp2_with fail
      go_ret
      exact ⟨ret_bool HB.out.symm, below2 _ _ _⟩
  · have hne : (Al != Al') = true := by rw [bne_iff_ne]; exact hal
    have HB := hide (show r = false by rw [← HRR.out]; simp [hal])
    clear hal HRR
    go_enter Tryz.func24, Tryz.ntmps24
    go_wp2_with fail
    go_ret
    exact ⟨ret_bool HB.out.symm, below2 _ _ _⟩
end Go.Proofs.YtlcmcmocjbeocaaGreatDoor
end
