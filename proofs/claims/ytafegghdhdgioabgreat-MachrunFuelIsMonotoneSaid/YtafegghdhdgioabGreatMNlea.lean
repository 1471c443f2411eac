import Derived.Test.YtafegghdhdgioabGreatMNent
import Derived.Test.YtafegghdhdgioabGreatMInv
set_option linter.unusedVariables false
set_option linter.unusedSimpArgs false
section
/-
  The contract of the machine's leave (chapter 12). Conditions: those of the types; the frame that is left lies on the stack.
-/
namespace Go.Proofs.YtafegghdhdgioabGreat
open Go.RowKit

theorem pop_fit {S : Sk} {m : Nat} (h : S.sp + m ≤ S.bs.length) : popE S (m : Int) = 0 ∧ popR S (m : Int) = popS S m := by
  have e : popE S (m : Int) = 0 := by unfold popE; rw [if_neg (by omega)]
  exact ⟨e, by simp [popR, e]⟩
section
variable {g base fu T0 : Nat} {vi vt vf vs : Value} {A1 A2 : Option Addr} {c1 c2 : Nat} {s : Tm}
set_option maxRecDepth 100000 in
set_option maxHeartbeats 4000000 in
theorem tleave_any {F : Tg} {fm : Fm} {lo n c : Nat} {A : Option Addr} {hs : List Fd} (w : World) (hn : 1 ≤ s.st.length) (hst : s.st.length ≤ 1000000) (hf : Hid (F[s.top.1]? = some fm)) (hsz : 0 ≤ fm.size) (hpop : s.mem.sp + fsz F s.top.1 ≤ s.mem.bs.length) (hvf : vf = .slice A n c) (hn80 : n ≤ 80) (hPg : Hid (TgAt w lo base A n c hs F)) (h : Hid (TmAt w g base fu T0 vi vt vf A1 c1 A2 c2 vs s)) :
    Calls Tryz.prog 68 #[.pointer (some ⟨g, 0, none⟩)] w (TPost g base fu T0 vf (s.leave F) w) := by
  obtain ⟨G, cG, k, z, ys, ht, hGg⟩ := h.out.topT hn
  obtain ⟨rfl, hzs, hyk, ht0, ht1, hfr, hGl, hGb, hcap⟩ := ht
  have htop : s.top = z := by unfold Tm.top; rw [hzs, List.getLastD_concat]
  have hdl : s.st.dropLast = ys := by rw [hzs, List.dropLast_concat]
  rw [htop] at hf hpop
  obtain ⟨f, pc⟩ := z
  dsimp only at *
  have hfl : f < n := by rw [← hPg.out.len]; exact (List.getElem?_eq_some_iff.1 hf.out).1
  obtain ⟨bF, oF, P, Sz, Ac, nc, cc, f', rfl, hbF, hf', hhf, hfd, d0, d1, d2⟩ := fm_at hPg.out hfl
  rw [hf.out] at hf'
  injection hf' with hf'
  subst hf'
  have hSz : Sz = fm.size := hfd.s
  obtain ⟨m, hm⟩ : ∃ m : Nat, fm.size = (m : Int) := ⟨fm.size.toNat, by omega⟩
  have hfs : fsz F f = m := by
    unfold fsz fmAt
    rw [List.getD_eq_getElem?_getD, hf.out]
    show fm.size.toNat = m
    omega
  rw [hSz, hm] at d1
  rw [hfs] at hpop
  subst hvf
  have hlen : s.st.length = k + 1 := by rw [hzs, List.length_append, hyk]; rfl
  have hL : s.leave F = if k = 0 then { s with mem := popS s.mem m, st := ys, c := s.c.ret } else { s with mem := popS s.mem m, st := ys } := by
    unfold Tm.leave
    dsimp only
    rw [htop, hdl, hlen, hfs]
    by_cases h0 : k = 0
    · rw [if_pos h0, if_pos (by omega)]
    · rw [if_neg h0, if_neg (by omega)]
  have x0 := h.out.far 0 rfl
  have x5 := h.out.far 5 rfl
  have HLEN := hide hlen
  have HZS := hide hzs
  have HYK := hide hyk
  rw [hlen] at hst
  have hf0 : (0 : Int) ≤ (f : Int) := by omega
  have hf1 : (f : Int) < (n : Int) := by omega
  have hk0 : (0 : Int) ≤ (k : Int) := by omega
  have hwk : IntKind.i64.wrap ((k : Int) + 1 - 1) = (k : Int) := by rw [IntKind.wrap_i64]; omega
  have hwk2 : ((k + 1 : Nat) : Int) = (k : Int) + 1 := by omega
  rw [hL]
  have cp := fun (p : After w) => mpop_any (m : Int) p.w (hide (h.out.call p.b).mem)
  rw [(pop_fit hpop).1, (pop_fit hpop).2] at cp
  have CP := hide cp
  have HPO := hide hpop
  clear hL hSz hm d0 d2 hfd hhf hsz hfs hdl htop hlen hzs hyk cp hpop
  rcases Nat.eq_zero_or_pos k with rfl | hkp
  · have ht0 : w.cell? ⟨G, 0, none⟩ = some (.int .i64 (f : Int)) := by simpa using ht0
    go_enter Tryz.func68, Tryz.ntmps68
    go_upto_region 1 with (fail)
    have x0 := fun p : After w => after_cell x0 p
    have x5 := fun p : After w => after_cell x5 p
    have t0 := fun p : After w => after_cell ht0 p
    have d1 := fun p : After w => after_cell d1 p
    refine wp_region_last 18 (by kernel_rfl) rfl rfl (by kernel_rfl) (by kernel_rfl) (by kernel_rfl) (C := fun w' => ∃ p : After w, w' = p.w) ⟨⟨w.drew, (Below.refl _ _).drew⟩, rfl⟩ ?_
    dsimp only [List.take_succ_cons, List.take_zero]
    repeat (go_big_quiet_step (fail))
    refine wpQuiet_nil ?_
    intro _ hw'
    obtain ⟨p1, hw''⟩ := hw'
    subst hw''
    clear x0 x5 t0 d1
    go_wp2_with fail
    refine (CP.out p1).mono ?_
    rintro e w2 ⟨rfl, h2, k2⟩
    have H2 := hide ((h.out.call p1.b).turned h2 k2 rfl)
    have B2 := hide (Below.trans (p1.b.mono h.out.bl) ((h.out.call p1.b).belowM k2))
    clear h2 k2 CP
    have y5 := H2.out.far 5 rfl
    have y5f := H2.out.free 30
    have hst2 : w2.ownsRow base 138 2 (.slice (some ⟨G, 0, none⟩) (0 + 1) cG) (0 + 1) (tacells s.st) := by have := H2.out.st; rwa [show ({ s with mem := popS s.mem m } : Tm).st.length = 0 + 1 from HLEN.out] at this
    have hsh := own_shrink hst2
    have htk : (tacells s.st).take (0 * 2) = tacells ys := by
      rw [HZS.out, tacells_app, List.take_left' (by rw [tacells_len, HYK.out])]
    rw [htk] at hsh
    obtain ⟨W3, hW3⟩ : ∃ W3, w2.setCell ⟨g, 30, none⟩ (.slice (some ⟨G, 0, none⟩) 0 cG) = W3 := ⟨_, rfl⟩
    have H3 := hide (show TmAt W3 g base fu T0 vi vt (.slice (some ⟨bF, oF, none⟩) n c) A1 c1 A2 c2 (.slice (some ⟨G, 0, none⟩) 0 cG) { s with mem := popS s.mem m, st := ys } by
      rw [← hW3]
      exact H2.out.setRest 5 (.slice (some ⟨G, 0, none⟩) 0 cG) rfl rfl rfl (by
        show World.ownsRow _ base _ 2 _ ys.length (tacells ys)
        rw [HYK.out]
        exact hsh.kept (grown_one w2 g 30 _) (own_offR hsh H2.out.core.row (by decide))))
    have B3 := hide (show Below base w W3 by rw [← hW3]; exact B2.out.trans ((Below.refl _ _).setCell (p := ⟨g, 30, none⟩) H2.out.core.gb _))
    have HW3 := hide hW3
    clear hW3 hst2 hsh htk
    go_upto_region 3 with (first | go_region)
    rw [HW3.out]
    clear HW3 y5 y5f H2 B2
    have cr := coReturn_any W3 (hide H3.out.core)
    go_wp2_with fail
    refine cr.mono ?_
    rintro e w6 ⟨rfl, h6, k6⟩
    have H6 := hide (H3.out.cored h6 (k6.weak H3.out.core.tr))
    have B6 := hide (B3.out.trans (H3.out.belowC (k6.weak H3.out.core.tr)))
    clear h6 k6 cr
    go_wp2_with fail
    go_end0
    exact ⟨rfl, H6.out.in_, B6.out⟩
  · have hkn : ¬ k = 0 := by omega
    go_enter Tryz.func68, Tryz.ntmps68
    go_upto_region 1 with (fail)
    have x0 := fun p : After w => after_cell x0 p
    have x5 := fun p : After w => after_cell x5 p
    have t0 := fun p : After w => after_cell ht0 p
    have d1 := fun p : After w => after_cell d1 p
    refine wp_region_last 18 (by kernel_rfl) rfl rfl (by kernel_rfl) (by kernel_rfl) (by kernel_rfl) (C := fun w' => ∃ p : After w, w' = p.w) ⟨⟨w.drew, (Below.refl _ _).drew⟩, rfl⟩ ?_
    dsimp only [List.take_succ_cons, List.take_zero]
    repeat (go_big_quiet_step (fail))
    refine wpQuiet_nil ?_
    intro _ hw'
    obtain ⟨p1, hw''⟩ := hw'
    subst hw''
    clear x0 x5 t0 d1
    go_wp2_with fail
    refine (CP.out p1).mono ?_
    rintro e w2 ⟨rfl, h2, k2⟩
    have H2 := hide ((h.out.call p1.b).turned h2 k2 rfl)
    have B2 := hide (Below.trans (p1.b.mono h.out.bl) ((h.out.call p1.b).belowM k2))
    clear h2 k2 CP
    have y5 := H2.out.far 5 rfl
    have y5f := H2.out.free 30
    have hst2 : w2.ownsRow base 138 2 (.slice (some ⟨G, 0, none⟩) (k + 1) cG) (k + 1) (tacells s.st) := by have := H2.out.st; rwa [show ({ s with mem := popS s.mem m } : Tm).st.length = k + 1 from HLEN.out] at this
    have hsh := own_shrink hst2
    have htk : (tacells s.st).take (k * 2) = tacells ys := by
      rw [HZS.out, tacells_app, List.take_left' (by rw [tacells_len, HYK.out])]
    rw [htk] at hsh
    obtain ⟨W3, hW3⟩ : ∃ W3, w2.setCell ⟨g, 30, none⟩ (.slice (some ⟨G, 0, none⟩) k cG) = W3 := ⟨_, rfl⟩
    have H3 := hide (show TmAt W3 g base fu T0 vi vt (.slice (some ⟨bF, oF, none⟩) n c) A1 c1 A2 c2 (.slice (some ⟨G, 0, none⟩) k cG) { s with mem := popS s.mem m, st := ys } by
      rw [← hW3]
      exact H2.out.setRest 5 (.slice (some ⟨G, 0, none⟩) k cG) rfl rfl rfl (by
        show World.ownsRow _ base _ 2 _ ys.length (tacells ys)
        rw [HYK.out]
        exact hsh.kept (grown_one w2 g 30 _) (own_offR hsh H2.out.core.row (by decide))))
    have B3 := hide (show Below base w W3 by rw [← hW3]; exact B2.out.trans ((Below.refl _ _).setCell (p := ⟨g, 30, none⟩) H2.out.core.gb _))
    have HW3 := hide hW3
    clear hW3 hst2 hsh htk
    go_upto_region 3 with (first | go_region)
    rw [HW3.out]
    clear HW3 y5 y5f H2 B2
    go_wp2_with fail
    go_end0
    exact ⟨rfl, H3.out.in_, B3.out⟩
end
end Go.Proofs.YtafegghdhdgioabGreat
end
