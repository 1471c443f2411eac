import Derived.Test.YtafegghdhdgioabGreatMNce
import Derived.Test.YtafegghdhdgioabGreatMKmp
import Derived.Deep.RegionHeld3
set_option linter.unusedVariables false
set_option linter.unusedSimpArgs false
section
/-
  The contract of the machine's enter (chapter 12). Conditions: those of the types; the frame is one of the target.
-/
namespace Go.Proofs.YtafegghdhdgioabGreat
open Go.RowKit

theorem Tryz.info138z : (Tryz.prog.info? 138).map (fun i => (i.zero, i.size, i.bytes)) = some (some (.agg #[.int .i64 0, .int .i64 0]), 2, 16) := by kernel_rfl
theorem push_fit {S : Sk} {m : Nat} (h : m ≤ S.sp) : pushE S (m : Int) = 0 ∧ pushR S (m : Int) = pushS S m := by
  have e : pushE S (m : Int) = 0 := by simp only [pushE]; rw [if_neg (by omega), if_neg (by omega)]
  exact ⟨e, by simp [pushR, e]⟩
theorem push_not {S : Sk} {m : Nat} (h : S.sp < m) : pushE S (m : Int) = 9 ∧ pushR S (m : Int) = S := by
  have e : pushE S (m : Int) = 9 := by simp only [pushE]; rw [if_neg (by omega), if_pos (by omega)]
  exact ⟨e, by simp [pushR, e]⟩
section
variable {g base fu T0 : Nat} {vi vt vf vs : Value} {A1 A2 : Option Addr} {c1 c2 : Nat} {s : Tm}
set_option maxRecDepth 100000 in
set_option maxHeartbeats 4000000 in
theorem tenter_any {F : Tg} {fm : Fm} {lo n c : Nat} {A : Option Addr} {hs : List Fd} (f : Nat) (w : World) (hf : Hid (F[f]? = some fm)) (hsz : 0 ≤ fm.size) (hst : s.st.length ≤ 1000000) (hT0 : T0 ≤ 1048576) (hspT : s.mem.sp ≤ T0) (hdp : s.deep ≤ 1048576) (hvf : vf = .slice A n c) (hn80 : n ≤ 80) (hPg : Hid (TgAt w lo base A n c hs F)) (h : Hid (TmAt w g base fu T0 vi vt vf A1 c1 A2 c2 vs s)) :
    Calls Tryz.prog 45 #[.pointer (some ⟨g, 0, none⟩), .int .i64 (f : Int)] w (TPost g base fu T0 vf (s.enter F T0 f) w) := by
  obtain ⟨i0, ih, hz0, hz1, hz2⟩ := info_parts Tryz.info138z
  have hfl : f < n := by rw [← hPg.out.len]; exact (List.getElem?_eq_some_iff.1 hf.out).1
  obtain ⟨bF, oF, P, Sz, Ac, nc, cc, f', rfl, hbF, hf', hhf, hfd, d0, d1, d2⟩ := fm_at hPg.out hfl
  rw [hf.out] at hf'
  injection hf' with hf'
  subst hf'
  have hSz : Sz = fm.size := hfd.s
  obtain ⟨m, hm⟩ : ∃ m : Nat, fm.size = (m : Int) := ⟨fm.size.toNat, by omega⟩
  have hfs : fsz F f = m := by
    unfold fsz fmAt
    rw [List.getD_eq_getElem?_getD, hf.out]
    show fm.size.toNat = m
    omega
  rw [hSz, hm] at d1
  subst hvf
  have x0 := h.out.far 0 rfl
  have HbF := hide hbF
  have hbl := h.out.bl
  have hf0 : (0 : Int) ≤ (f : Int) := by omega
  have hf1 : (f : Int) < (n : Int) := by omega
  have cp := fun q => mpush_any (m : Int) (w.drewN q) (hide (h.out.drewN q).mem)
  have hbg : bF ≠ g := by have := h.out.core.gb; omega
  clear hSz hm d0 d2 hfd hhf hsz
  by_cases hov : s.mem.sp < m
  · have hT : s.enter F T0 f = s.stop 5 := by unfold Tm.enter; rw [hfs, if_pos hov]
    rw [hT, (push_not hov).1] at *
    rw [(push_not hov).2] at cp
    clear hT hfs hov
    go_enter Tryz.func45, Tryz.ntmps45
    go_upto_region 0 with (fail)
    go_region_held3 (fun w' => w'.cell? ⟨g, 25, none⟩ = some (.slice (some ⟨bF, oF, none⟩) n c) ∧ w'.cell? ⟨bF, oF + f * 3 + 1, none⟩ = some (.int .i64 (m : Int))) (first | go_keep | exact m5)
      (first | (go_at_call 65; refine (cp _).mono ?_; rintro e w5 ⟨rfl, h5, k5⟩; have H5 := hide ((h.out.drewN _).turned h5 k5 rfl); have B5 := hide ((h.out.drewN _).belowM k5); have m5 := (⟨H5.out.far 0 rfl, (B5.out.cell (p := ⟨bF, oF + f * 3 + 1, none⟩) HbF.out).trans d1⟩ : w5.cell? ⟨g, 25, none⟩ = some (.slice (some ⟨bF, oF, none⟩) n c) ∧ w5.cell? ⟨bF, oF + f * 3 + 1, none⟩ = some (.int .i64 (m : Int))); clear h5 k5))
    have cn := coEnd_any 5 w5 (hide H5.out.core)
    clear x0 d1 cp m5
    go_wp2_with fail
    refine cn.mono ?_
    rintro e w6 ⟨rfl, h6, k6⟩
    have H6 := hide (H5.out.cored h6 (k6.weak H5.out.core.tr))
    have B6 := hide (Below.trans (below_draws (Below.refl base w) _) (B5.out.trans (H5.out.belowC (k6.weak H5.out.core.tr))))
    clear h6 k6 cn
    go_wp2_with fail
    go_end0
    exact ⟨rfl, H6.out.in_, B6.out⟩
  · have hms : m ≤ s.mem.sp := by omega
    have hT : s.enter F T0 f = { s with mem := pushS s.mem m, st := s.st ++ [(f, 0)], deep := max s.deep (T0 - (s.mem.sp - m)) } := by unfold Tm.enter; rw [hfs, if_neg hov]
    rw [hT, (push_fit hms).1] at *
    rw [(push_fit hms).2] at cp
    clear hT hfs hov
    go_enter Tryz.func45, Tryz.ntmps45
    go_upto_region 0 with (fail)
    go_region_held3 (fun w' => w'.cell? ⟨g, 25, none⟩ = some (.slice (some ⟨bF, oF, none⟩) n c) ∧ w'.cell? ⟨bF, oF + f * 3 + 1, none⟩ = some (.int .i64 (m : Int))) (first | go_keep | exact m5)
      (first | (go_at_call 65; refine (cp _).mono ?_; rintro e w5 ⟨rfl, h5, k5⟩; have H5 := hide ((h.out.drewN _).turned h5 k5 rfl); have B5 := hide ((h.out.drewN _).belowM k5); have m5 := (⟨H5.out.far 0 rfl, (B5.out.cell (p := ⟨bF, oF + f * 3 + 1, none⟩) HbF.out).trans d1⟩ : w5.cell? ⟨g, 25, none⟩ = some (.slice (some ⟨bF, oF, none⟩) n c) ∧ w5.cell? ⟨bF, oF + f * 3 + 1, none⟩ = some (.int .i64 (m : Int))); clear h5 k5))
    clear x0 d1 cp m5
    have B5' := hide (Below.trans (below_draws (Below.refl base w) _) B5.out)
    have H5' := hide H5.out
    clear B5
    have t0 := H5'.out.far 5 rfl
    have t1 : ∀ o : Obj, (w5.alloc o).cell? ⟨g, 30, none⟩ = some vs := fun o => (H5'.out.alloc o).far 5 rfl
    have HM3 := hide (show s.st.length + 1 ≤ maxLen by unfold maxLen; omega)
    have HM4 := hide (show (s.st.length + 1) * 16 ≤ 140737488355328 by omega)
    have HBL := hide (show base ≤ w5.heap.size from H5'.out.bl)
    clear H5
    go_upto_region 3 with (at_builtin; refine wpList_append_own _ rfl (.tmp 25) (.tmp 28) 71 rfl base 138 i0 (.agg #[.int .i64 0, .int .i64 0]) 2 16 Tryz.underlying71 ih hz0 hz1 hz2 rfl (by decide) vs s.st.length (tacells s.st) rfl ((H5'.out.alloc _).st) ⟨w5.heap.size, 0, none⟩ 1 1 (tacell (f, 0)) rfl rfl (fun j u hu => by rw [WideShapes.add_plain, Nat.zero_add]; exact (Row.new w5 138 (tacell (f, 0))).cell hu) (tacell_oneCell _) HM3.out HM4.out (Nat.le_trans HBL.out (by simp)) ?_; intro v2 w7 ho2 hg2 _; obtain ⟨A7, c7, rfl⟩ := own_shape ho2; have FIN := hide (H5'.out.pushed ((World.grownBy_alloc w5 _ _).trans hg2) ho2); have p0 := FIN.out.2.1.cell (k := 30) (show (ccells fu s.c vi vt ++ trest T0 _ _ A1 c1 A2 c2 vs)[24 + 6]? = some vs by rw [ccells_end H5'.out.core.r8]; rfl); have p1 := FIN.out.2.1.free 30; clear hg2 ho2 t0 t1)
    obtain ⟨W8, hW8⟩ : ∃ W8, w7.setCell ⟨g, 30, none⟩ (.slice A7 (s.st.length + 1) c7) = W8 := ⟨_, rfl⟩
    have H8 := hide FIN.out.1
    have B8 := hide (B5'.out.trans FIN.out.2.2)
    rw [show 25 + 5 = 30 from rfl, hW8] at H8 B8
    rw [hW8]
    clear FIN hW8 p0 p1 HM3 HM4 HBL H5' B5'
    have d0 := H8.out.far 6 rfl
    have d1 := H8.out.far 4 rfl
    have d2 := H8.out.far 3 rfl
    have d3 := H8.out.free 31
    have hps : (pushS s.mem m).sp = s.mem.sp - m := rfl
    have FX := hide (show ∀ X : Int, X = ((max s.deep (T0 - (s.mem.sp - m)) : Nat) : Int) → TmAt (W8.setCell ⟨g, 31, none⟩ (.int .i64 X)) g base fu T0 vi vt (.slice (some ⟨bF, oF, none⟩) n c) A1 c1 A2 c2 (.slice A7 (s.st.length + 1) c7) { s with mem := pushS s.mem m, st := s.st ++ [(f, 0)], deep := max s.deep (T0 - (s.mem.sp - m)) } from fun X e => by
      rw [e]
      exact H8.out.setRest 6 (.int .i64 ((max s.deep (T0 - (s.mem.sp - m)) : Nat) : Int)) rfl rfl rfl (H8.out.st.kept (grown_one W8 g 31 _) (own_offR H8.out.st H8.out.core.row (by decide))))
    have hgb := hide H8.out.core.gb
    obtain ⟨q, hq⟩ : ∃ q : Nat, s.mem.sp - m = q := ⟨_, rfl⟩
    rw [hps, hq] at d2
    have hqT : q ≤ T0 := by omega
    have hw1 : IntKind.i64.wrap ((T0 : Int) - (q : Int)) = (T0 : Int) - (q : Int) := by rw [IntKind.wrap_i64]; omega
    have HQ := hide hq
    clear hps hms H8 hq
    go_wp2_with (first | go_region)
    all_goals
      go_end0
      exact ⟨rfl, (FX.out _ (by rw [HQ.out]; omega)).drew_.in_, below_draws (B8.out.trans ((Below.refl _ _).setCell (p := ⟨g, 31, none⟩) hgb.out _)) 1⟩
end
end Go.Proofs.YtafegghdhdgioabGreat
end
