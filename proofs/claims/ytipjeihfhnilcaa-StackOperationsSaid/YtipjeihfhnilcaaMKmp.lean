import Derived.Test.YtipjeihfhnilcaaMKmm
import Derived.Test.YtipjeihfhnilcaaMKleaf
import Derived.Deep.DeepCutAuto
set_option linter.unusedVariables false
set_option linter.unusedSimpArgs false
section
/-
  The contracts of Memory's Push and Pop (chapter 9): the stack behind each, or the stack as it was with the error. Conditions: those of the types; the stack is one for which Check is true.
-/
namespace Go.Proofs.Ytipjeihfhnilcaa
open Go.RowKit
attribute [local go_sem ↓] Go.wp_at_zero Go.wp_at_succ

section
variable {g o base : Nat} {T : TypeId} {cs : List Value} {A1 A2 : Option Addr} {c1 c2 : Nat} {S : Sk}
/-- How a method of Memory returns. -/
def MPostK (g o base : Nat) (T : TypeId) (cs : List Value) (A1 : Option Addr) (c1 : Nat) (A2 : Option Addr) (c2 : Nat) (S' : Sk) (r : Value) (w : World) (e : Ending) (w' : World) : Prop :=
  e = .returned r ∧ MemAt w' g o base T (cs.set (o + 2) (.int .i64 (S'.sp : Int))) A1 c1 A2 c2 S' ∧ MKp w w' g base
theorem MemAt.same {w : World} (h : MemAt w g o base T cs A1 c1 A2 c2 S) : cs.set (o + 2) (.int .i64 (S.sp : Int)) = cs := by
  have hl : o + 2 < cs.length := (List.getElem?_eq_some_iff.1 h.k2).1
  apply List.ext_getElem?
  intro j
  rw [List.getElem?_set]
  split
  · rename_i e
    subst e
    first | (rw [if_pos hl]; exact h.k2.symm) | exact h.k2.symm
  · rfl
set_option maxRecDepth 100000 in
set_option maxHeartbeats 4000000 in
theorem mpush_any (n : Int) (w : World) (h : Hid (MemAt w g o base T cs A1 c1 A2 c2 S)) :
    Calls Try.prog 43 #[.pointer (some ⟨g, o, none⟩), .int .i64 n] w (MPostK g o base T cs A1 c1 A2 c2 (pushR S n) (.int .i64 (pushE S n)) w) := by
  have hok := hide h.out.own.ok
  have hmost := hok.out.most
  have hsp := hok.out.sp
  have ck := check_stk A1 S.bs.length c1 A2 S.bs.length c2 (S.sp : Int) w (by omega) (by omega)
  rw [ckB_ok hok.out] at ck
  have x0 := h.out.row.cell h.out.k0
  have x1 := h.out.row.cell h.out.k1
  have x2 := h.out.row.cell h.out.k2
  by_cases h0 : n < 0
  · have hE : pushE S n = 4 := by simp [pushE, h0]
    have hR : pushR S n = S := by simp [pushR, hE]
    rw [hR, hE]
    unfold MPostK
    rw [h.out.same]
    clear hE hR
    go_enter Try.func43, Try.ntmps43
    go_wp2_with fail
    refine ck.mono ?_
    rintro e w1 ⟨rfl, hb1⟩
    have H1 := hide (h.out.call hb1)
    have K1 := hide (MKp.of_below hb1 g base)
    clear hb1 ck x0 x1 x2
    go_wp2_with fail
    go_ret
    exact ⟨rfl, H1.out, K1.out⟩
  · by_cases h1 : (S.sp : Int) < n
    · have hE : pushE S n = 9 := by simp [pushE, h0, h1]
      have hR : pushR S n = S := by simp [pushR, hE]
      rw [hR, hE]
      unfold MPostK
      rw [h.out.same]
      clear hE hR
      go_enter Try.func43, Try.ntmps43
      go_wp2_with fail
      refine ck.mono ?_
      rintro e w1 ⟨rfl, hb1⟩
      have H1 := hide (h.out.call hb1)
      have K1 := hide (MKp.of_below hb1 g base)
      clear hb1 ck x0 x1 x2
      have x2 := H1.out.row.cell H1.out.k2
      go_wp2_with fail
      go_ret
      exact ⟨rfl, H1.out, K1.out⟩
    · obtain ⟨m, rfl⟩ : ∃ m : Nat, n = (m : Int) := ⟨n.toNat, by omega⟩
      have hE : pushE S (m : Int) = 0 := by simp only [pushE]; rw [if_neg h0, if_neg h1]
      have hR : pushR S (m : Int) = pushS S m := by simp [pushR, hE]
      have hms : m ≤ S.sp := by omega
      rw [hR, hE]
      clear hE hR
      have HZ := hide zero_bool
      obtain ⟨q, hq⟩ : ∃ q, S.sp - m = q := ⟨_, rfl⟩
      have hsub : ((S.sp : Int) - (m : Int)) = (q : Int) := by omega
      have hqm := hide (show q + m = S.sp by omega)
      have hql : q + m ≤ S.sp := by omega
      have hwm : IntKind.i64.wrap ((S.sp : Int) - (m : Int)) = (q : Int) := by rw [IntKind.wrap_i64]; omega
      have hwa : IntKind.i64.wrap ((q : Int) + (m : Int)) = (q : Int) + (m : Int) := by rw [IntKind.wrap_i64]; omega
      have HQ := hide hq
      clear hq
      go_enter Try.func43, Try.ntmps43
      go_wp2_with fail
      refine ck.mono ?_
      rintro e w1 ⟨rfl, hb1⟩
      have H1 := hide (h.out.call hb1)
      have K1 := hide (MKp.of_below hb1 g base)
      clear hb1 ck x0 x1 x2
      have x2 := H1.out.row.cell H1.out.k2
      have f2 := H1.out.row.free (o + 2)
      obtain ⟨W2, hW2⟩ : ∃ W, w1.setCell ⟨g, o + 2, none⟩ (.int .i64 (q : Int)) = W := ⟨_, rfl⟩
      have H2 := hide (show MemAt W2 g o base T (cs.set (o + 2) (.int .i64 (q : Int))) A1 c1 A2 c2 ⟨S.bs, S.us, q⟩ by
        rw [← hW2]
        exact H1.out.setSp (S' := ⟨S.bs, S.us, q⟩) rfl rfl ⟨hok.out.len, hok.out.most, show q ≤ S.bs.length by omega, hok.out.byt⟩)
      have K2 := hide (show MKp w W2 g base by rw [← hW2]; exact K1.out.trans (MKp.set w1 g base (o + 2) _))
      have HW2 := hide hW2
      clear hW2 hsub
      go_upto_region 6 with (fail)
      rw [HW2.out]
      clear HW2 x2 f2
      have x1 := H2.out.row.cell H2.out.k1
      have x2 := H2.out.row.cell H2.out.k2
      by_cases hm0 : m = 0
      · subst hm0
        have hcl := fun (A : Option Addr) (k : Nat) (W : World) (ty : TypeId) => clear_none (P := Try.prog) (ty := ty) Try.underlying27 A k W
        have hqs : q = S.sp := by have := hqm.out; omega
        subst hqs
        have FIN := hide (show MemAt W2 g o base T (cs.set (o + 2) (.int .i64 ((pushS S 0).sp : Int))) A1 c1 A2 c2 (pushS S 0) by rw [push_zero S hok.out]; exact H2.out)
        clear hqm HQ
        have hle2 := (own_le H2.out.own.o2).2
        have hn2 := (own_le H2.out.own.o2).1
        dsimp only at hle2
        cases A2 with
        | none =>
          obtain rfl : c2 = 0 := hn2 rfl
          have hb0 : S.bs.length = 0 := by omega
          have hs0 : S.sp = 0 := by omega
          rw [hs0] at x2 hwa
          rw [hb0] at x1
          go_wp2_with (first | go_region)
          go_ret
          exact ⟨rfl, FIN.out.drewN 1, K2.out.trans (MKp.of_below (below_draws (Below.refl _ _) 1) g base)⟩
        | some ad =>
          by_cases hle : c2 ≤ S.sp
          · obtain rfl : S.sp = c2 := by omega
            go_wp2_with (first | go_region)
            go_ret
            exact ⟨rfl, FIN.out.drewN 1, K2.out.trans (MKp.of_below (below_draws (Below.refl _ _) 1) g base)⟩
          · have hqk : S.sp ≤ c2 := by omega
            go_wp2_with (first | go_region)
            go_ret
            exact ⟨rfl, FIN.out.drewN 1, K2.out.trans (MKp.of_below (below_draws (Below.refl _ _) 1) g base)⟩
      · have x1 : W2.drew.cell? ⟨g, o + 1, none⟩ = _ := x1
        have x2 : W2.drew.cell? ⟨g, o + 2, none⟩ = _ := x2
        have H2 := hide (show MemAt W2.drew g o base T (cs.set (o + 2) (.int .i64 (q : Int))) A1 c1 A2 c2 ⟨S.bs, S.us, q⟩ from H2.out.drewN 1)
        have K2 := hide (show MKp w W2.drew g base from K2.out.trans (MKp.of_below (show Below W2.heap.size W2 W2.drew from below_draws (Below.refl _ _) 1) g base))
        obtain ⟨b, k2', hv, hbb, hblt, hnk, _⟩ := own_block H2.out.own.o2 (show 0 < S.bs.length by omega)
        injection hv with hv1 hv2 hv3
        subst hv1 hv3
        clear hv2
        have hT := own_turned (cs := List.replicate m (.bool false)) (off := q) H2.out.own.o1 H2.out.own.o2 (by decide) (by simp; omega)
        have hcl := fun (ty : TypeId) => Lib.run_clear_slice W2.drew 27 4 ty (.bool false) Try.underlying27 HZ.out rfl rfl b q m (c2 - q) (by omega) (fun j hj => by rw [H2.out.own.o2.cellAt (q + j) (by show q + j < S.bs.length * 1; omega)]; rw [List.getElem?_eq_getElem (by rw [cellsB_length]; show q + j < S.us.length; rw [hok.out.len]; omega)]; rfl) (fun j hj => H2.out.own.o2.frozenAt (q + j))
        obtain ⟨W3, hW3⟩ : ∃ W, W2.drew.setCells b q (List.replicate m (.bool false)) = W := ⟨_, rfl⟩
        rw [hW3] at hcl hT
        obtain ⟨T1, T2, T3, T4⟩ := hT
        have hbg : b ≠ g := by
          rcases own_offR H2.out.own.o2 H2.out.row H2.out.t2 with h1 | h1
          · simp [Value.ownBlock] at h1
          · exact fun e => h1 (by rw [e]; rfl)
        have FIN := hide (show MemAt W3 g o base T (cs.set (o + 2) (.int .i64 ((pushS S m).sp : Int))) A1 c1 (some ⟨b, 0, none⟩) c2 (pushS S m) from
          ⟨by rw [show ((pushS S m).sp : Int) = (q : Int) by show ((S.sp - m : Nat) : Int) = _; rw [HQ.out]]; exact H2.out.row.grown T3 (fun e => hbg (by first | exact Option.some.inj e | exact (Option.some.inj e).symm)),
           by rw [List.getElem?_set_ne (by omega)]; exact h.out.k0, by rw [List.getElem?_set_ne (by omega)]; exact h.out.k1, List.getElem?_set_self (List.getElem?_eq_some_iff.1 h.out.k2).1,
           ⟨hok.out.push hms, T1, by rw [show (pushS S m).us = splice S.us (S.sp - m) (List.replicate m false) from rfl, cellsB_splice, cellsB_all, HQ.out]; exact T2⟩, h.out.gb, h.out.t1, h.out.t2⟩)
        have K3 := hide (K2.out.trans (MKp.of_row T3 H2.out.own.o2 (.inr rfl) g))
        clear T1 T2 T3 T4 hW3
        have hle2 := (own_le H2.out.own.o2).2
        dsimp only at hle2
        have hqk : q ≤ c2 := by omega
        have hqc : ¬ c2 ≤ q := by omega
        go_wp2_with (first | go_region)
        go_ret
        exact ⟨rfl, FIN.out, K3.out⟩
set_option maxRecDepth 100000 in
set_option maxHeartbeats 4000000 in
theorem mpop_any (n : Int) (w : World) (h : Hid (MemAt w g o base T cs A1 c1 A2 c2 S)) :
    Calls Try.prog 55 #[.pointer (some ⟨g, o, none⟩), .int .i64 n] w (MPostK g o base T cs A1 c1 A2 c2 (popR S n) (.int .i64 (popE S n)) w) := by
  have hok := hide h.out.own.ok
  have hmost := hok.out.most
  have hsp := hok.out.sp
  have ck : ∀ p : After w, Calls Try.prog 14 #[kv A1 S.bs.length c1 A2 S.bs.length c2 (S.sp : Int)] p.w fun e w' => e = .returned (.bool true) ∧ Below p.w.heap.size p.w w' := fun p => by
    have := check_stk A1 S.bs.length c1 A2 S.bs.length c2 (S.sp : Int) p.w (by omega) (by omega)
    rwa [ckB_ok hok.out] at this
  have CK := hide ck
  clear ck
  have x0 := fun p : After w => after_cell (h.out.row.cell h.out.k0) p
  have x1 := fun p : After w => after_cell (h.out.row.cell h.out.k1) p
  have x2 := fun p : After w => after_cell (h.out.row.cell h.out.k2) p
  have hws : IntKind.i64.wrap ((S.bs.length : Int) - (S.sp : Int)) = (S.bs.length : Int) - (S.sp : Int) := by rw [IntKind.wrap_i64]; omega
  have hcase : (n < 0 ∨ (¬ n < 0 ∧ (S.bs.length : Int) - (S.sp : Int) < n)) ∨ (¬ n < 0 ∧ ¬ (S.bs.length : Int) - (S.sp : Int) < n) := by omega
  rcases hcase with hbad | ⟨h0, h1⟩
  · have hE : popE S n = 4 := by unfold popE; rw [if_pos (by omega)]
    have hR : popR S n = S := by simp [popR, hE]
    rw [hR, hE]
    unfold MPostK
    rw [h.out.same]
    clear hE hR
    rcases hbad with h0 | ⟨h0, h1⟩
    · have d0 : decide (n < 0) = true := decide_eq_true h0
      go_enter Try.func55, Try.ntmps55
      go_upto_region 1 with (fail)
      refine wp_region_after (by kernel_rfl) (by kernel_rfl) ?_
      repeat (go_big_quiet_step ((go_at_call 14; with_reducible exact after_of (CK.out _))))
      refine wpQuiet_nil ?_
      intro _ hw'
      obtain ⟨p1, hw''⟩ := hw'
      subst hw''
      go_wp2_with fail
      go_ret
      exact ⟨rfl, h.out.call p1.b, MKp.of_below p1.b g base⟩
    · have d0 : decide (n < 0) = false := decide_eq_false h0
      have d1 : decide ((S.bs.length : Int) - (S.sp : Int) < n) = true := decide_eq_true h1
      go_enter Try.func55, Try.ntmps55
      go_upto_region 1 with (fail)
      refine wp_region_after (by kernel_rfl) (by kernel_rfl) ?_
      repeat (go_big_quiet_step ((go_at_call 14; with_reducible exact after_of (CK.out _))))
      refine wpQuiet_nil ?_
      intro _ hw'
      obtain ⟨p1, hw''⟩ := hw'
      subst hw''
      go_wp2_with fail
      go_ret
      exact ⟨rfl, h.out.call p1.b, MKp.of_below p1.b g base⟩
  · obtain ⟨m, rfl⟩ : ∃ m : Nat, n = (m : Int) := ⟨n.toNat, by omega⟩
    have hE : popE S (m : Int) = 0 := by unfold popE; rw [if_neg (by omega)]
    have hR : popR S (m : Int) = popS S m := by simp [popR, hE]
    rw [hR, hE]
    clear hE hR
    have hws2 : IntKind.i64.wrap ((S.sp : Int) + (m : Int)) = (S.sp : Int) + (m : Int) := by rw [IntKind.wrap_i64]; omega
    have hcast := hide (show ((popS S m).sp : Int) = (S.sp : Int) + (m : Int) by show ((S.sp + m : Nat) : Int) = _; omega)
    have hpok := hide (hok.out.pop (n := m) (by omega))
    have d0 : decide ((m : Int) < 0) = false := decide_eq_false h0
    have d1 : decide ((S.bs.length : Int) - (S.sp : Int) < (m : Int)) = false := decide_eq_false h1
    go_enter Try.func55, Try.ntmps55
    go_upto_region 1 with (fail)
    refine wp_region_after (by kernel_rfl) (by kernel_rfl) ?_
    repeat (go_big_quiet_step ((go_at_call 14; with_reducible exact after_of (CK.out _))))
    refine wpQuiet_nil ?_
    intro _ hw'
    obtain ⟨p1, hw''⟩ := hw'
    subst hw''
    have H1 := hide (h.out.call p1.b)
    have x2 := H1.out.row.cell H1.out.k2
    have f2 := H1.out.row.free (o + 2)
    have FIN := hide (H1.out.setSp (S' := popS S m) rfl rfl hpok.out)
    rw [hcast.out] at FIN
    go_wp2_with fail
    go_ret
    exact ⟨rfl, by rw [hcast.out]; exact FIN.out, (MKp.of_below p1.b g base).trans (MKp.set p1.w g base (o + 2) _)⟩
end
end Go.Proofs.Ytipjeihfhnilcaa
end
