import Derived.Test.YtipjeihfhnilcaaMKleaf
import Derived.Deep.DeepCutAuto
set_option linter.unusedVariables false
set_option linter.unusedSimpArgs false
section
/-
  The contracts of stack.used and fits, and of the reference's used and right. Conditions: those of the types; the stack is one for which Check is true.
-/
namespace Go.Proofs.Ytipjeihfhnilcaa
open Go.RowKit
attribute [local go_sem ↓] Go.wp_at_zero Go.wp_at_succ

section
variable {A1 A2 : Option Addr} {c1 c2 : Nat} {S : Sk}
theorem StkAt.place {w : World} {B : Nat} (h : StkAt w B A1 c1 A2 c2 S) (h1 : 1 ≤ S.bs.length) : (∃ b off, A1 = some ⟨b, off, none⟩ ∧ b < B) ∧ ∃ b off, A2 = some ⟨b, off, none⟩ ∧ b < B := by
  have hl := h.ok.len
  obtain ⟨b, off, e, hb, _⟩ := h.s1 0 (.int .u8 (S.bs.getD 0 0)) (get_u8 (by omega))
  obtain ⟨b', off', e', hb', _⟩ := h.s2 0 (.bool S.us[0]) (cellsB_at (List.getElem?_eq_getElem (by omega)))
  exact ⟨⟨b, off, e, hb⟩, b', off', e', hb'⟩
set_option maxHeartbeats 1000000 in
theorem used_any (a n : Nat) (w : World) (hS : Hid (StkAt w w.heap.size A1 c1 A2 c2 S)) (h1 : 1 ≤ n) (ha : a + n ≤ S.bs.length) :
    Calls Try.prog 45 #[sv A1 c1 A2 c2 S, .int .i64 (a : Int), .int .i64 (n : Int)] w fun e w' => e = .returned (.bool (usedB S a n)) ∧ Below w.heap.size w w' := by
  have hmost := hS.out.ok.most
  have hm2 := hS.out.m2
  have hl := hS.out.ok.len
  have f1 := (Row.new w 29 [.slice A1 S.bs.length c1, .slice A2 S.bs.length c2, .int .i64 (S.sp : Int)]).cell (k := 1) rfl
  obtain ⟨_, b, off, rfl, hb⟩ := hS.out.place (by omega)
  have cc := contains_any (some ⟨b, off + a, none⟩) n (c2 - a) ((S.us.drop a).take n) w.heap.size (w.alloc (.cells #[.slice A1 S.bs.length c1, .slice (some ⟨b, off, none⟩) S.bs.length c2, .int .i64 (S.sp : Int)] 29)) (hide (by simp; omega)) (by omega) (hide (by
    have h2 := (hS.out.below (below1 w (.cells #[.slice A1 S.bs.length c1, .slice (some ⟨b, off, none⟩) S.bs.length c2, .int .i64 (S.sp : Int)] 29))).cutB a n
    rwa [Option.map_some, WideShapes.add_plain] at h2))
  obtain ⟨u, hu⟩ : ∃ u, usedB S a n = u := ⟨_, rfl⟩
  rw [show ((S.us.drop a).take n).all id = u from hu] at cc
  rw [hu]
  clear hu hl hS
  go_enter Try.func45, Try.ntmps45
  go_wp2_with fail
  refine cc.mono ?_
  rintro e w' ⟨rfl, rfl⟩
  go_wp2_with fail
  go_ret
  exact ⟨ret_bool (by cases u <;> rfl), below1 _ _⟩
set_option maxHeartbeats 1000000 in
theorem fits_any (off n : Int) (w : World) (hS : Hid S.Ok) :
    Calls Try.prog 44 #[sv A1 c1 A2 c2 S, .int .i64 off, .int .i64 n] w fun e w' => e = .returned (.bool (fitB S off n)) ∧ Below w.heap.size w w' := by
  have hmost := hS.out.most
  have hsp := hS.out.sp
  have ck := fun w => check_stk A1 S.bs.length c1 A2 S.bs.length c2 (S.sp : Int) w (by omega) (by omega)
  rw [ckB_ok hS.out] at ck
  have R := hide (Row.new w 29 [.slice A1 S.bs.length c1, .slice A2 S.bs.length c2, .int .i64 (S.sp : Int)])
  obtain ⟨W1, hW1⟩ : ∃ W1, w.alloc (.cells #[.slice A1 S.bs.length c1, .slice A2 S.bs.length c2, .int .i64 (S.sp : Int)] 29) = W1 := ⟨_, rfl⟩
  have HW1 := hide hW1
  have R1 := hide (show Row W1 w.heap.size 29 [.slice A1 S.bs.length c1, .slice A2 S.bs.length c2, .int .i64 (S.sp : Int)] by rw [← hW1]; exact R.out)
  have B1 := hide (show Below w.heap.size w W1 by rw [← hW1]; exact below1 w _)
  clear hW1 R
  have f0 := R1.out.cell (k := 0) rfl
  have f1 := R1.out.cell (k := 1) rfl
  have f2 := R1.out.cell (k := 2) rfl
  cases hz : szB n with
  | false =>
    have hr := hide (show fitB S off n = false by simp [fitB, hz])
    have cz := vsz_any n
    rw [hz] at cz
    clear hz
    go_enter Try.func44, Try.ntmps44
    go_upto_region 1 with (fail)
    rw [HW1.out]
    go_wp2_with fail
    refine (ck _).mono ?_
    rintro e w2 ⟨rfl, hb2⟩
    go_wp2_with fail
    refine (cz _).mono ?_
    rintro e w3 ⟨rfl, rfl⟩
    go_wp2_with fail
    go_ret
    exact ⟨ret_bool hr.out.symm, B1.out.trans (hb2.mono B1.out.size)⟩
  | true =>
    have hn := of_decide_eq_true (show decide (n = 1 ∨ n = 2 ∨ n = 4 ∨ n = 8 ∨ n = 16) = true from hz)
    have hr := hide (show insB off n ((S.bs.length : Int) - S.sp) = fitB S off n by
      rw [Bool.eq_iff_iff, fitB_iff]
      unfold insB
      rw [Bool.and_eq_true, rightB_iff, decide_eq_true_eq]
      constructor
      · rintro ⟨⟨h1, h2, h3⟩, h4⟩; exact ⟨hz, h1, h4⟩
      · rintro ⟨_, h1, h4⟩; exact ⟨⟨h1, by omega, by omega⟩, h4⟩)
    have cz := vsz_any n
    rw [hz] at cz
    have ci := inside_any off n ((S.bs.length : Int) - S.sp)
    rw [hr.out] at ci
    clear hz hn hr
    go_enter Try.func44, Try.ntmps44
    go_upto_region 1 with (fail)
    rw [HW1.out]
    go_wp2_with fail
    refine (ck _).mono ?_
    rintro e w2 ⟨rfl, hb2⟩
    have g0 := keep_cellB hb2 f0
    have g1 := keep_cellB hb2 f1
    have g2 := keep_cellB hb2 f2
    go_wp2_with fail
    refine (cz _).mono ?_
    rintro e w3 ⟨rfl, rfl⟩
    go_wp2_with fail
    refine (ci _).mono ?_
    rintro e w3 ⟨rfl, hb3⟩
    go_wp2_with fail
    go_ret
    exact ⟨ret_bool (by simp), (B1.out.trans (hb2.mono B1.out.size)).trans (hb3.mono (by have := B1.out.size; have := hb2.size; omega))⟩
end
end Go.Proofs.Ytipjeihfhnilcaa
end
