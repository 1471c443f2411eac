/-
  The contracts of stack.used and fits, and of the reference's used and right. Conditions: those of the types; the stack is one for which Check is true.
-/
import Derived.Test.YtlkikjgapingjaaKleaf
import Derived.Deep.DeepCutAuto
namespace Go.Proofs.Ytlkikjgapingjaa
open Go.RowKit
attribute [local go_sem ↓] Go.wp_at_zero Go.wp_at_succ

section
variable {A1 A2 : Option Addr} {c1 c2 : Nat} {S : Sk}
theorem StkAt.place {w : World} {B : Nat} (h : StkAt w B A1 c1 A2 c2 S) (h1 : 1 ≤ S.bs.length) : (∃ b off, A1 = some ⟨b, off, none⟩ ∧ b < B) ∧ ∃ b off, A2 = some ⟨b, off, none⟩ ∧ b < B := by
  have hl := h.ok.len
  obtain ⟨b, off, e, hb, _⟩ := h.s1 0 (.int .u8 (S.bs.getD 0 0)) (get_u8 (by omega))
  obtain ⟨b', off', e', hb', _⟩ := h.s2 0 (.bool S.us[0]) (cellsB_at (List.getElem?_eq_getElem (by omega)))
  exact ⟨⟨b, off, e, hb⟩, b', off', e', hb'⟩
set_option maxHeartbeats 1000000 in
theorem used_any (a n : Nat) (w : World) (hS : Hid (StkAt w w.heap.size A1 c1 A2 c2 S)) (h1 : 1 ≤ n) (ha : a + n ≤ S.bs.length) :
    Calls Try.prog 39 #[sv A1 c1 A2 c2 S, .int .i64 (a : Int), .int .i64 (n : Int)] w fun e w' => e = .returned (.bool (usedB S a n)) ∧ Below w.heap.size w w' := by
  have hmost := hS.out.ok.most
  have hm2 := hS.out.m2
  have hl := hS.out.ok.len
  have f1 := (Row.new w 25 [.slice A1 S.bs.length c1, .slice A2 S.bs.length c2, .int .i64 (S.sp : Int)]).cell (k := 1) rfl
  obtain ⟨_, b, off, rfl, hb⟩ := hS.out.place (by omega)
  have cc := contains_any (some ⟨b, off + a, none⟩) n (c2 - a) ((S.us.drop a).take n) w.heap.size (w.alloc (.cells #[.slice A1 S.bs.length c1, .slice (some ⟨b, off, none⟩) S.bs.length c2, .int .i64 (S.sp : Int)] 25)) (hide (by simp; omega)) (by omega) (hide (by
    have h2 := (hS.out.below (below1 w (.cells #[.slice A1 S.bs.length c1, .slice (some ⟨b, off, none⟩) S.bs.length c2, .int .i64 (S.sp : Int)] 25))).cutB a n
    rwa [Option.map_some, WideShapes.add_plain] at h2))
  obtain ⟨u, hu⟩ : ∃ u, usedB S a n = u := ⟨_, rfl⟩
  rw [show ((S.us.drop a).take n).all id = u from hu] at cc
  rw [hu]
  clear hu hl hS
  go_enter Try.func39, Try.ntmps39
  go_wp2_with fail
  refine cc.mono ?_
  rintro e w' ⟨rfl, rfl⟩
  go_wp2_with fail
  go_ret
  exact ⟨ret_bool (by cases u <;> rfl), below1 _ _⟩
set_option maxHeartbeats 1000000 in
theorem fits_any (off n : Int) (w : World) (hS : Hid S.Ok) :
    Calls Try.prog 35 #[sv A1 c1 A2 c2 S, .int .i64 off, .int .i64 n] w fun e w' => e = .returned (.bool (fitB S off n)) ∧ Below w.heap.size w w' := by
  have hmost := hS.out.most
  have hsp := hS.out.sp
  have ck := fun w => check_stk A1 S.bs.length c1 A2 S.bs.length c2 (S.sp : Int) w (by omega) (by omega)
  rw [ckB_ok hS.out] at ck
  have R := hide (Row.new w 25 [.slice A1 S.bs.length c1, .slice A2 S.bs.length c2, .int .i64 (S.sp : Int)])
  obtain ⟨W1, hW1⟩ : ∃ W1, w.alloc (.cells #[.slice A1 S.bs.length c1, .slice A2 S.bs.length c2, .int .i64 (S.sp : Int)] 25) = W1 := ⟨_, rfl⟩
  have HW1 := hide hW1
  have R1 := hide (show Row W1 w.heap.size 25 [.slice A1 S.bs.length c1, .slice A2 S.bs.length c2, .int .i64 (S.sp : Int)] by rw [← hW1]; exact R.out)
  have B1 := hide (show Below w.heap.size w W1 by rw [← hW1]; exact below1 w _)
  clear hW1 R
  have f0 := R1.out.cell (k := 0) rfl
  have f1 := R1.out.cell (k := 1) rfl
  have f2 := R1.out.cell (k := 2) rfl
  cases hz : szB n with
  | false =>
    have hr := hide (show fitB S off n = false by simp [fitB, hz])
    have cz := vsz_any n
    rw [hz] at cz
    clear hz
    go_enter Try.func35, Try.ntmps35
    go_upto_region 1 with (fail)
    rw [HW1.out]
    go_wp2_with fail
    refine (ck _).mono ?_
    rintro e w2 ⟨rfl, hb2⟩
    go_wp2_with fail
    refine (cz _).mono ?_
    rintro e w3 ⟨rfl, rfl⟩
    go_wp2_with fail
    go_ret
    exact ⟨ret_bool hr.out.symm, B1.out.trans (hb2.mono B1.out.size)⟩
  | true =>
    have hn := of_decide_eq_true (show decide (n = 1 ∨ n = 2 ∨ n = 4 ∨ n = 8 ∨ n = 16) = true from hz)
    have hr := hide (show insB off n ((S.bs.length : Int) - S.sp) = fitB S off n by
      rw [Bool.eq_iff_iff, fitB_iff]
      unfold insB
      rw [Bool.and_eq_true, rightB_iff, decide_eq_true_eq]
      constructor
      · rintro ⟨⟨h1, h2, h3⟩, h4⟩; exact ⟨hz, h1, h4⟩
      · rintro ⟨_, h1, h4⟩; exact ⟨⟨h1, by omega, by omega⟩, h4⟩)
    have cz := vsz_any n
    rw [hz] at cz
    have ci := inside_any off n ((S.bs.length : Int) - S.sp)
    rw [hr.out] at ci
    clear hz hn hr
    go_enter Try.func35, Try.ntmps35
    go_upto_region 1 with (fail)
    rw [HW1.out]
    go_wp2_with fail
    refine (ck _).mono ?_
    rintro e w2 ⟨rfl, hb2⟩
    have g0 := keep_cellB hb2 f0
    have g1 := keep_cellB hb2 f1
    have g2 := keep_cellB hb2 f2
    go_wp2_with fail
    refine (cz _).mono ?_
    rintro e w3 ⟨rfl, rfl⟩
    go_wp2_with fail
    refine (ci _).mono ?_
    rintro e w3 ⟨rfl, hb3⟩
    go_wp2_with fail
    go_ret
    exact ⟨ret_bool (by simp), (B1.out.trans (hb2.mono B1.out.size)).trans (hb3.mono (by have := B1.out.size; have := hb2.size; omega))⟩
set_option maxHeartbeats 1000000 in
theorem rright_stk (off n : Int) (w : World) (hS : Hid S.Ok) (ho : isI off) :
    Calls Try.prog 43 #[sv A1 c1 A2 c2 S, .int .i64 off, .int .i64 n] w fun e w' => e = .returned (.bool (fitB S off n)) ∧ Below w.heap.size w w' := by
  have hmost := hS.out.most
  have hsp := hS.out.sp
  have f0 := (Row.new w 25 [.slice A1 S.bs.length c1, .slice A2 S.bs.length c2, .int .i64 (S.sp : Int)]).cell (k := 0) rfl
  have f2 := (Row.new w 25 [.slice A1 S.bs.length c1, .slice A2 S.bs.length c2, .int .i64 (S.sp : Int)]).cell (k := 2) rfl
  have cz := rsz_any n
  cases hz : szB n with
  | false =>
    have hr := hide (show fitB S off n = false by simp [fitB, hz])
    rw [hz] at cz
    clear hz
    go_enter Try.func43, Try.ntmps43
    go_wp2_with fail
    refine (cz _).mono ?_
    rintro e w3 ⟨rfl, rfl⟩
    go_wp2_with fail
    go_ret
    exact ⟨ret_bool hr.out.symm, below1 _ _⟩
  | true =>
    have hn := of_decide_eq_true (show decide (n = 1 ∨ n = 2 ∨ n = 4 ∨ n = 8 ∨ n = 16) = true from hz)
    have hn0 : 1 ≤ n ∧ n ≤ 16 := by omega
    have hr := hide (show fitB S off n = decide (0 ≤ off ∧ off ≤ (S.bs.length : Int) - S.sp - n) by
      rw [Bool.eq_iff_iff, fitB_iff, decide_eq_true_eq]
      constructor
      · rintro ⟨_, h1, h4⟩; omega
      · rintro ⟨h1, h4⟩; exact ⟨hz, h1, by omega⟩)
    rw [hz] at cz
    clear hz hn
    by_cases h0 : 0 ≤ off
    · go_enter Try.func43, Try.ntmps43
      go_wp2_with fail
      refine (cz _).mono ?_
      rintro e w3 ⟨rfl, rfl⟩
      go_wp2_with fail
      go_ret
      exact ⟨ret_bool (by rw [hr.out]; simp [h0]), below1 _ _⟩
    · go_enter Try.func43, Try.ntmps43
      go_wp2_with fail
      refine (cz _).mono ?_
      rintro e w3 ⟨rfl, rfl⟩
      go_wp2_with fail
      go_ret
      exact ⟨ret_bool (by rw [hr.out]; symm; rw [decide_eq_false_iff_not]; omega), below1 _ _⟩
set_option maxHeartbeats 1000000 in
theorem rused_any (off n : Nat) (w : World) (hS : Hid (StkAt w w.heap.size A1 c1 A2 c2 S)) (ha : S.sp + off + n ≤ S.bs.length) :
    Calls Try.prog 44 #[sv A1 c1 A2 c2 S, .int .i64 (off : Int), .int .i64 (n : Int)] w fun e w' => e = .returned (.bool (usedB S (S.sp + off) n)) ∧ Below w.heap.size w w' := by
  have hmost := hS.out.ok.most
  have hsp := hS.out.ok.sp
  have hl := hide hS.out.ok.len
  have hm2 := hS.out.m2
  obtain ⟨W1, hW1⟩ : ∃ W1, w.alloc (.cells #[.slice A1 S.bs.length c1, .slice A2 S.bs.length c2, .int .i64 (S.sp : Int)] 25) = W1 := ⟨_, rfl⟩
  have HW1 := hide hW1
  have R1 := hide (show Row W1 w.heap.size 25 [.slice A1 S.bs.length c1, .slice A2 S.bs.length c2, .int .i64 (S.sp : Int)] by rw [← hW1]; exact Row.new w _ _)
  have B1 := hide (show Below w.heap.size w W1 by rw [← hW1]; exact below1 w _)
  have HS := hide (hS.out.below B1.out)
  clear hW1
  have f1 := R1.out.cell (k := 1) rfl
  have f2 := R1.out.cell (k := 2) rfl
  go_enter Try.func44, Try.ntmps44
  go_upto_region 1 with (fail)
  rw [HW1.out]
  go_wp2_with fail
  go_loop [7] (fun i => ∃ k : Nat, k ≤ n ∧ i = .int .i64 (k : Int) ∧ Hid (∀ j, j < k → S.us[S.sp + off + j]? = some true)) (fun i => n - (intOf i).toNat)
  case atStart => exact ⟨0, by omega, rfl, hide (fun j h => by omega)⟩
  case round =>
    obtain ⟨k, hk, rfl, hb⟩ := hrel
    by_cases hlt : k < n
    · have hlb : S.sp + off + k < S.us.length := by have := hl.out; omega
      obtain ⟨b, o, rfl, hbB, hcell⟩ := HS.out.s2 (S.sp + off + k) (.bool S.us[S.sp + off + k]) (cellsB_at (List.getElem?_eq_getElem hlb))
      obtain ⟨z, hz⟩ : ∃ z, S.us[S.sp + off + k] = z := ⟨_, rfl⟩
      rw [hz] at hcell
      have HX := hide (show S.us[S.sp + off + k]? = some z by rw [List.getElem?_eq_getElem hlb, hz])
      clear hz
      cases z with
      | true =>
        have hnext := hide (show ∀ j, j < k + 1 → S.us[S.sp + off + j]? = some true from fun j hj => by
          rcases Nat.lt_or_ge j k with h | h
          · exact hb.out j h
          · rw [show j = k by omega]; exact HX.out)
        go_wp2_with fail
        exact ⟨⟨k + 1, by omega, by go_num, hnext⟩, by simp [intOf]; omega⟩
      | false =>
        have hall : usedB S (S.sp + off) n = false := by
          cases hu : usedB S (S.sp + off) n with
          | false => rfl
          | true =>
            have := (used_iff (by have := hl.out; omega)).1 hu k hlt
            rw [HX.out] at this
            cases this
        have HA := hide hall
        clear hall
        go_wp2_with fail
        go_ret
        exact ⟨ret_bool HA.out.symm, B1.out⟩
    · obtain rfl : k = n := by omega
      have HA := hide ((used_iff (a := S.sp + off) (n := k) (by have := hl.out; omega)).2 hb.out)
      go_wp2_with fail
      go_ret
      exact ⟨ret_bool HA.out.symm, B1.out⟩
end
end Go.Proofs.Ytlkikjgapingjaa
