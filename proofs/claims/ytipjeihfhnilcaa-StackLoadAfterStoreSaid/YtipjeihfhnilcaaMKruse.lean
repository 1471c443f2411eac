import Derived.Test.YtipjeihfhnilcaaMKuse
set_option linter.unusedVariables false
set_option linter.unusedSimpArgs false
section
/-
  The contracts of the reference's right and used (chapter 9). Conditions: those of the types.
-/
namespace Go.Proofs.Ytipjeihfhnilcaa
open Go.RowKit
attribute [local go_sem ↓] Go.wp_at_zero Go.wp_at_succ

section
variable {A1 A2 : Option Addr} {c1 c2 : Nat} {S : Sk}
set_option maxHeartbeats 1000000 in
theorem rright_stk (off n : Int) (w : World) (hS : Hid S.Ok) (ho : isI off) :
    Calls Try.prog 57 #[sv A1 c1 A2 c2 S, .int .i64 off, .int .i64 n] w fun e w' => e = .returned (.bool (fitB S off n)) ∧ Below w.heap.size w w' := by
  have hmost := hS.out.most
  have hsp := hS.out.sp
  have f0 := (Row.new w 29 [.slice A1 S.bs.length c1, .slice A2 S.bs.length c2, .int .i64 (S.sp : Int)]).cell (k := 0) rfl
  have f2 := (Row.new w 29 [.slice A1 S.bs.length c1, .slice A2 S.bs.length c2, .int .i64 (S.sp : Int)]).cell (k := 2) rfl
  have cz := rsz_any n
  cases hz : szB n with
  | false =>
    have hr := hide (show fitB S off n = false by simp [fitB, hz])
    rw [hz] at cz
    clear hz
    go_enter Try.func57, Try.ntmps57
    go_wp2_with fail
    refine (cz _).mono ?_
    rintro e w3 ⟨rfl, rfl⟩
    go_wp2_with fail
    go_ret
    exact ⟨ret_bool hr.out.symm, below1 _ _⟩
  | true =>
    have hn := of_decide_eq_true (show decide (n = 1 ∨ n = 2 ∨ n = 4 ∨ n = 8 ∨ n = 16) = true from hz)
    have hn0 : 1 ≤ n ∧ n ≤ 16 := by omega
    have hr := hide (show fitB S off n = decide (0 ≤ off ∧ off ≤ (S.bs.length : Int) - S.sp - n) by
      rw [Bool.eq_iff_iff, fitB_iff, decide_eq_true_eq]
      constructor
      · rintro ⟨_, h1, h4⟩; omega
      · rintro ⟨h1, h4⟩; exact ⟨hz, h1, by omega⟩)
    rw [hz] at cz
    clear hz hn
    by_cases h0 : 0 ≤ off
    · go_enter Try.func57, Try.ntmps57
      go_wp2_with fail
      refine (cz _).mono ?_
      rintro e w3 ⟨rfl, rfl⟩
      go_wp2_with fail
      go_ret
      exact ⟨ret_bool (by rw [hr.out]; simp [h0]), below1 _ _⟩
    · go_enter Try.func57, Try.ntmps57
      go_wp2_with fail
      refine (cz _).mono ?_
      rintro e w3 ⟨rfl, rfl⟩
      go_wp2_with fail
      go_ret
      exact ⟨ret_bool (by rw [hr.out]; symm; rw [decide_eq_false_iff_not]; omega), below1 _ _⟩
set_option maxHeartbeats 1000000 in
theorem rused_any (off n : Nat) (w : World) (hS : Hid (StkAt w w.heap.size A1 c1 A2 c2 S)) (ha : S.sp + off + n ≤ S.bs.length) :
    Calls Try.prog 58 #[sv A1 c1 A2 c2 S, .int .i64 (off : Int), .int .i64 (n : Int)] w fun e w' => e = .returned (.bool (usedB S (S.sp + off) n)) ∧ Below w.heap.size w w' := by
  have hmost := hS.out.ok.most
  have hsp := hS.out.ok.sp
  have hl := hide hS.out.ok.len
  have hm2 := hS.out.m2
  obtain ⟨W1, hW1⟩ : ∃ W1, w.alloc (.cells #[.slice A1 S.bs.length c1, .slice A2 S.bs.length c2, .int .i64 (S.sp : Int)] 29) = W1 := ⟨_, rfl⟩
  have HW1 := hide hW1
  have R1 := hide (show Row W1 w.heap.size 29 [.slice A1 S.bs.length c1, .slice A2 S.bs.length c2, .int .i64 (S.sp : Int)] by rw [← hW1]; exact Row.new w _ _)
  have B1 := hide (show Below w.heap.size w W1 by rw [← hW1]; exact below1 w _)
  have HS := hide (hS.out.below B1.out)
  clear hW1
  have f1 := R1.out.cell (k := 1) rfl
  have f2 := R1.out.cell (k := 2) rfl
  go_enter Try.func58, Try.ntmps58
  go_upto_region 1 with (fail)
  rw [HW1.out]
  go_wp2_with fail
  go_loop [7] (fun i => ∃ k : Nat, k ≤ n ∧ i = .int .i64 (k : Int) ∧ Hid (∀ j, j < k → S.us[S.sp + off + j]? = some true)) (fun i => n - (intOf i).toNat)
  case atStart => exact ⟨0, by omega, rfl, hide (fun j h => by omega)⟩
  case round =>
    obtain ⟨k, hk, rfl, hb⟩ := hrel
    by_cases hlt : k < n
    · have hlb : S.sp + off + k < S.us.length := by have := hl.out; omega
      obtain ⟨b, o, rfl, hbB, hcell⟩ := HS.out.s2 (S.sp + off + k) (.bool S.us[S.sp + off + k]) (cellsB_at (List.getElem?_eq_getElem hlb))
      obtain ⟨z, hz⟩ : ∃ z, S.us[S.sp + off + k] = z := ⟨_, rfl⟩
      rw [hz] at hcell
      have HX := hide (show S.us[S.sp + off + k]? = some z by rw [List.getElem?_eq_getElem hlb, hz])
      clear hz
      cases z with
      | true =>
        have hnext := hide (show ∀ j, j < k + 1 → S.us[S.sp + off + j]? = some true from fun j hj => by
          rcases Nat.lt_or_ge j k with h | h
          · exact hb.out j h
          · rw [show j = k by omega]; exact HX.out)
        go_wp2_with fail
        exact ⟨⟨k + 1, by omega, by go_num, hnext⟩, by simp [intOf]; omega⟩
      | false =>
        have hall : usedB S (S.sp + off) n = false := by
          cases hu : usedB S (S.sp + off) n with
          | false => rfl
          | true =>
            have := (used_iff (by have := hl.out; omega)).1 hu k hlt
            rw [HX.out] at this
            cases this
        have HA := hide hall
        clear hall
        go_wp2_with fail
        go_ret
        exact ⟨ret_bool HA.out.symm, B1.out⟩
    · obtain rfl : k = n := by omega
      have HA := hide ((used_iff (a := S.sp + off) (n := k) (by have := hl.out; omega)).2 hb.out)
      go_wp2_with fail
      go_ret
      exact ⟨ret_bool HA.out.symm, B1.out⟩
end
end Go.Proofs.Ytipjeihfhnilcaa
end
