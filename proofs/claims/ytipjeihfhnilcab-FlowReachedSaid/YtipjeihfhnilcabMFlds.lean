import Derived.Test.YtipjeihfhnilcabMFld
import Derived.Test.YtipjeihfhnilcabMApn
import Derived.Deep.DeepCutAuto
set_option linter.unusedVariables false
set_option linter.unusedSimpArgs false
section
/-
  The contract of flow.Leaders: the leaders, ascending, a row of the call's own. Conditions: those of the types.
-/
namespace Go.Proofs.Ytipjeihfhnilcab
open Go.RowKit

theorem fbt_ne : 4 ≠ 3 := by decide
theorem leadsL_len (L : Nat → Bool) (m : Nat) : (leadsL L m).length ≤ m := by unfold leadsL; exact Nat.le_trans (List.length_filter_le _ _) (by simp)
/-- A row of another type, over an append. -/
theorem Row.append {wr w2 : World} {base G t n : Nat} {v : Value} {xs cs : List Value} {o : Obj} (h : Row wr G t cs) (ho : wr.ownsRow base 3 1 v n xs) (ht : t ≠ 3) (hg : (wr.alloc o).grownBy w2 v.ownBlock) : Row w2 G t cs :=
  (h.alloc o).grown hg fun e => by
    rcases fown_apart ho h ht with h1 | h1
    · rw [h1] at e; cases e
    · exact h1 e.symm
set_option maxRecDepth 100000 in
set_option maxHeartbeats 2000000 in
theorem leaders_any {P : Int} {A1 : Option Addr} {n1 c1 : Nat} {A2 : Option Addr} {n2 c2 : Nat} {l : List Ins} (w : World) (hC : Hid (CdAt w A2 n2 l)) :
    Calls Try.prog 13 #[fv P A1 n1 c1 A2 n2 c2] w (OutPost (toI (leadsL (ldr l) n2)) w) := by
  obtain ⟨i0, hi, hz0, hz1, hz2⟩ := info_parts infoI
  have hlen := hC.out.len
  have hn2 := hC.out.few
  obtain ⟨W1, hW1⟩ : ∃ W, w.alloc (.cells #[.int .i64 P, .slice A1 n1 c1, .slice A2 n2 c2] 27) = W := ⟨_, rfl⟩
  have R1 := hide (show Row W1 w.heap.size 27 [.int .i64 P, .slice A1 n1 c1, .slice A2 n2 c2] by rw [← hW1]; exact Row.new w _ _)
  have B1 := hide (show Below w.heap.size w W1 by rw [← hW1]; exact below1 w _)
  have HW1 := hide hW1
  have cl := leading_any (P := P) (A1 := A1) (n1 := n1) (c1 := c1) (c2 := c2) W1 (hide (hC.out.below B1.out))
  have HL := hide hlen
  clear hW1 hlen
  go_enter Try.func13, Try.ntmps13
  go_upto_region 1 with (fail)
  rw [HW1.out]
  have q0 := R1.out.cell (k := 0) rfl
  have q1 := R1.out.cell (k := 1) rfl
  have q2 := R1.out.cell (k := 2) rfl
  go_wp2_with fail
  refine cl.mono ?_
  rintro e w2 ⟨G, rfl, hG, hGs, hb2⟩
  rw [ldrL_len, HL.out]
  have I2 := hide (IntRel.start w w2 (below_call B1.out hb2))
  have HG := hide hG
  clear hG hGs hb2 cl q0 q1 q2 HW1 R1 B1
  go_wp2_with fail
  go_loopw [3, 9] (fun s3 s9 wr => ∃ m : Nat, m ≤ n2 ∧ s9 = .int .i64 m ∧ Hid (IntRel w (toI (leadsL (ldr l) m)) s3 wr) ∧ Hid (Row wr G 4 (bcells (ldrL l l.length)))) (fun _ s9 _ => n2 - (intOf s9).toNat)
  case atStart => exact ⟨0, by omega, rfl, I2, HG⟩
  case round =>
    obtain ⟨m, hm, rfl, hR, hB⟩ := hrel
    clear I2 HG
    by_cases hlt : m < n2
    · have hml : m < l.length := by have := HL.out; omega
      have z0 := hB.out.cell (bcells_at (ldrL_end hml))
      have hm0 : (0 : Int) ≤ (m : Int) := by omega
      have hmn : (m : Int) < (n2 : Int) := by omega
      have HSU := hide (leadsL_succ (ldr l) m)
      have HLE := hide (leadsL_len (ldr l) m)
      obtain ⟨r, hr⟩ : ∃ r, leadsL (ldr l) m = r := ⟨_, rfl⟩
      rw [hr] at hR HSU HLE
      cases hL : ldr l m with
      | false =>
        rw [hL] at z0 HSU
        clear hL hr
        go_wp2_with fail
        go_roundw
        case rel => exact ⟨m + 1, by omega, by go_num, hide (by rw [HSU.out]; simpa using hR.out), hB⟩
        case measure => simp [intOf]; omega
      | true =>
        rw [hL] at z0 HSU
        have HSU := hide (show leadsL (ldr l) (m + 1) = r ++ [m] by rw [HSU.out]; simp)
        have HSZ := hide hR.out.2.size
        clear hL hr
        go_upto_region 7 with (at_builtin; refine wpList_append_own _ rfl (.tmp 15) (.tmp 17) 38 rfl w.heap.size 3 i0 (.int .i64 0) 1 8 Try.underlying38 hi hz0 hz1 hz2 rfl (by decide) _ (toI r).length (cellsI (toI r)) rfl (hR.out.1.alloc _) ⟨wr.heap.size, 0, none⟩ 1 1 [.int .i64 (m : Int)] rfl rfl (one_new _ _ _) (one_cell _) (by have := HLE.out; rw [toI_len]; unfold maxLen; omega) (by have := HLE.out; rw [toI_len]; omega) (Nat.le_trans HSZ.out (by simp)) ?_)
        intro v4 w4 ho4 hg4 _
        have I4 := hide (show IntRel w (toI (leadsL (ldr l) (m + 1))) v4 w4 by rw [HSU.out, toI_append]; exact IntRel.step hR ho4 hg4)
        have B4 := hide (hB.out.append hR.out.1 fbt_ne hg4)
        clear ho4 hg4 z0
        go_wp2_with fail
        go_roundw
        case rel => exact ⟨m + 1, by omega, by go_num, I4, B4⟩
        case measure => simp [intOf]; omega
    · obtain rfl : m = n2 := by omega
      go_wp2_with fail
      go_ret
      exact hR.out.done
end Go.Proofs.Ytipjeihfhnilcab
end
