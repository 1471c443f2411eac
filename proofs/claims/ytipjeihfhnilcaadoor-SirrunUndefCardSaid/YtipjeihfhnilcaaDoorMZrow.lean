import Derived.Test.YtipjeihfhnilcaaDoorMZscn
import Derived.Test.YtipjeihfhnilcaaDoorMZstp
import Derived.Test.YtipjeihfhnilcaaDoorMEpw
import Derived.Test.YtipjeihfhnilcaaDoorMKit
import Derived.Laws.Tables
import Derived.Laws.Cells
import Derived.Deep.RegionHeld3
import Derived.Deep.DrawnRows
import Derived.BigQuiet
import Derived.Outline
set_option linter.unusedVariables false
set_option linter.unusedSimpArgs false
section
/-
  A struct of many cells, loaded and stored whole (chapter 8's machine). No function of the program is named here.
-/
namespace Go.Proofs.YtipjeihfhnilcaaDoor
open Go.RowKit

section
variable {w : World}
theorem agg_machine : (isAgg 69).run Tryd.prog w = .ok true w := by kernel_rfl
theorem size_machine : (sizeOf 69).run Tryd.prog w = .ok 28 w := by kernel_rfl
end
/-- The machine's cells. -/
def mcells (fu : Nat) (s : Mch) (vi vt vf vs : Value) : List Value := ccells fu s.co vi vt ++ zrest s vf vs
theorem mcells_one (fu : Nat) (s : Mch) (vi vt vf vs : Value) (h1 : vi.oneCell' = true) (h2 : vt.oneCell' = true) (h3 : vf.oneCell' = true) (h4 : vs.oneCell' = true) : ∀ v ∈ mcells fu s vi vt vf vs, v.oneCell' = true := by
  intro v hv
  unfold mcells ccells zrest at hv
  rw [List.append_assoc] at hv
  rcases List.mem_append.1 hv with hv | hv
  · simp only [List.mem_cons, List.not_mem_nil, or_false] at hv
    rcases hv with rfl | rfl | rfl | rfl | rfl | rfl | rfl | rfl <;> first | rfl | assumption
  · rw [List.append_assoc] at hv
    rcases List.mem_append.1 hv with hv | hv
    · exact vcells_oneCell _ v hv
    · simp only [List.singleton_append, List.mem_cons, List.not_mem_nil, or_false] at hv
      rcases hv with rfl | rfl | rfl | rfl <;> first | rfl | assumption
theorem mcells_len {fu : Nat} {s : Mch} {vi vt vf vs : Value} (h : s.regs.length = 8) : (mcells fu s vi vt vf vs).length = 28 := by
  unfold mcells ccells zrest
  have h2 : s.co.regs.length = 8 := h
  simp only [List.length_append, vcells_len, h2, List.length_cons, List.length_nil]
end Go.Proofs.YtipjeihfhnilcaaDoor
end

section
/-
  The contract of extent.Power. Conditions: those of the types.
-/
namespace Go.Proofs.YtipjeihfhnilcaaDoor
open Go.RowKit

theorem power_any (n : Int) (w : World) : Calls Tryd.prog 66 #[.int .i64 n] w fun e w' => e = .returned (.bool (powB n)) ∧ w = w' := by
  by_cases h0 : 1 ≤ n
  · by_cases h1 : n ≤ 16777216
    · have hb := bits_pow n h0 h1
      generalize powB n = b at hb ⊢
      go_enter Tryd.func66, Tryd.ntmps66
      go_wp2
      go_ret
      exact ⟨rfl, rfl⟩
    · have hp := hide (powB_out (n := n) (by omega))
      go_enter Tryd.func66, Tryd.ntmps66
      go_wp2
      go_ret
      exact ⟨ret_bool hp.out.symm, rfl⟩
  · have hp := hide (powB_out (n := n) (by omega))
    go_enter Tryd.func66, Tryd.ntmps66
    go_wp2
    go_ret
    exact ⟨ret_bool hp.out.symm, rfl⟩

end Go.Proofs.YtipjeihfhnilcaaDoor
end

section
/-
  The contracts of extent.wrongSlot, and of slices.IndexFunc and slices.ContainsFunc at slots with it. Conditions: those of the types.
-/
namespace Go.Proofs.YtipjeihfhnilcaaDoor
open Go.RowKit

theorem sz_pow {s : Int} : (powB s && decide (s ≤ 16)) = szB s := by
  rw [Bool.eq_iff_iff]
  simp only [Bool.and_eq_true, decide_eq_true_eq, szB]
  constructor
  · rintro ⟨h, h16⟩
    obtain ⟨k, hk, rfl⟩ := powB_iff.1 h
    rcases Nat.lt_or_ge k 5 with h5 | h5
    · rcases (show k = 0 ∨ k = 1 ∨ k = 2 ∨ k = 3 ∨ k = 4 by omega) with rfl | rfl | rfl | rfl | rfl <;> simp
    · have h2 : (2 : Nat) ^ 5 ≤ 2 ^ k := Nat.pow_le_pow_right (by omega) h5
      have e : ((2 : Int) ^ k) = ((2 ^ k : Nat) : Int) := by simp
      omega
  · rintro (rfl | rfl | rfl | rfl | rfl) <;> exact ⟨by decide, by decide⟩

set_option maxHeartbeats 400000 in
theorem wrongSlot_any (s a : Int) (w : World) : Calls Tryd.prog 59 #[pv s a] w fun e w' => e = .returned (.bool (!slotB s a)) ∧ Below w.heap.size w w' := by
  have c1 := power_any s
  have c2 := power_any a
  have hz := sz_pow (s := s)
  have hr : slotB s a = (szB s && powB a) := rfl
  rw [← hz] at hr
  have HR := hide hr
  clear hr hz
  cases h1 : powB s with
  | false =>
    rw [h1] at c1 HR
    clear h1
    go_enter Tryd.func59, Tryd.ntmps59
    go_wp2_with fail
    refine (c1 _).mono ?_
    rintro e w' ⟨rfl, rfl⟩
    go_wp2_with fail
    go_ret
    exact ⟨ret_bool (by rw [HR.out]; simp), below1 _ _⟩
  | true =>
    rw [h1] at c1 HR
    clear h1
    by_cases h16 : s ≤ 16
    · cases h2 : powB a with
      | false =>
        rw [h2] at c2 HR
        clear h2
        go_enter Tryd.func59, Tryd.ntmps59
        go_wp2_with fail
        refine (c1 _).mono ?_
        rintro e w' ⟨rfl, rfl⟩
        go_wp2_with fail
        refine (c2 _).mono ?_
        rintro e w' ⟨rfl, rfl⟩
        go_wp2_with fail
        go_ret
        exact ⟨ret_bool (by rw [HR.out]; simp), below1 _ _⟩
      | true =>
        rw [h2] at c2 HR
        clear h2
        go_enter Tryd.func59, Tryd.ntmps59
        go_wp2_with fail
        refine (c1 _).mono ?_
        rintro e w' ⟨rfl, rfl⟩
        go_wp2_with fail
        refine (c2 _).mono ?_
        rintro e w' ⟨rfl, rfl⟩
        go_wp2_with fail
        go_ret
        exact ⟨ret_bool (by rw [HR.out]; simp [h16]), below1 _ _⟩
    · have hg : 16 < s := by omega
      clear c2
      go_enter Tryd.func59, Tryd.ntmps59
      go_wp2_with fail
      refine (c1 _).mono ?_
      rintro e w' ⟨rfl, rfl⟩
      go_wp2_with fail
      go_ret
      exact ⟨ret_bool (by rw [HR.out]; simp [h16]), below1 _ _⟩

set_option maxHeartbeats 400000 in
theorem sidx_any (A : Option Addr) (n c : Nat) (l : List (Int × Int)) (w : World) (hn : Hid (l.length = n)) (hm : n ≤ 4611686018427387904) (hs : Hid (Sees w w.heap.size A (pcells l))) :
    Calls Tryd.prog 65 #[.slice A n c, .func (.func 59) #[] #[]] w fun e w' => ∃ i : Int, e = .returned (.int .i64 i) ∧ decide (0 ≤ i) = l.any (fun u => !slotB u.1 u.2) ∧ Below w.heap.size w w' := by
  go_enter Tryd.func65, Tryd.ntmps65
  go_wp2
  go_loopw [8] (fun s8 wr => ∃ k : Nat, k ≤ n ∧ s8 = .int .i64 k ∧ Hid (Below w.heap.size w wr) ∧ Hid (∀ j (hj : j < l.length), j < k → (!slotB l[j].1 l[j].2) = false)) (fun s8 _ => n - (intOf s8).toNat)
  case atStart => exact ⟨0, Nat.zero_le _, rfl, hide (Below.refl _ _), hide fun j _ hj => by omega⟩
  case round =>
    obtain ⟨k, hk, rfl, hb, hno⟩ := hrel
    by_cases hlt : k < n
    · have hltz : (k : Int) < (n : Int) := by omega
      have hkz : (0 : Int) ≤ (k : Int) := by omega
      have hkl : k < l.length := by have := hn.out; omega
      obtain ⟨b, off, rfl, hbB, c0, c1⟩ := pair_at (hs.out.below hb.out) hkl
      have cc := wrongSlot_any l[k].1 l[k].2
      have hv : ∃ v, (!slotB l[k].1 l[k].2) = v := ⟨_, rfl⟩
      obtain ⟨v, hv⟩ := hv
      rw [hv] at cc
      have HV := hide hv
      obtain ⟨x, hx⟩ : ∃ x, l[k].1 = x := ⟨_, rfl⟩
      obtain ⟨y, hy⟩ : ∃ y, l[k].2 = y := ⟨_, rfl⟩
      rw [hx] at c0 cc
      rw [hy] at c1 cc
      clear hv hx hy
      cases v with
      | true =>
        go_wp2_with fail
        refine (cc _).mono ?_
        rintro e w2 ⟨rfl, hb2⟩
        have HB := hide (below_call hb.out hb2)
        clear hb2
        go_wp2_with fail
        go_ret
        exact ⟨_, rfl, by rw [any_hit hkl HV.out]; simp, HB.out⟩
      | false =>
        go_wp2_with fail
        refine (cc _).mono ?_
        rintro e w2 ⟨rfl, hb2⟩
        have HB := hide (below_call hb.out hb2)
        clear hb2
        go_wp2_with fail
        go_roundw
        case rel =>
          refine ⟨k + 1, by omega, by go_num, HB, hide fun j hj hjk => ?_⟩
          by_cases e : j = k
          · subst e; exact HV.out
          · exact hno.out j hj (by omega)
        case measure => simp [intOf]; omega
    · obtain rfl : k = n := by omega
      go_wp2_with fail
      go_ret
      exact ⟨_, rfl, by rw [any_miss fun j hj => hno.out j hj (by have := hn.out; omega)]; simp, hb.out⟩

theorem scont_any (A : Option Addr) (n c : Nat) (l : List (Int × Int)) (w : World) (hn : Hid (l.length = n)) (hm : n ≤ 4611686018427387904) (hs : Hid (Sees w w.heap.size A (pcells l))) :
    Calls Tryd.prog 58 #[.slice A n c, .func (.func 59) #[] #[]] w fun e w' => e = .returned (.bool (l.any (fun u => !slotB u.1 u.2))) ∧ Below w.heap.size w w' := by
  go_enter Tryd.func58, Tryd.ntmps58
  go_wp2_with fail
  refine (sidx_any A n c l w hn hm hs).mono ?_
  rintro e w1 ⟨i, rfl, hi, hb1⟩
  have HI := hide hi
  clear hi
  go_wp2_with fail
  go_ret
  exact ⟨ret_bool HI.out, hb1⟩

end Go.Proofs.YtipjeihfhnilcaaDoor
end
