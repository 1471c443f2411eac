import Derived.Test.YtipjeihfhnilcaaDoorMNco
import Derived.Test.YtipjeihfhnilcaaDoorMKit
import Derived.RegionTactic
import Derived.BigRegion
import Derived.BigQuiet
import Derived.Deep.DeepCutAuto
set_option linter.unusedVariables false
set_option linter.unusedSimpArgs false
section
/-
  The contracts of the core's small methods: End, Goes, Return, Register, Set, Next. Conditions: those of the types.
-/
namespace Go.Proofs.YtipjeihfhnilcaaDoor
open Go.RowKit

/-- A number of two words. -/
def lo2 (V u : Nat) : Nat := V % 18446744073709551616 + 18446744073709551616 * u
theorem lo2_lo (V u : Nat) : lo (lo2 V u) = lo V := by unfold lo lo2; omega
theorem hi_lt (V : Nat) : (hi V).toNat < 18446744073709551616 := by unfold hi; omega
theorem lo2_hi (V W : Nat) (h : (hi W).toNat < 18446744073709551616) : hi (lo2 V (hi W).toNat) = hi W := by unfold hi lo2 at *; omega
section
variable {w0 : World} {g base fu : Nat} {T : TypeId} {vi vt : Value} {rest : List Value} {c : Co}
set_option maxHeartbeats 1000000 in
theorem coEnd_any (k : Int) (w : World) (h : Hid (CoAt w g base T fu vi vt rest c)) :
    Calls Tryd.prog 37 #[.pointer (some ⟨g, 0, none⟩), .int .i64 k] w fun e w' => e = .returned (.tuple #[]) ∧ CoAt w' g base T fu vi vt rest (c.stop k) ∧ JKp w w' g vt vt := by
  have c0 := h.out.far 2 rfl
  have c1 := h.out.ended
  have z0 := h.out.row.free 2
  have z1 := h.out.row.free 24
  go_enter Tryd.func37, Tryd.ntmps37
  go_wp2_with fail
  go_end0
  exact ⟨rfl, h.out.stopped k, JKp.set2 w g 2 24 vt _ _⟩
set_option maxHeartbeats 2000000 in
theorem coGoes_any (w : World) (h : Hid (CoAt w g base T fu vi vt rest c)) (hf : fu ≤ 1000000) (hs : c.steps ≤ 1000000) :
    Calls Tryd.prog 31 #[.pointer (some ⟨g, 0, none⟩)] w fun e w' => e = .returned (.bool (!(c.asked fu).ended)) ∧ CoAt w' g base T fu vi vt rest (c.asked fu) ∧ JKp w w' g vt vt := by
  have c1 := h.out.far 1 rfl
  have c7 := h.out.far 7 rfl
  have ce := h.out.ended
  cases he : c.ended with
  | true =>
    have ha : c.asked fu = c := by unfold Co.asked; rw [if_neg (by rw [he]; simp)]
    rw [ha, he]
    rw [he] at ce
    clear he ha
    go_enter Tryd.func31, Tryd.ntmps31
    go_wp2_with fail
    go_quiet (fail)
    go_wp2_with fail
    go_ret
    exact ⟨rfl, h.out.drewN _, JKp.of_below (below_draws (Below.refl _ _) _) g vt⟩
  | false =>
    rw [he] at ce
    by_cases hlt : fu ≤ c.steps
    · have ha : c.asked fu = c.stop 4 := by unfold Co.asked; rw [if_pos ⟨he, hlt⟩]
      rw [ha]
      have hd : decide ((fu : Int) ≤ (c.steps : Int)) = true := decide_eq_true (by omega)
      have cn := fun W hW => coEnd_any (g := g) (base := base) (T := T) (fu := fu) (vi := vi) (vt := vt) (rest := rest) (c := c) 4 W hW
      clear he ha
      go_enter Tryd.func31, Tryd.ntmps31
      go_wp2_with fail
      go_quiet (fail)
      go_wp2_with fail
      refine (cn _ (hide (h.out.drewN _))).mono ?_
      rintro e w1 ⟨rfl, h1, k1⟩
      have ce1 := h1.ended
      have H1 := hide h1
      have K1 := hide k1
      clear h1 k1 cn c1 c7 ce
      go_wp2_with fail
      go_ret
      exact ⟨rfl, H1.out, (JKp.of_below (below_draws (Below.refl _ _) _) g vt).trans K1.out⟩
    · have ha : c.asked fu = c := by unfold Co.asked; rw [if_neg (fun h => hlt h.2)]
      rw [ha, he]
      have hd : decide ((fu : Int) ≤ (c.steps : Int)) = false := decide_eq_false (by omega)
      clear he ha
      go_enter Tryd.func31, Tryd.ntmps31
      go_wp2_with fail
      go_quiet (fail)
      go_wp2_with fail
      go_ret
      exact ⟨rfl, h.out.drewN _, JKp.of_below (below_draws (Below.refl _ _) _) g vt⟩
/-- A store of a whole value into two cells that lie side by side. -/
theorem CoAt.setRes (h : CoAt w0 g base T fu vi vt rest c) (V : Nat) : CoAt ((w0.setCell ⟨g, 4, none⟩ (.int .u64 (lo V))).setCell ⟨g, 5, none⟩ (.int .u64 (hi V))) g base T fu vi vt rest { c with res := V } := by
  have h1 := h.store 4 (.int .u64 (lo V)) (c' := { c with res := lo2 V (hi c.res).toNat }) (fu' := fu) (vi' := vi) (rest' := rest) (by
    unfold ccells
    rw [show hi (lo2 V (hi c.res).toNat) = hi c.res from lo2_hi _ _ (hi_lt _), show lo (lo2 V (hi c.res).toNat) = lo V from lo2_lo _ _]
    rfl) h.inp rfl h.r8
  exact h1.store 5 (.int .u64 (hi V)) (c' := { c with res := V }) (fu' := fu) (vi' := vi) (rest' := rest) (by
    unfold ccells
    rw [show lo (lo2 V (hi c.res).toNat) = lo V from lo2_lo _ _]
    rfl) h1.inp rfl h1.r8
set_option maxHeartbeats 2000000 in
theorem coReturn_any (w : World) (h : Hid (CoAt w g base T fu vi vt rest c)) :
    Calls Tryd.prog 53 #[.pointer (some ⟨g, 0, none⟩)] w fun e w' => e = .returned (.tuple #[]) ∧ CoAt w' g base T fu vi vt rest c.ret ∧ JKp w w' g vt vt := by
  obtain ⟨r0, r1⟩ := h.out.reg (i := 0) (by decide)
  have z0 := h.out.row.free 4
  have z1 := h.out.row.free 5
  have c4 := h.out.far 4 rfl
  have c5 := h.out.far 5 rfl
  obtain ⟨V, hV⟩ : ∃ V, c.regs.getD 0 0 = V := ⟨_, rfl⟩
  have hc : c.ret = ({ c with res := V } : Co).stop 0 := by unfold Co.ret; rw [show c.reg 0 = V by rw [← hV]; exact c.reg_in (i := 0) (by decide)]
  rw [hV] at r0 r1
  rw [hc]
  obtain ⟨W1, hW1⟩ : ∃ W, (w.setCell ⟨g, 4, none⟩ (.int .u64 (lo V))).setCell ⟨g, 5, none⟩ (.int .u64 (hi V)) = W := ⟨_, rfl⟩
  have H1 := hide (show CoAt W1 g base T fu vi vt rest { c with res := V } by rw [← hW1]; exact h.out.setRes V)
  have K1 := hide (show JKp w W1 g vt vt by rw [← hW1]; exact JKp.set2 w g 4 5 vt _ _)
  have cn := coEnd_any 0 W1 H1
  have HW1 := hide hW1
  clear hW1 hV hc
  go_enter Tryd.func53, Tryd.ntmps53
  go_upto_region 1 with (first | go_region)
  rw [HW1.out]
  go_wp2_with fail
  refine cn.mono ?_
  rintro e w2 ⟨rfl, h2, k2⟩
  have H2 := hide h2
  have K2 := hide k2
  clear h2 k2 cn
  go_wp2_with fail
  go_end0
  exact ⟨rfl, H2.out, K1.out.trans K2.out⟩
set_option maxHeartbeats 2000000 in
theorem coReg_any (n : Int) (w : World) (h : Hid (CoAt w g base T fu vi vt rest c)) :
    Calls Tryd.prog 49 #[.pointer (some ⟨g, 0, none⟩), .int .i64 n] w fun e w' => e = .returned (vv (c.reg n)) ∧ Below w.heap.size w w' := by
  have hb := hide (below1 w (.cells #[.int .u64 0, .int .u64 0] 33))
  obtain ⟨W1, hW1⟩ : ∃ W, w.alloc (.cells #[.int .u64 0, .int .u64 0] 33) = W := ⟨_, rfl⟩
  have HW1 := hide hW1
  have R1 := hide (show Row W1 w.heap.size 33 [.int .u64 0, .int .u64 0] by rw [← hW1]; exact Row.new w _ _)
  have H1 := hide (show CoAt W1 g base T fu vi vt rest c by rw [← hW1]; exact h.out.alloc _)
  rw [hW1] at hb
  have hgl := h.out.gl
  have x0 := R1.out.cell (k := 0) rfl
  have x1 := R1.out.cell (k := 1) rfl
  have f0 := R1.out.free 0
  have f1 := R1.out.free 1
  have B1 : Hid (Below w.heap.size w W1) := hb
  have key : ∀ a b, Below w.heap.size w ((W1.setCell ⟨w.heap.size, 0, none⟩ a).setCell ⟨w.heap.size, 1, none⟩ b) := fun a b => (B1.out.setCell (p := ⟨w.heap.size, 0, none⟩) (Nat.le_refl _) a).setCell (p := ⟨w.heap.size, 1, none⟩) (Nat.le_refl _) b
  have KEY := hide key
  clear hW1 key hb
  by_cases hn : 0 ≤ n ∧ n < 8
  · obtain ⟨i, rfl⟩ : ∃ i : Nat, n = (i : Int) := ⟨n.toNat, by omega⟩
    have hi : i < 8 := by omega
    rw [c.reg_in hi]
    obtain ⟨r0, r1⟩ := H1.out.reg hi
    obtain ⟨V, hV⟩ : ∃ V, c.regs.getD i 0 = V := ⟨_, rfl⟩
    rw [hV] at r0 r1 ⊢
    have d0 : decide ((i : Int) < 0) = false := decide_eq_false (by omega)
    have d1 : decide ((8 : Int) ≤ (i : Int)) = false := decide_eq_false (by omega)
    clear hV hn
    go_enter Tryd.func49, Tryd.ntmps49
    go_upto_region 1 with (fail)
    rw [HW1.out]
    go_wp2_with (first | go_region)
    exact bodyPost_ret (v := vv V) (by simp [results, Tryd.results49, go_sem, f0, f1, x0, x1]) rfl ⟨rfl, KEY.out _ _⟩
  · rw [c.reg_out hn]
    have h0 : lo 0 = 0 := rfl
    have h1 : hi 0 = 0 := rfl
    rcases (show n < 0 ∨ (¬ n < 0 ∧ 8 ≤ n) by omega) with d0 | ⟨d0, d1⟩
    all_goals
      clear hn
      go_enter Tryd.func49, Tryd.ntmps49
      go_upto_region 1 with (fail)
      rw [HW1.out]
      go_wp2_with (first | go_region)
      exact bodyPost_ret (v := vv 0) (by simp [results, Tryd.results49, go_sem, f0, f1, x0, x1]; exact ⟨rfl, rfl⟩) rfl ⟨rfl, KEY.out _ _⟩
set_option maxHeartbeats 2000000 in
theorem coSet_any (n : Int) (V : Nat) (w : World) (h : Hid (CoAt w g base T fu vi vt rest c)) :
    Calls Tryd.prog 50 #[.pointer (some ⟨g, 0, none⟩), .int .i64 n, vv V] w fun e w' => e = .returned (.tuple #[]) ∧ CoAt w' g base T fu vi vt rest (c.setR n V) ∧ JKp w w' g vt vt := by
  obtain ⟨W1, hW1⟩ : ∃ W, w.alloc (.cells #[.int .u64 (lo V), .int .u64 (hi V)] 33) = W := ⟨_, rfl⟩
  have HW1 := hide hW1
  have R1 := hide (show Row W1 w.heap.size 33 [.int .u64 (lo V), .int .u64 (hi V)] by rw [← hW1]; exact Row.new w _ _)
  have H1 := hide (show CoAt W1 g base T fu vi vt rest c by rw [← hW1]; exact h.out.alloc _)
  have K1 := hide (show JKp w W1 g vt vt by rw [← hW1]; exact JKp.of_below (below1 w _) g vt)
  have x0 := R1.out.cell (k := 0) rfl
  have x1 := R1.out.cell (k := 1) rfl
  clear hW1
  by_cases hn : 0 ≤ n ∧ n < 8
  · obtain ⟨i, rfl⟩ : ∃ i : Nat, n = (i : Int) := ⟨n.toNat, by omega⟩
    have hi : i < 8 := by omega
    obtain ⟨r0, r1⟩ := H1.out.reg hi
    have z0 := H1.out.row.free (8 + i * 2)
    have z1 := H1.out.row.free (8 + i * 2 + 1)
    have d0 : decide ((0 : Int) ≤ (i : Int)) = true := decide_eq_true (by omega)
    have d1 : decide ((i : Int) < 8) = true := decide_eq_true (by omega)
    clear hn
    go_enter Tryd.func50, Tryd.ntmps50
    go_upto_region 1 with (fail)
    rw [HW1.out]
    go_wp2_with (first | go_region)
    go_end0
    exact ⟨rfl, (H1.out.setReg hi V).drewN _, (K1.out.trans (JKp.set2 _ g _ _ vt _ _)).drew _⟩
  · rw [c.setR_out hn]
    rcases (show (0 ≤ n ∧ 8 ≤ n) ∨ n < 0 by omega) with ⟨d0, d1⟩ | d0
    all_goals
      clear hn
      go_enter Tryd.func50, Tryd.ntmps50
      go_upto_region 1 with (fail)
      rw [HW1.out]
      go_wp2_with (first | go_region)
      go_end0
      exact ⟨rfl, H1.out, K1.out⟩
end
end Go.Proofs.YtipjeihfhnilcaaDoor
end
