import Derived.Test.YtafegghdhdgioabMNgo
set_option linter.unusedVariables false
set_option linter.unusedSimpArgs false
section
/-
  The mathematics of MachrunOverflowsAtEntry: two frames, the first calls the second.
-/
namespace Go.Proofs.Ytafegghdhdgioab
open Go.RowKit

def Fo (x y : Nat) : Tg := [⟨0, (x : Int), [⟨22, 1, 0, 0, 0⟩, ⟨23, 0, 0, 0, 0⟩]⟩, ⟨0, (y : Int), [⟨23, 0, 0, 0, 0⟩]⟩]
theorem fo_imm (x y : Nat) : ImmT (Fo x y) := by
  intro f hf i hi
  simp [Fo] at hf
  rcases hf with rfl | rfl
  · simp at hi
    rcases hi with rfl | rfl <;> exact ⟨Int.le_refl _, show (0 : Int) ≤ 18446744073709551615 by decide⟩
  · simp at hi
    subst hi
    exact ⟨Int.le_refl _, show (0 : Int) ≤ 18446744073709551615 by decide⟩
def foAll : Bool := (List.range 20).all fun a => (List.range 20).all fun b => decide (tgE 16 (Fo (16 * a) (16 * b)) = 0)
theorem foAll_t : foAll = true := by kernel_rfl
theorem fo_right {a b : Nat} (ha : a < 20) (hb : b < 20) : tgE 16 (Fo (16 * a) (16 * b)) = 0 := by
  have h := foAll_t
  unfold foAll at h
  rw [List.all_eq_true] at h
  have h1 := h a (List.mem_range.2 ha)
  rw [List.all_eq_true] at h1
  exact of_decide_eq_true (h1 b (List.mem_range.2 hb))
theorem iterT_on {F : Tg} {T0 : Nat} (k : Nat) (s : Tm) (h : s.c.ended = false) : iterT F T0 (k + 1) s = iterT F T0 k (s.step F T0) := by rw [iterT, if_neg (by rw [h]; exact Bool.false_ne_true)]
theorem ov1 (x y T0 d : Nat) (m : Sk) : (⟨coreZ [], [(0, 0)], m, d⟩ : Tm).step (Fo x y) T0 = (⟨{ coreZ [] with steps := 1 }, [(0, 1)], m, d⟩ : Tm).enter (Fo x y) T0 1 := rfl
theorem ov2 (x y T0 d : Nat) (m : Sk) : (⟨{ coreZ [] with steps := 1 }, [(0, 1), (1, 0)], m, d⟩ : Tm).step (Fo x y) T0 = ⟨{ coreZ [] with steps := 2 }, [(0, 1)], popS m y, d⟩ := rfl
theorem ov3 (x y T0 d : Nat) (m : Sk) : (⟨{ coreZ [] with steps := 2 }, [(0, 1)], m, d⟩ : Tm).step (Fo x y) T0 = ⟨({ coreZ [] with steps := 3 } : Co).ret, [], popS m x, d⟩ := rfl
/-- The three ways. -/
theorem ov_run (x y n : Nat) : (n - n % 16 < x → (runT 16 (Fo x y) [] 10 n).c.kind = 5 ∧ (runT 16 (Fo x y) [] 10 n).c.steps = 0) ∧
    (¬ n - n % 16 < x → n - n % 16 < x + y → (runT 16 (Fo x y) [] 10 n).c.kind = 5 ∧ (runT 16 (Fo x y) [] 10 n).c.steps = 1) ∧
    (¬ n - n % 16 < x → ¬ n - n % 16 < x + y → (runT 16 (Fo x y) [] 10 n).c.kind = 0 ∧ (runT 16 (Fo x y) [] 10 n).c.steps = 3) := by
  have e1 : fsz (Fo x y) 0 = x := rfl
  have e2 : fsz (Fo x y) 1 = y := rfl
  have hr : roomT 16 n = n - n % 16 := rfl
  obtain ⟨T, hT⟩ : ∃ T, n - n % 16 = T := ⟨_, rfl⟩
  rw [hT] at hr ⊢
  rw [runT_pos (show (10 : Nat) ≠ 0 by omega), hr, show (10 : Nat) = 7 + 1 + 1 + 1 from rfl]
  unfold startT
  rw [hr]
  refine ⟨fun h => ?_, fun h1 h2 => ?_, fun h1 h2 => ?_⟩
  · have : (preT 16 [] n).enter (Fo x y) T 0 = (preT 16 [] n).stop 5 := by
      unfold Tm.enter
      rw [if_pos (by rw [e1]; show roomT 16 n < x; rw [hr]; exact h)]
    rw [this, iterT_ended rfl]
    exact ⟨rfl, rfl⟩
  · have : (preT 16 [] n).enter (Fo x y) T 0 = ⟨coreZ [], [(0, 0)], pushS (newS n T) x, max 0 (T - (T - x))⟩ := by
      unfold Tm.enter
      rw [if_neg (by rw [e1]; show ¬ roomT 16 n < x; rw [hr]; exact h1)]
      unfold preT
      rw [hr]
      rfl
    rw [this, iterT_on _ _ rfl, ov1]
    have h3 : (pushS (newS n T) x).sp = T - x := rfl
    have : (⟨{ coreZ [] with steps := 1 }, [(0, 1)], pushS (newS n T) x, max 0 (T - (T - x))⟩ : Tm).enter (Fo x y) T 1 = (⟨{ coreZ [] with steps := 1 }, [(0, 1)], pushS (newS n T) x, max 0 (T - (T - x))⟩ : Tm).stop 5 := by
      unfold Tm.enter
      rw [if_pos (by rw [e2, h3]; omega)]
    rw [this, iterT_ended rfl]
    exact ⟨rfl, rfl⟩
  · have : (preT 16 [] n).enter (Fo x y) T 0 = ⟨coreZ [], [(0, 0)], pushS (newS n T) x, max 0 (T - (T - x))⟩ := by
      unfold Tm.enter
      rw [if_neg (by rw [e1]; show ¬ roomT 16 n < x; rw [hr]; exact h1)]
      unfold preT
      rw [hr]
      rfl
    rw [this, iterT_on _ _ rfl, ov1]
    have h3 : (pushS (newS n T) x).sp = T - x := rfl
    have : ∃ m d, (⟨{ coreZ [] with steps := 1 }, [(0, 1)], pushS (newS n T) x, max 0 (T - (T - x))⟩ : Tm).enter (Fo x y) T 1 = ⟨{ coreZ [] with steps := 1 }, [(0, 1), (1, 0)], m, d⟩ := by
      unfold Tm.enter
      rw [if_neg (by rw [e2, h3]; omega)]
      exact ⟨_, _, rfl⟩
    obtain ⟨m, d, e⟩ := this
    rw [e, iterT_on _ _ rfl, ov2, iterT_on _ _ rfl, ov3, iterT_ended rfl]
    exact ⟨rfl, rfl⟩
end Go.Proofs.Ytafegghdhdgioab
end
