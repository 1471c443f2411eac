/-
  A target's error in the order in which it is looked for. No function of the program is named here.
-/
import Derived.Test.YtjgoldlebmfiiaaMmath
namespace Go.Proofs.Ytjgoldlebmfiiaa
open Go.RowKit

theorem tgE_many {Al : Int} {F : Tg} (h : 80 < F.length) : tgE Al F = 3 := by unfold tgE; rw [if_pos h]
theorem tgE_align {Al : Int} {F : Tg} {f : Fm} (h : F.length ≤ 80) (hf : F[0]? = some f) (ha : powB Al = false ∨ Al < 16) : tgE Al F = 5 := by
  unfold tgE
  rw [if_neg (by omega)]
  cases F with
  | nil => simp at hf
  | cons g r => simp only; rw [if_pos ha]
theorem tgE_entry {Al : Int} {F : Tg} {f : Fm} (h : F.length ≤ 80) (hf : F[0]? = some f) (ha : powB Al = true ∧ 16 ≤ Al) (hp : f.params ≠ 0) : tgE Al F = 7 := by
  unfold tgE
  rw [if_neg (by omega)]
  cases F with
  | nil => simp at hf
  | cons g r =>
    simp at hf; subst hf
    simp only
    rw [if_neg (by rintro (h | h); exact absurd ha.1 (by simp [h]); omega), if_pos hp]
theorem tgE_rest {Al : Int} {F : Tg} {f : Fm} (h : F.length ≤ 80) (hf : F[0]? = some f) (ha : powB Al = true ∧ 16 ≤ Al) (hp : f.params = 0) : tgE Al F = if firstE (F.map (fmE Al F.length)) ≠ 0 then firstE (F.map (fmE Al F.length)) else if F.all (roomB F) then 0 else 7 := by
  unfold tgE
  rw [if_neg (by omega)]
  cases F with
  | nil => simp at hf
  | cons g r =>
    simp at hf; subst hf
    simp only
    rw [if_neg (by rintro (h | h); exact absurd ha.1 (by simp [h]); omega), if_neg (by simpa using hp)]
/-- What a frame without an error is. -/
theorem fmE_zero {Al : Int} {N : Nat} {f : Fm} (h : fmE Al N f = 0) : shB Al f = true ∧ f.code.length ≤ 1024 ∧ (∀ x ∈ f.code, minsE N f x = 0) ∧ closedB f.code = true := by
  unfold fmE at h
  have hf := @firstE_zero (f.code.map (minsE N f))
  simp only [List.mem_map, forall_exists_index, and_imp, forall_apply_eq_imp_iff₂] at hf
  by_cases h1 : shB Al f = true
  · rw [if_neg (by simp [h1])] at h
    by_cases h2 : 1024 < f.code.length
    · rw [if_pos h2] at h; omega
    · rw [if_neg h2] at h
      by_cases h3 : firstE (f.code.map (minsE N f)) = 0
      · rw [if_neg (by simpa using h3)] at h
        by_cases h4 : closedB f.code = true
        · exact ⟨h1, by omega, hf.1 h3, h4⟩
        · rw [if_pos (by simpa using h4)] at h; omega
      · rw [if_pos (by simpa using h3)] at h; exact absurd h h3
  · rw [if_pos (by simpa using h1)] at h; omega
/-- The errors of three operands, and of Imm. -/
theorem mopE_cases (N C k n : Int) : mopE N C k n = 0 ∨ mopE N C k n = 2 ∨ mopE N C k n = 4 ∨ mopE N C k n = 5 ∨ mopE N C k n = 6 := by unfold mopE; (repeat' split) <;> simp
theorem mrank_order {e1 e2 e3 imm : Int} {m cov : Bool} (c1 : e1 = 0 ∨ e1 = 2 ∨ e1 = 4 ∨ e1 = 5 ∨ e1 = 6) (c2 : e2 = 0 ∨ e2 = 2 ∨ e2 = 4 ∨ e2 = 5 ∨ e2 = 6) (c3 : e3 = 0 ∨ e3 = 2 ∨ e3 = 4 ∨ e3 = 5 ∨ e3 = 6) :
    mrank (foundE e1 e2 e3 m imm) cov = if e1 = 2 ∨ e2 = 2 ∨ e3 = 2 ∨ (m = false ∧ imm ≠ 0) then 2 else if e1 = 4 ∨ e2 = 4 ∨ e3 = 4 then 4 else if e1 = 5 ∨ e2 = 5 ∨ e3 = 5 then 5 else if cov = false then 4 else if e1 = 6 ∨ e2 = 6 ∨ e3 = 6 then 6 else 0 := by
  unfold foundE
  by_cases h : m = false ∧ imm ≠ 0
  · rw [if_pos h]
    simp [mrank, h]
  · rw [if_neg h]
    cases cov <;> rcases c1 with rfl | rfl | rfl | rfl | rfl <;> rcases c2 with rfl | rfl | rfl | rfl | rfl <;> rcases c3 with rfl | rfl | rfl | rfl | rfl <;> simp [mrank, h]
/-- A Call without an error names a frame. -/
theorem mins_call {N : Nat} {f : Fm} {x : Ins} (h : minsE N f x = 0) (h22 : x.op = 22) : 0 ≤ x.a ∧ x.a < N := by
  unfold minsE at h
  have he : exB x.op = true := by rw [h22]; rfl
  rw [if_neg (by simp [he])] at h
  unfold mfound at h
  rw [mrank_order (mopE_cases _ _ _ _) (mopE_cases _ _ _ _) (mopE_cases _ _ _ _)] at h
  by_cases hw : withB x.a N = true
  · exact withB_true.1 hw
  · exfalso
    have e1 : mopE N f.code.length (mshpOf x.op).1 x.a = 4 := by
      rw [h22]
      show mopE N f.code.length 4 x.a = 4
      unfold mopE
      simp [hw]
    split at h
    · omega
    · rw [if_pos (.inl e1)] at h; omega
end Go.Proofs.Ytjgoldlebmfiiaa
