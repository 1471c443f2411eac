import Derived.Test.YtlkcjjalkdlicaaDoorMZcmp
import Derived.Deep.RegionLaw
import Derived.Maps.Range
set_option linter.unusedVariables false
set_option linter.unusedSimpArgs false
section
/-
  The contracts of the machine's read, apply, and of compute at input, output, Add to Equal (chapter 8). Conditions: those of the types.
-/
namespace Go.Proofs.YtlkcjjalkdlicaaDoor
open Go.RowKit

section
variable {g base : Nat} {vi vt vf vs : Value} {zs : List Zn} {s : Mch}
set_option maxHeartbeats 4000000 in
theorem cread_any (w : World) (h : Hid (MRaw w g base vi vt vf vs zs s)) :
    Calls Tryd.prog 114 #[.pointer (some ⟨g, 0, none⟩)] w fun e w' => e = .returned (.int .u64 ((s.inp.headD 0 : Nat) : Int)) ∧ (∃ vi', MRaw w' g base vi' vt vf vs zs { s with inp := s.inp.tail }) ∧ w.grownBy w' (some g) := by
  obtain ⟨A, n, c, rfl, hl, hnc, hcm, hA, hs⟩ := h.out.inp
  have HL := hide hl
  have c0 := h.out.far 0 rfl
  cases hin : s.inp with
  | nil =>
    obtain rfl : n = 0 := by rw [← hl, hin]; rfl
    have FIN := hide (show MRaw w g base (.slice A 0 c) vt vf vs zs { s with inp := ([] : List Nat).tail } by rw [show ({ s with inp := ([] : List Nat).tail } : Mch) = s by rw [← hin]; simp [hin]; rw [← hin]]; exact h.out)
    clear hl hs hin
    go_enter Tryd.func114, Tryd.ntmps114
    go_wp2_with fail
    go_ret
    exact ⟨rfl, ⟨_, FIN.out⟩, World.grownBy.refl _ _⟩
  | cons v r =>
    obtain ⟨k, rfl⟩ : ∃ k, n = k + 1 := ⟨r.length, by rw [← hl, hin]; rfl⟩
    have hrk : r.length = k := by rw [hin] at hl; simpa using hl
    rw [hin] at hs
    obtain ⟨b, off, rfl, hb, hc⟩ := hs 0 (.int .u64 (v : Int)) rfl
    rw [Nat.add_zero] at hc
    have HS := hide hs
    have HIN := hide hin
    have hk0 : ¬ ((k : Int) + 1 = 0) := by omega
    have z0 := h.out.row.free 16
    clear hl hs hin
    by_cases hc1 : c = 1
    · subst hc1
      have hk : k = 0 := by omega
      subst hk
      have hr : r = [] := List.eq_nil_of_length_eq_zero hrk
      subst hr
      have q := hide (h.out.store 16 (.slice (some ⟨b, off, none⟩) 0 0) (s' := { s with inp := [] }) (vi' := .slice (some ⟨b, off, none⟩) 0 0) (mcells_set h.out.r8 0 _) ⟨_, _, _, rfl, rfl, Nat.le_refl _, by omega, fun _ => rfl, Sees.nil_ _ _ _⟩ rfl rfl (Nat.le_refl _) h.out.r8)
      go_enter Tryd.func114, Tryd.ntmps114
      go_wp2_with fail
      go_ret
      exact ⟨rfl, ⟨_, q.out⟩, put_grown w g 16 _⟩
    · have q := hide (h.out.store 16 (.slice (some ⟨b, off + 1, none⟩) k (c - 1)) (s' := { s with inp := r }) (vi' := .slice (some ⟨b, off + 1, none⟩) k (c - 1)) (mcells_set h.out.r8 0 _) ⟨_, _, _, rfl, hrk, by omega, by omega, (fun e => by cases e), fun j u hu => by
          obtain ⟨b', off', e, hb', hc'⟩ := HS.out (j + 1) u (by unfold ucells at hu ⊢; simpa using hu)
          injection e with e
          injection e with e1 e2
          subst e1 e2
          exact ⟨b, off + 1, rfl, hb', by rw [show off + 1 + j = off + (j + 1) by omega]; exact hc'⟩⟩ rfl rfl (Nat.le_refl _) h.out.r8)
      go_enter Tryd.func114, Tryd.ntmps114
      go_wp2_with fail
      go_ret
      exact ⟨rfl, ⟨_, q.out⟩, put_grown w g 16 _⟩
end
end Go.Proofs.YtlkcjjalkdlicaaDoor
end
