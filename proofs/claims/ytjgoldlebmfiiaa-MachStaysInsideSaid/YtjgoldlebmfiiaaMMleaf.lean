import Derived.Test.YtjgoldlebmfiiaaMKb
import Derived.Test.YtjgoldlebmfiiaaMKg
import Derived.Test.YtjgoldlebmfiiaaMRct
import Derived.Test.YtjgoldlebmfiiaaMVszo
import Derived.Test.YtjgoldlebmfiiaaMGp
import Derived.Deep.DeepCutAuto
import Derived.Outline
set_option linter.unusedVariables false
set_option linter.unusedSimpArgs false
section
/-
  The contracts of mach.within, exists, operandsOf, of its methods shaped, closed, checkOperand, and of value.Size's use in them. Conditions: those of the types.
-/
namespace Go.Proofs.Ytjgoldlebmfiiaa
open Go.RowKit

/-- A frame with the number of frames, by value. -/
abbrev xv (P S : Int) (A : Option Addr) (n c : Nat) (N : Int) : Value := .agg #[.int .i64 P, .int .i64 S, .slice A n c, .int .i64 N]
theorem mwithin_any (n m : Int) (w : World) : Calls Try.prog 57 #[.int .i64 n, .int .i64 m] w fun e w' => e = .returned (.bool (withB n m)) ∧ w = w' := by
  by_cases h : 0 ≤ n
  · go_enter Try.func57, Try.ntmps57
    go_wp2_with fail
    go_ret
    exact ⟨ret_bool (by simp [withB, h]), rfl⟩
  · have hd : decide (0 ≤ n) = false := by simpa using h
    go_enter Try.func57, Try.ntmps57
    go_wp2_with fail
    go_ret
    exact ⟨ret_bool (by simp [withB, hd]), rfl⟩
theorem mexists_any (o : Int) (w : World) : Calls Try.prog 59 #[.int .i64 o] w fun e w' => e = .returned (.bool (exB o)) ∧ w = w' := by
  have c := mwithin_any o 25
  have HX := hide (show exB o = (withB o 25 && (!decide (o = 18) && !decide (o = 19))) from rfl)
  obtain ⟨b, hb⟩ : ∃ b, withB o 25 = b := ⟨_, rfl⟩
  rw [hb] at c HX
  have C := hide c
  clear c hb
  cases b with
  | false =>
    go_enter Try.func59, Try.ntmps59
    go_wp2_with fail
    refine (C.out _).mono ?_
    rintro e w' ⟨rfl, rfl⟩
    go_wp2_with fail
    go_ret
    exact ⟨ret_bool (by rw [HX.out]; simp), rfl⟩
  | true =>
    by_cases h1 : o = 18
    · have HE := hide (show exB o = false by rw [HX.out]; simp [h1])
      have b1 : (o != 18) = false := by simpa using h1
      clear h1
      go_enter Try.func59, Try.ntmps59
      go_wp2_with fail
      refine (C.out _).mono ?_
      rintro e w' ⟨rfl, rfl⟩
      go_wp2_with fail
      go_ret
      exact ⟨ret_bool HE.out.symm, rfl⟩
    · have HE := hide (show exB o = (o != 19) by rw [HX.out]; simp only [decide_eq_false h1, Bool.true_and, Bool.not_false]; by_cases h2 : o = 19 <;> simp [h2])
      have b1 : (o != 18) = true := by simpa using h1
      clear h1
      go_enter Try.func59, Try.ntmps59
      go_wp2_with fail
      refine (C.out _).mono ?_
      rintro e w' ⟨rfl, rfl⟩
      go_wp2_with fail
      go_ret
      exact ⟨ret_bool HE.out.symm, rfl⟩

end Go.Proofs.Ytjgoldlebmfiiaa
end
