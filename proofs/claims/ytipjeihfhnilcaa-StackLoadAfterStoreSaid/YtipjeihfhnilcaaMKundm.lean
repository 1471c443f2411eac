import Derived.Test.YtipjeihfhnilcaaMKlawm
import Derived.Test.YtipjeihfhnilcaaMKld
set_option linter.unusedVariables false
set_option linter.unusedSimpArgs false
section
/-
  Plain mathematics of the law on a byte that is not used: the stack at each round of its loop, and what load and move give. No function of the program is named here.
-/
namespace Go.Proofs.Ytipjeihfhnilcaa
open Go.RowKit

/-- Of the first eight bytes those below i but k are used. -/
structure UndI (k i : Nat) (S : Sk) : Prop where
  ok : S.Ok
  len : S.bs.length = 64
  sp : S.sp = 0
  used : ∀ j, j < 8 → S.us[j]? = some (decide (j < i ∧ j ≠ k))
theorem fit_ok {S : Sk} {a n : Nat} (hs : szB (n : Int) = true) (h : S.sp + a + n ≤ S.bs.length) : fitB S (a : Int) (n : Int) = true := fitB_iff.2 ⟨hs, by omega, by omega⟩
theorem und_start (k : Nat) : UndI k 0 (pushR (newR 64 16) 64) := by
  have e1 : (newR 64 16) = newS 64 64 := by
    unfold newR
    rw [if_pos (by decide)]
    rfl
  have e2 : pushR (newS 64 64) 64 = pushS (newS 64 64) 64 := by
    unfold pushR
    rw [if_pos (by decide)]
    rfl
  have e3 : (pushS (newS 64 64) 64).us = List.replicate 64 false := by decide
  rw [e1, e2]
  refine ⟨(newS_ok (by omega) (by omega)).push (by show 64 ≤ 64; omega), by decide, by decide, fun j hj => ?_⟩
  rw [e3, List.getElem?_replicate, if_pos (by omega)]
  simp
theorem store_us {S : Sk} {a n X j : Nat} (hok : S.Ok) (h : a + n ≤ S.bs.length) : (storeS S a n X).us[j]? = if j < a then S.us[j]? else if j < a + n then some true else S.us[j]? := by
  show (splice S.us a (List.replicate (bytesV X n).length true))[j]? = _
  have := hok.len
  rw [bytesV_length, splice_at _ _ _ (by simp; omega)]
  simp only [List.length_replicate, List.getElem?_replicate]
  by_cases h1 : j < a
  · rw [if_pos h1, if_pos h1]
  · rw [if_neg h1, if_neg h1]
    by_cases h2 : j < a + n
    · rw [if_pos h2, if_pos h2, if_pos (by omega)]
    · rw [if_neg h2, if_neg h2]
theorem und_store {k q i X : Nat} {S : Sk} (h : UndI k q S) (hi : i < 8) : fitE S (i : Int) 1 = 0 ∧ (storeR S (i : Int) 1 X).bs.length = 64 ∧ (storeR S (i : Int) 1 X).sp = 0 ∧ (storeR S (i : Int) 1 X).Ok ∧ ∀ j, j < 8 → (storeR S (i : Int) 1 X).us[j]? = if j = i then some true else S.us[j]? := by
  have hf : fitB S (i : Int) ((1 : Nat) : Int) = true := fit_ok (by decide) (by rw [h.len, h.sp]; omega)
  obtain ⟨h1, h2⟩ := store_yes (X := X) hf
  rw [show ((1 : Nat) : Int) = 1 from rfl] at h1 h2
  rw [h1, h2, h.sp, Nat.zero_add]
  have hl : i + 1 ≤ S.bs.length := by rw [h.len]; omega
  refine ⟨rfl, ?_, h.sp, h.ok.store hl, fun j hj => ?_⟩
  · exact (put_len (by rw [bytesV_length]; exact hl)).trans h.len
  · rw [store_us h.ok hl]
    by_cases e : j = i
    · subst e; rw [if_neg (by omega), if_pos (by omega), if_pos rfl]
    · rw [if_neg e]
      by_cases e1 : j < i
      · rw [if_pos e1]
      · rw [if_neg e1, if_neg (by omega)]
theorem und_next {k i X : Nat} {S : Sk} (h : UndI k i S) (hi : i < 8) (hk : i ≠ k) : UndI k (i + 1) (storeR S (i : Int) 1 X) := by
  obtain ⟨_, h2, h3, h4, h5⟩ := und_store (X := X) h hi
  refine ⟨h4, h2, h3, fun j hj => ?_⟩
  rw [h5 j hj]
  by_cases e : j = i
  · subst e; rw [if_pos rfl]; simp [hk]
  · rw [if_neg e, h.used j hj]
    congr 1
    rw [decide_eq_decide]
    omega
theorem und_skip {k : Nat} {S : Sk} (h : UndI k k S) : UndI k (k + 1) S :=
  ⟨h.ok, h.len, h.sp, fun j hj => by rw [h.used j hj]; congr 1; rw [decide_eq_decide]; omega⟩
theorem und_end {k : Nat} {S : Sk} (h : UndI k 8 S) (hk : k < 8) : fitB S 0 8 = true ∧ usedB S (S.sp + 0) 8 = false := by
  refine ⟨?_, ?_⟩
  · have := fit_ok (S := S) (a := 0) (n := 8) (by decide) (by rw [h.len, h.sp]; omega)
    exact this
  · rw [h.sp]
    cases e : usedB S (0 + 0) 8 with
    | false => rfl
    | true =>
      have := (used_iff (by rw [h.ok.len, h.len]; omega)).1 e k hk
      simp only [Nat.zero_add] at this
      rw [h.used k hk] at this
      simp at this
theorem und_load {k : Nat} {S : Sk} (h : UndI k 8 S) (hk : k < 8) : fitE S 0 8 = 0 ∧ loadB S 0 8 = false ∧ loadV S 0 8 = 0 := by
  obtain ⟨h1, h2⟩ := und_end h hk
  exact load_undef (off := 0) (n := 8) h1 h2
theorem und_move {k d : Nat} {S : Sk} (h : UndI k 8 S) (hk : k < 8) (hd : d ≤ 55) : moveE S (d : Int) 0 8 = 0 ∧ moveB S (d : Int) 0 8 = false ∧ moveR S (d : Int) 0 8 = S := by
  obtain ⟨h1, h2⟩ := und_end h hk
  exact move_undef (o := 0) (m := 8) (fit_ok (n := 8) (by decide) (by rw [h.len, h.sp]; omega)) h1 h2
theorem und_full {k X : Nat} {S : Sk} (h : UndI k 8 S) (hk : k < 8) : fitE S (k : Int) 1 = 0 ∧ fitE (storeR S (k : Int) 1 X) 0 8 = 0 ∧ loadB (storeR S (k : Int) 1 X) 0 8 = true := by
  obtain ⟨h1, h2, h3, h4, h5⟩ := und_store (X := X) h hk
  have hf : fitB (storeR S (k : Int) 1 X) ((0 : Nat) : Int) ((8 : Nat) : Int) = true := fit_ok (by decide) (by rw [h2, h3]; omega)
  have hu : usedB (storeR S (k : Int) 1 X) ((storeR S (k : Int) 1 X).sp + 0) 8 = true := by
    rw [h3]
    refine (used_iff (by rw [h4.len, h2]; omega)).2 fun j hj => ?_
    simp only [Nat.zero_add]
    rw [h5 j hj]
    by_cases e : j = k
    · rw [if_pos e]
    · rw [if_neg e, h.used j hj]
      simp [hj, e]
  have := load_yes hf hu
  exact ⟨h1, this.1, this.2.1⟩
end Go.Proofs.Ytipjeihfhnilcaa
end
