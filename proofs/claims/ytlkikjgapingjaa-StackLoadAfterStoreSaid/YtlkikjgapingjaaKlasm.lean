/-
  Plain mathematics of the law on loads after stores. No function of the program is named here.
-/
import Derived.Test.YtlkikjgapingjaaKpopm
namespace Go.Proofs.Ytlkikjgapingjaa
open Go.RowKit

structure LasS (S : Sk) : Prop where
  ok : S.Ok
  len : S.bs.length = 100
  sp : S.sp = 48
theorem las_start : newE 100 16 = 0 ∧ (∀ k : Int, 0 ≤ k → fitE (newR 100 16) k 8 = 4 ∧ ∀ X, storeR (newR 100 16) k 8 X = newR 100 16) ∧ pushE (newR 100 16) 48 = 0 ∧ LasS (pushR (newR 100 16) 48) := by
  have e1 : newR 100 16 = newS 100 96 := by
    unfold newR
    rw [if_pos (by decide)]
    rfl
  have k0 : (newS 100 96).Ok := newS_ok (by omega) (by omega)
  have l0 : (newS 100 96).bs.length = 100 := by simp [newS]
  obtain ⟨p1, p2⟩ := push_ok (S := newS 100 96) (n := 48) (by show 48 ≤ 96; omega)
  rw [show ((48 : Nat) : Int) = 48 from rfl] at p1 p2
  rw [e1, p2]
  refine ⟨by decide +kernel, fun k hk => ?_, p1, k0.push (by show 48 ≤ 96; omega), l0, rfl⟩
  have hf : fitB (newS 100 96) k 8 = false := by
    cases e : fitB (newS 100 96) k 8 with
    | false => rfl
    | true =>
      obtain ⟨_, _, h3⟩ := fitB_iff.1 e
      rw [l0] at h3
      have : ((newS 100 96).sp : Int) = 96 := rfl
      omega
  exact ⟨(store_no (X := 0) hf).1, fun X => (store_no hf).2⟩
theorem store_bs {S : Sk} {a n X j : Nat} (h : a + n ≤ S.bs.length) (hj : ¬ (a ≤ j ∧ j < a + n)) : (storeS S a n X).bs[j]? = S.bs[j]? := by
  show (splice S.bs a (bytesV X n))[j]? = _
  rw [splice_at _ _ _ (by rw [bytesV_length]; omega), bytesV_length]
  by_cases h1 : j < a
  · rw [if_pos h1]
  · rw [if_neg h1, if_neg (by omega)]
theorem las_store {S : Sk} (h : LasS S) (u n X : Nat) (hu : u < 40) (hn : n = 1 ∨ n = 2 ∨ n = 4 ∨ n = 8) :
    fitE S (u : Int) (n : Int) = 0 ∧ (storeR S (u : Int) (n : Int) X).bs.length = 100 ∧ fitE (storeR S (u : Int) (n : Int) X) (u : Int) (n : Int) = 0 ∧ loadB (storeR S (u : Int) (n : Int) X) (u : Int) (n : Int) = true ∧ loadV (storeR S (u : Int) (n : Int) X) (u : Int) (n : Int) = truncV X (n : Int) ∧
      (∀ i, i < 100 → ¬ (48 + u ≤ i ∧ i < 48 + u + n) → (storeR S (u : Int) (n : Int) X).bs[i]? = S.bs[i]? ∧ (storeR S (u : Int) (n : Int) X).us[i]? = S.us[i]?) ∧ (storeR S (u : Int) (n : Int) X).Ok := by
  have hz : szB (n : Int) = true := by rcases hn with rfl | rfl | rfl | rfl <;> decide
  have hN : szN (n : Int) = n := by have := szN_yes hz; omega
  have hf : fitB S (u : Int) (n : Int) = true := fit_ok hz (by rw [h.len, h.sp]; omega)
  obtain ⟨f1, f2⟩ := store_yes (X := X) hf
  rw [f1, f2, h.sp]
  have hl : 48 + u + n ≤ S.bs.length := by rw [h.len]; omega
  have hk := h.ok.store (X := X) hl
  have hlen : (storeS S (48 + u) n X).bs.length = 100 := (put_len (by rw [bytesV_length]; exact hl)).trans h.len
  have hsp : (storeS S (48 + u) n X).sp = 48 := h.sp
  have hf2 : fitB (storeS S (48 + u) n X) (u : Int) (n : Int) = true := fit_ok hz (by rw [hlen, hsp]; omega)
  have hu2 : usedB (storeS S (48 + u) n X) ((storeS S (48 + u) n X).sp + u) n = true := by
    rw [hsp]
    have := used_put (S := S) (a := 48 + u) (zs := bytesV X n) (by rw [bytesV_length, h.ok.len]; exact hl)
    rw [bytesV_length] at this
    exact this
  obtain ⟨l1, l2, l3⟩ := load_yes hf2 hu2
  refine ⟨rfl, hlen, l1, l2, ?_, fun i hi hn' => ⟨store_bs hl hn', ?_⟩, hk⟩
  · rw [l3, hsp]
    have := cut_put (S := S) (a := 48 + u) (zs := bytesV X n) (by rw [bytesV_length]; exact hl)
    rw [bytesV_length] at this
    rw [show cutS (storeS S (48 + u) n X) (48 + u) n = bytesV X n from this, List.take_of_length_le (by rw [bytesV_length]; omega), valOf_bytesV]
    unfold truncV
    rw [hN]
  · rw [store_us h.ok hl]
    by_cases e1 : i < 48 + u
    · rw [if_pos e1]
    · rw [if_neg e1, if_neg (by omega)]
end Go.Proofs.Ytlkikjgapingjaa
