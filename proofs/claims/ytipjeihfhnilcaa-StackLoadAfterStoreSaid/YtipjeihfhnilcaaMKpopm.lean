import Derived.Test.YtipjeihfhnilcaaMKundm
set_option linter.unusedVariables false
set_option linter.unusedSimpArgs false
section
/-
  Plain mathematics of the law on frames: the stack at each round of its loop. No function of the program is named here.
-/
namespace Go.Proofs.Ytipjeihfhnilcaa
open Go.RowKit

theorem push_ok {S : Sk} {n : Nat} (h : n ≤ S.sp) : pushE S (n : Int) = 0 ∧ pushR S (n : Int) = pushS S n := by
  have h1 : pushE S (n : Int) = 0 := by unfold pushE; rw [if_neg (by omega), if_neg (by omega)]
  exact ⟨h1, by unfold pushR; rw [if_pos h1, Int.toNat_natCast]⟩
theorem pop_ok {S : Sk} {n : Nat} (h : S.sp + n ≤ S.bs.length) : popE S (n : Int) = 0 ∧ popR S (n : Int) = popS S n := by
  have h1 : popE S (n : Int) = 0 := by unfold popE; rw [if_neg (by omega)]
  exact ⟨h1, by unfold popR; rw [if_pos h1, Int.toNat_natCast]⟩
theorem push_us {S : Sk} {n j : Nat} (hok : S.Ok) (h : n ≤ S.sp) : (pushS S n).us[j]? = if j < S.sp - n then S.us[j]? else if j < S.sp then some false else S.us[j]? := by
  show (splice S.us (S.sp - n) (List.replicate n false))[j]? = _
  have := hok.len
  have := hok.sp
  rw [splice_at _ _ _ (by simp; omega)]
  simp only [List.length_replicate, List.getElem?_replicate]
  by_cases h1 : j < S.sp - n
  · rw [if_pos h1, if_pos h1]
  · rw [if_neg h1, if_neg h1]
    by_cases h2 : j < S.sp
    · rw [if_pos (by omega), if_pos h2, if_pos (by omega)]
    · rw [if_neg (by omega), if_neg h2]
theorem push_drop {S : Sk} {n q : Nat} (hok : S.Ok) (h : n ≤ S.sp) (hq : S.sp ≤ q) : (pushS S n).us.drop q = S.us.drop q := by
  have := hok.len
  have := hok.sp
  exact splice_behind _ _ _ _ (by simp; omega) (by simp; omega)
theorem store_drop {S : Sk} {a n X q : Nat} (hok : S.Ok) (h : a + n ≤ S.bs.length) (hq : a + n ≤ q) : (storeS S a n X).bs.drop q = S.bs.drop q ∧ (storeS S a n X).us.drop q = S.us.drop q := by
  have := hok.len
  constructor
  · exact splice_behind _ _ _ _ (by rw [bytesV_length]; omega) (by rw [bytesV_length]; omega)
  · exact splice_behind _ _ _ _ (by simp [bytesV_length]; omega) (by simp [bytesV_length]; omega)

/-- The stack under the frame. -/
structure PopS (S : Sk) : Prop where
  ok : S.Ok
  len : S.bs.length = 128
  sp : S.sp = 96
  yes : S.us[104]? = some true
  no : S.us[96]? = some false
theorem pops_start (V : Nat) : newE 128 16 = 0 ∧ pushE (newR 128 16) 32 = 0 ∧ fitE (pushR (newR 128 16) 32) 8 8 = 0 ∧ PopS (storeR (pushR (newR 128 16) 32) 8 8 V) := by
  have e1 : newR 128 16 = newS 128 128 := by
    unfold newR
    rw [if_pos (by decide)]
    rfl
  have k0 : (newS 128 128).Ok := newS_ok (by omega) (by omega)
  obtain ⟨p1, p2⟩ := push_ok (S := newS 128 128) (n := 32) (by show 32 ≤ 128; omega)
  rw [show ((32 : Nat) : Int) = 32 from rfl] at p1 p2
  have k1 : (pushS (newS 128 128) 32).Ok := k0.push (by show 32 ≤ 128; omega)
  have l1 : (pushS (newS 128 128) 32).bs.length = 128 := by decide +kernel
  have s1 : (pushS (newS 128 128) 32).sp = 96 := by decide +kernel
  have hf : fitB (pushS (newS 128 128) 32) ((8 : Nat) : Int) ((8 : Nat) : Int) = true := fit_ok (by decide) (by rw [l1, s1]; omega)
  obtain ⟨f1, f2⟩ := store_yes (X := V) hf
  rw [show ((8 : Nat) : Int) = 8 from rfl] at f1 f2
  rw [e1, p2, f1, f2, s1]
  have hl : 96 + 8 + 8 ≤ (pushS (newS 128 128) 32).bs.length := by rw [l1]; omega
  refine ⟨by decide +kernel, p1, rfl, k1.store hl, (put_len (by rw [bytesV_length]; exact hl)).trans l1, s1, ?_, ?_⟩
  · rw [store_us k1 hl, if_neg (by omega), if_pos (by omega)]
  · rw [store_us k1 hl, if_pos (by omega)]
    have : (pushS (newS 128 128) 32).us = List.replicate 128 false := by decide +kernel
    rw [this, List.getElem?_replicate, if_pos (by omega)]

/-- The frame on it: none of its bytes is used. -/
structure PopI (n : Nat) (S T : Sk) : Prop where
  ok : T.Ok
  len : T.bs.length = 128
  sp : T.sp = 96 - n
  un : ∀ j, j < n → T.us[96 - n + j]? = some false
  bs : T.bs.drop 96 = S.bs.drop 96
  us : T.us.drop 96 = S.us.drop 96
theorem popi_push {n : Nat} {S U : Sk} (hn : n ≤ 96) (ok : U.Ok) (len : U.bs.length = 128) (sp : U.sp = 96) (bs : U.bs.drop 96 = S.bs.drop 96) (us : U.us.drop 96 = S.us.drop 96) : pushE U (n : Int) = 0 ∧ PopI n S (pushR U (n : Int)) := by
  obtain ⟨h1, h2⟩ := push_ok (S := U) (n := n) (by omega)
  refine ⟨h1, ?_⟩
  rw [h2]
  refine ⟨ok.push (by omega), len, by show U.sp - n = _; omega, fun j hj => ?_, bs, ?_⟩
  · rw [push_us ok (by omega), if_neg (by omega), if_pos (by omega)]
  · rw [push_drop ok (by omega) (by omega)]; exact us
theorem popi_start {n : Nat} {S : Sk} (h : PopS S) (hn : n ≤ 96) : pushE S (n : Int) = 0 ∧ PopI n S (pushR S (n : Int)) := popi_push hn h.ok h.len h.sp rfl rfl
theorem popi_load {n k : Nat} {S T : Sk} (h : PopI n S T) (hk : k < n) (hn : n ≤ 96) : fitE T (k : Int) 1 = 0 ∧ loadB T (k : Int) 1 = false ∧ loadV T (k : Int) 1 = 0 := by
  have hf : fitB T (k : Int) ((1 : Nat) : Int) = true := fit_ok (by decide) (by rw [h.len, h.sp]; omega)
  refine load_undef hf ?_
  cases e : usedB T (T.sp + k) 1 with
  | false => rfl
  | true =>
    have := (used_iff (by rw [h.ok.len, h.len, h.sp]; omega)).1 e 0 (by omega)
    rw [h.sp, Nat.add_zero, h.un k hk] at this
    simp at this
theorem popi_step {n k V : Nat} {S T : Sk} (h : PopI n S T) (hk : k + 8 ≤ n) (hn : n ≤ 96) : fitE T (k : Int) 8 = 0 ∧ popE (storeR T (k : Int) 8 V) (n : Int) = 0 ∧ pushE (popR (storeR T (k : Int) 8 V) (n : Int)) (n : Int) = 0 ∧ PopI n S (pushR (popR (storeR T (k : Int) 8 V) (n : Int)) (n : Int)) := by
  have hf : fitB T (k : Int) ((8 : Nat) : Int) = true := fit_ok (by decide) (by rw [h.len, h.sp]; omega)
  obtain ⟨f1, f2⟩ := store_yes (X := V) hf
  rw [show ((8 : Nat) : Int) = 8 from rfl] at f1 f2
  rw [f1, f2, h.sp]
  have hl : 96 - n + k + 8 ≤ T.bs.length := by rw [h.len]; omega
  have k1 := h.ok.store (X := V) hl
  have l1 : (storeS T (96 - n + k) 8 V).bs.length = 128 := (put_len (by rw [bytesV_length]; exact hl)).trans h.len
  have s1 : (storeS T (96 - n + k) 8 V).sp = 96 - n := h.sp
  obtain ⟨d1, d2⟩ := store_drop (X := V) h.ok hl (q := 96) (by omega)
  obtain ⟨p1, p2⟩ := pop_ok (S := storeS T (96 - n + k) 8 V) (n := n) (by rw [l1, s1]; omega)
  rw [p1, p2]
  have q := popi_push (S := S) (U := popS (storeS T (96 - n + k) 8 V) n) hn (k1.pop (by rw [l1, s1]; omega)) l1 (by show (storeS T (96 - n + k) 8 V).sp + n = 96; rw [s1]; omega) (d1.trans h.bs) (d2.trans h.us)
  exact ⟨rfl, rfl, q.1, q.2⟩
/-- The frame taken away again. -/
structure PopE (S U : Sk) : Prop where
  ok : U.Ok
  len : U.bs.length = 128
  sp : U.sp = 96
  bs : U.bs.drop 96 = S.bs.drop 96
  yes : U.us[104]? = some true
  no : U.us[96]? = some false
theorem popi_end {n : Nat} {S T : Sk} (hS : PopS S) (h : PopI n S T) (hn : n ≤ 96) : popE T (n : Int) = 0 ∧ PopE S (popR T (n : Int)) := by
  obtain ⟨p1, p2⟩ := pop_ok (S := T) (n := n) (by rw [h.len, h.sp]; omega)
  refine ⟨p1, ?_⟩
  rw [p2]
  have hat : ∀ j, T.us[96 + j]? = S.us[96 + j]? := fun j => by rw [← List.getElem?_drop, ← List.getElem?_drop, h.us]
  exact ⟨h.ok.pop (by rw [h.len, h.sp]; omega), h.len, by show T.sp + n = 96; rw [h.sp]; omega, h.bs, (hat 8).trans hS.yes, (hat 0).trans hS.no⟩
end Go.Proofs.Ytipjeihfhnilcaa
end
