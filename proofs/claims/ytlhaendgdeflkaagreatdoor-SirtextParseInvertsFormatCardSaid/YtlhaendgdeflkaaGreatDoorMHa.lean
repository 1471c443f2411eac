import Derived.Test.YtlhaendgdeflkaaGreatDoorMGa
import Derived.Test.YtlhaendgdeflkaaGreatDoorMGv
import Derived.Test.YtlhaendgdeflkaaGreatDoorMGd
import Derived.Lib.FieldsP
import Derived.Shelf.GgClosure.StringsIndexFunc
import Derived.Lib.ParseIntB
import Derived.Laws.Strings2
import Derived.Laws.Slices
set_option linter.unusedVariables false
set_option linter.unusedSimpArgs false
section
/-
  Plain mathematics of the text of programs, read: the words of a line, and that strings.FieldsFunc's pieces at blanks and tabs are they; whether a text has a byte that is no digit. No function of the program is named here.
-/
namespace Go.Proofs.YtlhaendgdeflkaaGreatDoor
open Go.RowKit Go.Lib

def blankC (c : UInt8) : Bool := c == 32 || c == 9
def flushU (w : List UInt8) : List (List UInt8) := if w = [] then [] else [w]
/-- The words of a line, of which w has begun; it is cut at '#'. -/
def splU : List UInt8 → List UInt8 → List (List UInt8)
  | w, [] => flushU w
  | w, c :: r => if c = 35 then flushU w else if blankC c then flushU w ++ splU [] r else splU (w ++ [c]) r
def wordsU (l : List UInt8) : List (List UInt8) := splU [] l
/-- The same without a cut. -/
def spbU : List UInt8 → List UInt8 → List (List UInt8)
  | w, [] => flushU w
  | w, c :: r => if blankC c then flushU w ++ spbU [] r else spbU (w ++ [c]) r
theorem splU_cut (l : List UInt8) : ∀ w, splU w l = spbU w (l.takeWhile (· != 35)) := by
  induction l with
  | nil => intro w; rfl
  | cons c r ih =>
    intro w
    by_cases h : c = 35
    · subst h
      simp [splU, spbU, List.takeWhile_cons]
    · have h' : (c != 35) = true := by simpa using h
      rw [List.takeWhile_cons, if_pos h']
      simp only [splU, spbU, if_neg h]
      split <;> rw [ih]
theorem spbU_high (h : List UInt8) : ∀ (w r : List UInt8), (∀ c ∈ h, blankC c = false) → spbU w (h ++ r) = spbU (w ++ h) r := by
  induction h with
  | nil => intro w r _; simp
  | cons c t ih =>
    intro w r hh
    have hc := hh c (List.mem_cons_self ..)
    rw [List.cons_append]
    simp only [spbU, hc]
    rw [if_neg (by simp), ih _ _ fun x hx => hh x (List.mem_cons_of_mem _ hx)]
    simp

/-- What the decoded rune at a place is: an ASCII byte by itself, or a rune from 128 on out of bytes from 128 on. -/
theorem decode_two (n b0 b1 b2 b3 : Nat) (hn : 1 ≤ n) : (b0 < 128 ∧ decodeN n b0 b1 b2 b3 = (b0, 1)) ∨
    (128 ≤ b0 ∧ 128 ≤ (decodeN n b0 b1 b2 b3).1 ∧ 1 ≤ (decodeN n b0 b1 b2 b3).2 ∧ (decodeN n b0 b1 b2 b3).2 ≤ n ∧
      (2 ≤ (decodeN n b0 b1 b2 b3).2 → 128 ≤ b1) ∧ (3 ≤ (decodeN n b0 b1 b2 b3).2 → 128 ≤ b2) ∧ (4 ≤ (decodeN n b0 b1 b2 b3).2 → 128 ≤ b3) ∧ (decodeN n b0 b1 b2 b3).2 ≤ 4) := by
  by_cases h : b0 < 128
  · refine .inl ⟨h, ?_⟩
    unfold decodeN
    rw [if_pos h]
  · refine .inr ⟨by omega, ?_⟩
    unfold decodeN
    rw [if_neg h]
    repeat' split
    all_goals (simp only; omega)
theorem get_bang (l : List UInt8) (i : Nat) : (⟨l.toArray⟩ : ByteArray).get! i = l.getD i 0 := by
  show (l.toArray)[i]! = _
  simp [List.getD_eq_getElem?_getD]
  rfl
/-- The rune at place pos of a list of bytes. -/
theorem decode_list (l : List UInt8) (pos : Nat) (hp : pos < l.length) : (l[pos].toNat < 128 ∧ Utf8.decode ⟨l.toArray⟩ pos = (l[pos].toNat, 1)) ∨
    (128 ≤ l[pos].toNat ∧ 128 ≤ (Utf8.decode ⟨l.toArray⟩ pos).1 ∧ 1 ≤ (Utf8.decode ⟨l.toArray⟩ pos).2 ∧ pos + (Utf8.decode ⟨l.toArray⟩ pos).2 ≤ l.length ∧
      ∀ c ∈ (l.drop pos).take (Utf8.decode ⟨l.toArray⟩ pos).2, 128 ≤ c.toNat) := by
  have hs : (⟨l.toArray⟩ : ByteArray).size = l.length := by simp [ByteArray.size]
  rw [decode_at, hs, get_bang, get_bang, get_bang, get_bang]
  have h0 : l.getD pos 0 = l[pos] := by rw [List.getD_eq_getElem?_getD, List.getElem?_eq_getElem hp]; rfl
  rw [h0]
  rcases decode_two (l.length - pos) l[pos].toNat (l.getD (pos + 1) 0).toNat (l.getD (pos + 2) 0).toNat (l.getD (pos + 3) 0).toNat (by omega) with ⟨h, e⟩ | ⟨h, h1, h2, h3, k1, k2, k3, h4⟩
  · exact .inl ⟨h, e⟩
  · refine .inr ⟨h, h1, h2, by omega, fun c hc => ?_⟩
    generalize (decodeN (l.length - pos) l[pos].toNat (l.getD (pos + 1) 0).toNat (l.getD (pos + 2) 0).toNat (l.getD (pos + 3) 0).toNat).2 = m at *
    obtain ⟨i, hi, e⟩ := List.getElem_of_mem hc
    have hil : i < m := by simp only [List.length_take] at hi; omega
    have hlen : pos + i < l.length := by omega
    have e2 : l[pos + i]? = some c := by
      rw [List.getElem?_eq_getElem hlen, ← e]
      simp
    have e3 : l.getD (pos + i) 0 = c := by rw [List.getD_eq_getElem?_getD, e2]; rfl
    rcases (show i = 0 ∨ i = 1 ∨ i = 2 ∨ i = 3 by omega) with rfl | rfl | rfl | rfl
    · rw [Nat.add_zero, h0] at e3; rw [← e3]; exact h
    · rw [← e3]; exact k1 (by omega)
    · rw [← e3]; exact k2 (by omega)
    · rw [← e3]; exact k3 (by omega)

/-- A rune that is a blank or a tab. -/
def pB (n : Nat) : Bool := n == 32 || n == 9
theorem pB_low (c : UInt8) : pB c.toNat = blankC c := by
  unfold pB blankC
  have h (k : Nat) (hk : k < 256) : (c.toNat == k) = (c == UInt8.ofNat k) := by
    rw [Bool.eq_iff_iff]
    simp only [beq_iff_eq]
    refine ⟨fun e => ?_, fun e => ?_⟩
    · apply UInt8.toNat_inj.1
      rw [e]
      simp [UInt8.toNat_ofNat, Nat.mod_eq_of_lt hk]
    · rw [e]
      simp [UInt8.toNat_ofNat, Nat.mod_eq_of_lt hk]
  rw [h 32 (by omega), h 9 (by omega)]
  rfl
theorem pB_high {n : Nat} (h : 128 ≤ n) : pB n = false := by
  unfold pB
  simp only [Bool.or_eq_false_iff, beq_eq_false_iff_ne]
  omega
theorem blank_high {c : UInt8} (h : 128 ≤ c.toNat) : blankC c = false := by rw [← pB_low]; exact pB_high h

/-- The bytes of l from a up to b. -/
def pieceB (l : List UInt8) (a b : Nat) : List UInt8 := (l.drop a).take (b - a)
def openB (l : List UInt8) (st : Option Nat) (pos : Nat) : List UInt8 := match st with | some a => pieceB l a pos | none => []
theorem pieceB_grow (l : List UInt8) (a pos k : Nat) (h : a ≤ pos) : pieceB l a pos ++ (l.drop pos).take k = pieceB l a (pos + k) := by
  unfold pieceB
  have e : l.drop pos = (l.drop a).drop (pos - a) := by rw [List.drop_drop]; congr 1; omega
  rw [e, show pos + k - a = (pos - a) + k by omega, List.take_add]
theorem pieceB_ne (l : List UInt8) (a pos : Nat) (h : a < pos) (hp : pos ≤ l.length) : pieceB l a pos ≠ [] := by
  intro h0
  have := congrArg List.length h0
  unfold pieceB at this
  rw [List.length_take, List.length_drop] at this
  simp at this
  omega
theorem flush_piece (l : List UInt8) (a pos : Nat) (h : a < pos) (hp : pos ≤ l.length) : flushU (pieceB l a pos) = [pieceB l a pos] := by
  unfold flushU; rw [if_neg (pieceB_ne l a pos h hp)]
theorem flush_nil : flushU [] = [] := rfl
theorem drop_split (l : List UInt8) (pos m : Nat) : l.drop pos = (l.drop pos).take m ++ l.drop (pos + m) := by
  have := (List.take_append_drop m (l.drop pos)).symm
  rwa [List.drop_drop] at this
theorem openB_grow (l : List UInt8) (st : Option Nat) (pos m : Nat) (hst : ∀ a, st = some a → a < pos) : openB l st pos ++ (l.drop pos).take m = openB l (some (st.getD pos)) (pos + m) := by
  cases st with
  | none => simp [openB, pieceB]
  | some a => exact pieceB_grow l a pos m (Nat.le_of_lt (hst a rfl))
/-- The pass over the runes. -/
theorem spans_words (l : List UInt8) : ∀ (f pos : Nat) (st : Option Nat) (acc : List (Nat × Nat)), l.length ≤ pos + f → pos ≤ l.length → (∀ a, st = some a → a < pos) →
    acc.map (fun p => pieceB l p.1 p.2) ++ spbU (openB l st pos) (l.drop pos) = (closeSpans ⟨l.toArray⟩ (spansFromP pB ⟨l.toArray⟩ f pos st acc)).map (fun p => pieceB l p.1 p.2) := by
  have hs : (⟨l.toArray⟩ : ByteArray).size = l.length := by simp [ByteArray.size]
  have hend : ∀ (f : Nat) (st : Option Nat) (acc : List (Nat × Nat)), (∀ a, st = some a → a < l.length) →
      acc.map (fun p => pieceB l p.1 p.2) ++ spbU (openB l st l.length) (l.drop l.length) = (closeSpans ⟨l.toArray⟩ (spansFromP pB ⟨l.toArray⟩ f l.length st acc)).map (fun p => pieceB l p.1 p.2) := by
    intro f st acc hst
    rw [List.drop_length, spansFromP_end pB _ _ _ _ _ (by rw [hs]; omega)]
    cases st with
    | none => simp [closeSpans, openB, spbU, flush_nil]
    | some a => simp [closeSpans, openB, spbU, flush_piece l a l.length (hst a rfl) (Nat.le_refl _), hs]
  intro f
  induction f with
  | zero =>
    intro pos st acc h hp hst
    obtain rfl : pos = l.length := by omega
    exact hend 0 st acc hst
  | succ f ih =>
    intro pos st acc h hp hst
    by_cases hlt : pos < l.length
    · have hc : l.drop pos = l[pos] :: l.drop (pos + 1) := List.drop_eq_getElem_cons hlt
      rcases decode_list l pos hlt with ⟨h1, e⟩ | ⟨h1, h2, h3, h4, h5⟩
      · simp only [spansFromP, hs, if_pos hlt, e, pB_low]
        cases hb : blankC l[pos] with
        | true =>
          simp only [if_true]
          rw [hc]
          simp only [spbU, hb, if_true]
          cases st with
          | none =>
            have := ih (pos + 1) none acc (by omega) (by omega) (fun a h => by cases h)
            simpa [openB, flush_nil] using this
          | some a =>
            have := ih (pos + 1) none (acc ++ [(a, pos)]) (by omega) (by omega) (fun a h => by cases h)
            simpa [openB, flush_piece l a pos (hst a rfl) (by omega)] using this
        | false =>
          simp only [Bool.false_eq_true, if_false]
          have hg := openB_grow l st pos 1 hst
          have ht : (l.drop pos).take 1 = [l[pos]] := by rw [hc]; rfl
          rw [ht] at hg
          have hrew : spbU (openB l st pos) (l.drop pos) = spbU (openB l (some (st.getD pos)) (pos + 1)) (l.drop (pos + 1)) := by
            rw [hc]
            simp only [spbU, hb, Bool.false_eq_true, if_false]
            rw [hg]
          rw [hrew]
          have := ih (pos + 1) (some (st.getD pos)) acc (by omega) (by omega) (fun a h => by
            injection h with h
            cases st with
            | none => simp at h; omega
            | some b => simp at h; have := hst b rfl; omega)
          cases st <;> exact this
      · simp only [spansFromP, hs, if_pos hlt, pB_high h2, Bool.false_eq_true, if_false]
        generalize (Utf8.decode ⟨l.toArray⟩ pos).2 = m at *
        have hg := openB_grow l st pos m hst
        have hrew : spbU (openB l st pos) (l.drop pos) = spbU (openB l (some (st.getD pos)) (pos + m)) (l.drop (pos + m)) := by
          conv => lhs; rw [drop_split l pos m]
          rw [spbU_high _ _ _ fun c hc => blank_high (h5 c hc), hg]
        rw [hrew]
        have := ih (pos + m) (some (st.getD pos)) acc (by omega) h4 (fun a h => by
          injection h with h
          cases st with
          | none => simp at h; omega
          | some b => simp at h; have := hst b rfl; omega)
        cases st <;> exact this
    · obtain rfl : pos = l.length := by omega
      exact hend (f + 1) st acc hst
/-- strings.FieldsFunc at blanks and tabs gives the words. -/
theorem fields_words (l : List UInt8) : (goFieldsP pB ⟨l.toArray⟩).map (·.data.toList) = spbU [] l := by
  have hs : (⟨l.toArray⟩ : ByteArray).size = l.length := by simp [ByteArray.size]
  have h := spans_words l l.length 0 none [] (by omega) (by omega) (fun a h => by cases h)
  simp only [List.map_nil, List.nil_append, List.drop_zero, openB] at h
  rw [h]
  unfold goFieldsP spansOfP
  rw [List.map_map, hs]
  refine List.map_congr_left fun p _ => ?_
  show ((⟨l.toArray⟩ : ByteArray).extract p.1 p.2).data.toList = _
  rw [extract_data]
  rfl

def digC (c : UInt8) : Bool := decide (48 ≤ c.toNat) && decide (c.toNat ≤ 57)
/-- A rune that is no digit. -/
def pD (n : Nat) : Bool := decide (n < 48) || decide (57 < n)
theorem pD_low (c : UInt8) : pD c.toNat = !digC c := by
  unfold pD digC
  rw [Bool.eq_iff_iff]
  simp only [Bool.or_eq_true, decide_eq_true_eq, Bool.not_eq_true', Bool.and_eq_false_iff, decide_eq_false_iff_not]
  omega
theorem pD_high {n : Nat} (h : 128 ≤ n) : pD n = true := by unfold pD; simp; omega
theorem dig_high {c : UInt8} (h : 128 ≤ c.toNat) : digC c = false := by unfold digC; simp; omega
theorem idx_digits (l : List UInt8) : ∀ (f pos : Nat), l.length ≤ pos + f → (decide (0 ≤ idxFuncFrom pD true ⟨l.toArray⟩ f pos) = !(l.drop pos).all digC) := by
  have hs : (⟨l.toArray⟩ : ByteArray).size = l.length := by simp [ByteArray.size]
  intro f
  induction f with
  | zero =>
    intro pos h
    rw [List.drop_eq_nil_of_le (by omega), idxFuncFrom_end _ _ _ _ _ (by rw [hs]; omega)]
    rfl
  | succ f ih =>
    intro pos h
    by_cases hlt : pos < l.length
    · have hc : l.drop pos = l[pos] :: l.drop (pos + 1) := List.drop_eq_getElem_cons hlt
      rw [hc, List.all_cons]
      rcases decode_list l pos hlt with ⟨h1, e⟩ | ⟨h1, h2, h3, h4, h5⟩
      · simp only [idxFuncFrom, hs, if_pos hlt, e, pD_low]
        cases hd : digC l[pos] with
        | true => simpa using ih (pos + 1) (by omega)
        | false => simp
      · simp only [idxFuncFrom, hs, if_pos hlt, pD_high h2, dig_high h1]
        simp
    · rw [List.drop_eq_nil_of_le (by omega), idxFuncFrom_end _ _ _ _ _ (by rw [hs]; omega)]
      rfl
/-- strings.ContainsFunc at what is no digit. -/
theorem contains_digits (l : List UInt8) : decide (0 ≤ idxFunc pD true ⟨l.toArray⟩) = !l.all digC := by
  have hs : (⟨l.toArray⟩ : ByteArray).size = l.length := by simp [ByteArray.size]
  unfold idxFunc
  rw [hs]
  exact idx_digits l l.length 0 (by omega)
end Go.Proofs.YtlhaendgdeflkaaGreatDoor
end

section
/-
  Plain mathematics of the text of programs, read: numbers, operands, operations, lines, programs; what strconv.ParseUint gives at decimal digits. No function of the program is named here.
-/
namespace Go.Proofs.YtlhaendgdeflkaaGreatDoor
open Go.RowKit

/-- The value of decimal digits behind a number. -/
def valF (a : Nat) (l : List UInt8) : Nat := l.foldl (fun a c => a * 10 + (c.toNat - 48)) a
def valU (l : List UInt8) : Nat := valF 0 l
theorem valF_cons (a : Nat) (c : UInt8) (l : List UInt8) : valF a (c :: l) = valF (a * 10 + (c.toNat - 48)) l := by unfold valF; rw [List.foldl_cons]
theorem valF_snoc (a : Nat) (c : UInt8) (l : List UInt8) : valF a (l ++ [c]) = valF a l * 10 + (c.toNat - 48) := by simp [valF]
theorem valF_ge (l : List UInt8) : ∀ a, a ≤ valF a l := by
  induction l with
  | nil => intro a; exact Nat.le_refl _
  | cons c r ih => intro a; rw [valF_cons]; have := ih (a * 10 + (c.toNat - 48)); omega
theorem pm_nil (M a : Nat) : Lib.parseUintM M a [] = .ok a := by unfold Lib.parseUintM; rfl
theorem pm_far (M a : Nat) (c : UInt8) (r : List UInt8) (hc : 48 ≤ c.toNat ∧ c.toNat ≤ 57) (h : 1844674407370955162 ≤ a) : Lib.parseUintM M a (c :: r) = .range := by
  unfold Lib.parseUintM
  simp only [hc, h, if_true, and_self]
theorem pm_near (M a : Nat) (c : UInt8) (r : List UInt8) (hc : 48 ≤ c.toNat ∧ c.toNat ≤ 57) (h : ¬ 1844674407370955162 ≤ a) : Lib.parseUintM M a (c :: r) = if M < a * 10 + (c.toNat - 48) then .range else Lib.parseUintM M (a * 10 + (c.toNat - 48)) r := by
  conv => lhs; unfold Lib.parseUintM
  simp only [hc, h, if_true, and_self, if_false]
theorem parseM_val (M : Nat) (hM : Hid (M = 18446744073709551615)) (l : List UInt8) (hl : l.all digC = true) : ∀ a, a ≤ M → Lib.parseUintM M a l = if valF a l ≤ M then .ok (valF a l) else .range := by
  induction l with
  | nil => intro a ha; rw [pm_nil, if_pos (show valF a [] ≤ M from ha)]; rfl
  | cons c r ih =>
    intro a ha
    rw [List.all_cons, Bool.and_eq_true] at hl
    have hc := hl.1
    unfold digC at hc
    rw [Bool.and_eq_true, decide_eq_true_eq, decide_eq_true_eq] at hc
    rw [valF_cons]
    have hge := valF_ge r (a * 10 + (c.toNat - 48))
    by_cases h1 : 1844674407370955162 ≤ a
    · have hn : ¬ valF (a * 10 + (c.toNat - 48)) r ≤ M := by have := hM.out; clear ih; omega
      rw [pm_far M a c r hc h1, if_neg hn]
    · rw [pm_near M a c r hc h1]
      by_cases h2 : M < a * 10 + (c.toNat - 48)
      · have hn : ¬ valF (a * 10 + (c.toNat - 48)) r ≤ M := by clear ih; omega
        rw [if_pos h2, if_neg hn]
      · rw [if_neg h2]
        exact ih hl.2 _ (by clear ih; omega)
/-- Decimal digits as a program may have them. -/
def decB (d : List UInt8) : Bool := decide (1 ≤ d.length) && decide (d.length ≤ 20) && (decide (d.length = 1) || decide (d.getD 0 0 ≠ 48)) && d.all digC
theorem parse_dec {d : List UInt8} (h : decB d = true) (M : Nat) (hM : Hid (M = 18446744073709551615)) : Lib.parseUintB 64 d = if valU d ≤ M then .ok (valU d) else .range := by
  unfold decB at h
  simp only [Bool.and_eq_true, decide_eq_true_eq] at h
  have e : 2 ^ 64 - 1 = M := by rw [hM.out]
  unfold Lib.parseUintB
  rw [if_neg (by intro e; subst e; simp at h), e]
  exact parseM_val M hM d h.2 0 (Nat.zero_le _)
theorem valU_snoc (c : UInt8) (l : List UInt8) : valU (l ++ [c]) = valU l * 10 + (c.toNat - 48) := valF_snoc 0 c l

/-- The number of an operand behind its mark. -/
def numU (m w : List UInt8) : Option Nat := if m.isPrefixOf w && decB (w.drop m.length) then some (valU (w.drop m.length)) else none
/-- The marks of operands, and whether they are Imm. -/
abbrev Mk := List UInt8 × Bool
def limU (b : Bool) : Nat := if b then 18446744073709551616 else 2147483648
def nthU (ms : List Mk) (ws : List (List UInt8)) (k : Nat) : Option Nat := numU (ms.getD k ([], false)).1 (ws.getD k [])
def fitU (ms : List Mk) (ws : List (List UInt8)) (k : Nat) : Bool := decide ((nthU ms ws k).getD 0 < limU (ms.getD k ([], false)).2)
def numsB (ms : List Mk) (ws : List (List UInt8)) : Bool := decide (ws.length = ms.length) && (List.range ms.length).all fun k => (nthU ms ws k).isSome
def numsV (ms : List Mk) (ws : List (List UInt8)) : List Nat := (List.range ms.length).map fun k => (nthU ms ws k).getD 0
def numsE (ms : List Mk) (ws : List (List UInt8)) : Int := if numsB ms ws then (if (List.range ms.length).all (fitU ms ws) then 0 else 4) else 10
theorem numsE_cases (ms : List Mk) (ws : List (List UInt8)) : numsE ms ws = 0 ∨ numsE ms ws = 4 ∨ numsE ms ws = 10 := by unfold numsE; (repeat' split) <;> simp
theorem numsE_len {ms : List Mk} {ws : List (List UInt8)} (h : ws.length ≠ ms.length) : numsE ms ws = 10 := by unfold numsE numsB; rw [if_neg (by simp [h])]
theorem numsE_none {ms : List Mk} {ws : List (List UInt8)} {k : Nat} (hk : k < ms.length) (h : nthU ms ws k = none) : numsE ms ws = 10 := by
  unfold numsE numsB
  rw [if_neg]
  rw [Bool.and_eq_true, not_and]
  intro _ ha
  rw [List.all_eq_true] at ha
  have := ha k (by simpa using hk)
  rw [h] at this
  cases this
theorem numsB_of {ms : List Mk} {ws : List (List UInt8)} (hl : ws.length = ms.length) (h : ∀ j, j < ms.length → (nthU ms ws j).isSome = true) : numsB ms ws = true := by
  unfold numsB
  rw [Bool.and_eq_true, decide_eq_true_eq, List.all_eq_true]
  exact ⟨hl, fun j hj => h j (by simpa using hj)⟩
theorem numsE_of {ms : List Mk} {ws : List (List UInt8)} (hl : ws.length = ms.length) (h : ∀ j, j < ms.length → (nthU ms ws j).isSome = true) : numsE ms ws = if (List.range ms.length).all (fitU ms ws) then 0 else 4 := by
  unfold numsE
  rw [if_pos (numsB_of hl h)]
theorem numsV_len (ms : List Mk) (ws : List (List UInt8)) : (numsV ms ws).length = ms.length := by simp [numsV]
theorem numsV_at {ms : List Mk} {ws : List (List UInt8)} {k : Nat} (hk : k < ms.length) : (numsV ms ws)[k]? = some ((nthU ms ws k).getD 0) := by simp [numsV, hk]
theorem numsV_lt {ms : List Mk} {ws : List (List UInt8)} (h : numsE ms ws = 0) {k : Nat} (hk : k < ms.length) : (numsV ms ws).getD k 0 < limU (ms.getD k ([], false)).2 := by
  unfold numsE at h
  split at h
  · split at h
    · rename_i ha
      rw [List.all_eq_true] at ha
      have := ha k (by simpa using hk)
      unfold fitU at this
      rw [decide_eq_true_eq] at this
      rw [List.getD_eq_getElem?_getD, numsV_at hk]
      exact this
    · cases h
  · cases h

/-- The operation of a name. -/
def opU (w : List UInt8) : Option Nat := (List.range 25).find? fun k => nameT (k : Int) == w
theorem opU_some {w : List UInt8} {k : Nat} (h : opU w = some k) : k < 25 ∧ nameT (k : Int) = w := by
  unfold opU at h
  have h1 := List.mem_of_find?_eq_some h
  have h2 := List.find?_some h
  exact ⟨by simpa using h1, by simpa using h2⟩
theorem opU_none {w : List UInt8} (h : ∀ k : Nat, k < 25 → nameT (k : Int) ≠ w) : opU w = none := by
  unfold opU
  rw [List.find?_eq_none]
  intro k hk
  simpa using h k (by simpa using hk)
theorem name_inj : ∀ j k : Fin 25, nameT (j.val : Int) = nameT (k.val : Int) → j = k := by decide
theorem opU_name {w : List UInt8} {k : Nat} (hk : k < 25) (h : nameT (k : Int) = w) : opU w = some k := by
  cases e : opU w with
  | none =>
    unfold opU at e
    rw [List.find?_eq_none] at e
    have := e k (by simpa using hk)
    simp [h] at this
  | some j =>
    obtain ⟨hj, ej⟩ := opU_some e
    have := name_inj ⟨j, hj⟩ ⟨k, hk⟩ (ej.trans h.symm)
    injection this with this
    rw [this]
/-- The marks of an operation's operands. -/
def letU (c : UInt8) : Mk := (if c = 105 then [] else [c], c == 105)
def marksU (k : Nat) : List Mk := (lettT (k : Int)).map letU
/-- The instruction of an operation and its numbers. -/
def insU (k : Nat) (vs : List Nat) : Ins :=
  ⟨k, if (shpOf k).1 ≠ 0 then vs.getD 0 0 else 0, if (shpOf k).2.1 ≠ 0 then vs.getD 1 0 else 0, if (shpOf k).2.2.1 ≠ 0 then vs.getD 2 0 else 0, if (shpOf k).2.2.2 then vs.getD (if (shpOf k).1 ≠ 0 then 1 else 0) 0 else 0⟩
def kwF : List UInt8 := [102, 117, 110, 99]
def kwS : List UInt8 := [115, 108, 111, 116]
def mkN : List Mk := [([], false)]
def mkNN : List Mk := [([], false), ([], false)]
/-- A line with words, read into a program: the error, the program behind it. -/
def funcU (F : Pg) (r : List (List UInt8)) : Int × Pg := if numsE mkN r = 0 then (0, F ++ [⟨(numsV mkN r).getD 0 0, [], []⟩]) else (numsE mkN r, F)
def slotU (F : Pg) (f : Fn) (r : List (List UInt8)) : Int × Pg :=
  if f.code ≠ [] then (10, F) else if numsE mkNN r = 0 then (0, F.dropLast ++ [⟨f.params, f.slots ++ [(((numsV mkNN r).getD 0 0 : Int), ((numsV mkNN r).getD 1 0 : Int))], f.code⟩]) else (numsE mkNN r, F)
def instU (F : Pg) (f : Fn) (w : List UInt8) (r : List (List UInt8)) : Int × Pg := match opU w with
  | none => (10, F)
  | some k => if numsE (marksU k) r = 0 then (0, F.dropLast ++ [⟨f.params, f.slots, f.code ++ [insU k (numsV (marksU k) r)]⟩]) else (numsE (marksU k) r, F)
def lineU (F : Pg) (ws : List (List UInt8)) : Int × Pg := match ws with
  | [] => (0, F)
  | w :: r => if w = kwF then funcU F r else match F.getLast? with
    | none => (10, F)
    | some f => if w = kwS then slotU F f r else instU F f w r
def lnU (F : Pg) (s : List UInt8) : Int × Pg := lineU F (wordsU (s.takeWhile (· != 10)))
/-- Lines, read into a program behind n lines: the line that has an error, the error, the program. -/
def runU (F : Pg) (n : Nat) (s : List UInt8) : Nat × Int × Pg :=
  if (lnU F s).1 ≠ 0 then (n + 1, (lnU F s).1, []) else
  match _h : s.dropWhile (· != 10) with
  | [] => (0, 0, (lnU F s).2)
  | _ :: t => runU (lnU F s).2 (n + 1) t
termination_by s.length
decreasing_by
  have h1 := (List.dropWhile_suffix (l := s) (· != 10)).length_le
  rw [_h, List.length_cons] at h1
  omega
theorem runU_bad {F : Pg} {n : Nat} {s : List UInt8} (h : (lnU F s).1 ≠ 0) : runU F n s = (n + 1, (lnU F s).1, []) := by
  rw [runU, if_pos h]
theorem runU_last {F : Pg} {n : Nat} {s : List UInt8} (h : (lnU F s).1 = 0) (hd : s.dropWhile (· != 10) = []) : runU F n s = (0, 0, (lnU F s).2) := by
  rw [runU, if_neg (by simp [h])]; split
  · rfl
  · rename_i e; rw [hd] at e; cases e
theorem runU_more {F : Pg} {n : Nat} {s : List UInt8} {c : UInt8} {t : List UInt8} (h : (lnU F s).1 = 0) (hd : s.dropWhile (· != 10) = c :: t) : runU F n s = runU (lnU F s).2 (n + 1) t := by
  rw [runU, if_neg (by simp [h])]; split
  · rename_i e; rw [hd] at e; cases e
  · rename_i e; rw [hd] at e; injection e with _ e; subst e; rfl
theorem runU_nil (F : Pg) (n : Nat) : runU F n [] = (0, 0, F) := runU_last rfl rfl
/-- What Parse gives: the line, the error, the program. -/
def parseU (s : List UInt8) : Nat × Int × Pg :=
  if 65536 < s.length then (0, 3, []) else
  let r := runU [] 0 s
  if r.2.1 ≠ 0 then r else if pgE r.2.2 ≠ 0 then (0, pgE r.2.2, []) else (0, 0, r.2.2)
end Go.Proofs.YtlhaendgdeflkaaGreatDoor
end

section
/-
  Strings read: a byte at a place, a part of a string, as facts for the walks; words as cells. No function of the program is named here.
-/
namespace Go.Proofs.YtlhaendgdeflkaaGreatDoor
open Go.RowKit

theorem str_size (S : List UInt8) : (⟨S.toArray⟩ : ByteArray).size = S.length := by simp [ByteArray.size]
/-- The byte at place i. -/
theorem idx_at {S : List UInt8} {i : Nat} {c : UInt8} (h : S[i]? = some c) (ci : Int) (e : ci = (c.toNat : Int)) (W : World) : (Instr.index 9 (.string ⟨S.toArray⟩) (.int .i64 (i : Int))).run Tryz.prog W = .ok (.int .u8 ci) W := by
  obtain ⟨hi, hc⟩ := List.getElem?_eq_some_iff.1 h
  have hs : i < (⟨S.toArray⟩ : ByteArray).size := by rw [str_size]; exact hi
  rw [run_index_string W 9 _ .i64 (i : Int) Tryz.underlying9, dif_pos ⟨by omega, by omega⟩]
  have : (⟨S.toArray⟩ : ByteArray)[((i : Int)).toNat]'(by simpa using hs) = c := by
    rw [← hc]
    simp only [Int.toNat_natCast]
    rfl
  rw [this, e]
/-- The first i bytes. -/
theorem slc_to {S : List UInt8} {i : Nat} (h : i ≤ S.length) (W : World) : (Instr.sliceAt 9 (.string ⟨S.toArray⟩) none (some (.int .i64 (i : Int))) none).run Tryz.prog W = .ok (.string ⟨(S.take i).toArray⟩) W := by
  rw [run_sliceAt_string W 9 _ _ _ _ Tryz.underlying9, run_slice_string_h W 9 _ Tryz.underlying9 .i64 (i : Int) (by omega) (by rw [str_size]; omega), ByteArray.extract_mk]
  simp
/-- From place i on. -/
theorem slc_from {S : List UInt8} {i : Nat} (h : i ≤ S.length) (W : World) : (Instr.sliceAt 9 (.string ⟨S.toArray⟩) (some (.int .i64 (i : Int))) none none).run Tryz.prog W = .ok (.string ⟨(S.drop i).toArray⟩) W := by
  rw [run_sliceAt_string W 9 _ _ _ _ Tryz.underlying9, run_slice_string_l W 9 _ Tryz.underlying9 .i64 (i : Int) (by omega) (by rw [str_size]; omega), ByteArray.extract_mk, str_size]
  have e : ((S.drop ((i : Int)).toNat).take (S.length - ((i : Int)).toNat)) = S.drop i := by
    rw [Int.toNat_natCast, List.take_of_length_le (by rw [List.length_drop]; exact Nat.le_refl _)]
  rw [e]
/-- From place i to place j. -/
theorem slc_mid {S : List UInt8} {i j : Nat} (h : i ≤ j) (hj : j ≤ S.length) (jz : Int) (ej : jz = (j : Int)) (W : World) : (Instr.sliceAt 9 (.string ⟨S.toArray⟩) (some (.int .i64 (i : Int))) (some (.int .i64 jz)) none).run Tryz.prog W = .ok (.string ⟨((S.drop i).take (j - i)).toArray⟩) W := by
  subst ej
  rw [run_sliceAt_string W 9 _ _ _ _ Tryz.underlying9, run_slice_string W 9 _ .i64 .i64 (i : Int) (j : Int) Tryz.underlying9 (by omega) (by omega) (by rw [str_size]; omega), ByteArray.extract_mk]
  simp
theorem drop_one {S : List UInt8} {i : Nat} {c : UInt8} (h : S[i]? = some c) : (S.drop i).take 1 = [c] := by
  obtain ⟨hi, hc⟩ := List.getElem?_eq_some_iff.1 h
  rw [List.drop_eq_getElem_cons hi, hc]; rfl
theorem byte_z (c : UInt8) (k : Nat) (hk : k < 256) : ((c.toNat : Int) = (k : Int)) ↔ c = UInt8.ofNat k := by
  have h1 : (UInt8.ofNat k).toNat = k := by simp [UInt8.toNat_ofNat, Nat.mod_eq_of_lt hk]
  refine ⟨fun e => ?_, fun e => ?_⟩
  · apply UInt8.toNat_inj.1; omega
  · rw [e, h1]

/-- What a function that gives words gives. -/
def WordsPost (ws : List (List UInt8)) (w : World) (e : Ending) (w' : World) : Prop :=
  ∃ v, e = .returned v ∧ w'.ownsRow w.heap.size 9 1 v ws.length (wcells ws) ∧ Below w.heap.size w w'
end Go.Proofs.YtlhaendgdeflkaaGreatDoor
end
