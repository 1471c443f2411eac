import Derived.Test.YtlhaendgdeflkaaGreatDoorMHa
import Derived.Test.YtlhaendgdeflkaaGreatDoorMGv
import Derived.Test.YtlhaendgdeflkaaGreatDoorMGw
import Derived.Test.YtlhaendgdeflkaaGreatDoorMHi
import Derived.Test.YtlhaendgdeflkaaGreatDoorMGy
set_option linter.unusedVariables false
set_option linter.unusedSimpArgs false
section
/-
  The words of a text's lines, read byte by byte (chapter 7): blanks and comments put in change nothing; what reading lines makes of them.
-/
namespace Go.Proofs.YtlhaendgdeflkaaGreatDoor
open Go.RowKit

/-- Lines with words so far; the line's words; the word; whether a comment has begun. -/
structure DocS where
  ds : List (List (List UInt8))
  ws : List (List UInt8)
  w : List UInt8
  cm : Bool
def lineD (ws : List (List UInt8)) : List (List (List UInt8)) := if ws = [] then [] else [ws]
def stepB (s : DocS) (c : UInt8) : DocS :=
  if c = 10 then ⟨s.ds ++ lineD (s.ws ++ flushU s.w), [], [], false⟩
  else if s.cm then s
  else if c = 35 then ⟨s.ds, s.ws ++ flushU s.w, [], true⟩
  else if blankC c then ⟨s.ds, s.ws ++ flushU s.w, [], false⟩
  else ⟨s.ds, s.ws, s.w ++ [c], false⟩
def endS (s : DocS) : List (List (List UInt8)) := s.ds ++ lineD (s.ws ++ flushU s.w)
def initS : DocS := ⟨[], [], [], false⟩
def docU (l : List UInt8) : List (List (List UInt8)) := endS (l.foldl stepB initS)
/-- What the loosening puts in. -/
theorem loose_line (s : DocS) : [32, 35, 32, 120, 32, 10, 10, 9].foldl stepB s = stepB s 10 := by
  obtain ⟨ds, ws, w, cm⟩ := s
  cases cm <;> simp [stepB, flush_nil, lineD, blankC]
theorem loose_blank (s : DocS) : [32, 9, 32].foldl stepB s = stepB s 32 := by
  obtain ⟨ds, ws, w, cm⟩ := s
  cases cm <;> simp [stepB, flush_nil, blankC]
/-- A comment to its line's end. -/
theorem doc_note (ds : List (List (List UInt8))) (ws : List (List UInt8)) (w : List UInt8) : ∀ l : List UInt8, (∀ c ∈ l, c ≠ 10) → l.foldl stepB ⟨ds, ws, w, true⟩ = ⟨ds, ws, w, true⟩
  | [], _ => rfl
  | c :: r, h => by
    have h1 : c ≠ 10 := h c (by simp)
    rw [List.foldl_cons, show stepB ⟨ds, ws, w, true⟩ c = ⟨ds, ws, w, true⟩ by simp [stepB, h1]]
    exact doc_note ds ws w r (fun c hc => h c (by simp [hc]))
/-- A line. -/
theorem doc_line (ds : List (List (List UInt8))) : ∀ (l : List UInt8) (ws : List (List UInt8)) (w : List UInt8), (∀ c ∈ l, c ≠ 10) → ∃ ws' w' cm, l.foldl stepB ⟨ds, ws, w, false⟩ = ⟨ds, ws', w', cm⟩ ∧ ws' ++ flushU w' = ws ++ splU w l
  | [], ws, w, _ => ⟨ws, w, false, rfl, rfl⟩
  | c :: r, ws, w, h => by
    have h1 : c ≠ 10 := h c (by simp)
    have hr : ∀ c ∈ r, c ≠ 10 := fun c hc => h c (by simp [hc])
    rw [List.foldl_cons]
    by_cases h35 : c = 35
    · subst h35
      rw [show stepB ⟨ds, ws, w, false⟩ 35 = ⟨ds, ws ++ flushU w, [], true⟩ by simp [stepB], doc_note _ _ _ r hr]
      exact ⟨_, _, _, rfl, by rw [flush_nil, List.append_nil]; simp [splU]⟩
    · by_cases hb : blankC c = true
      · rw [show stepB ⟨ds, ws, w, false⟩ c = ⟨ds, ws ++ flushU w, [], false⟩ by simp [stepB, h1, h35, hb]]
        obtain ⟨ws', w', cm, e1, e2⟩ := doc_line ds r (ws ++ flushU w) [] hr
        exact ⟨ws', w', cm, e1, by rw [e2, List.append_assoc]; simp [splU, h35, hb]⟩
      · have hb' : blankC c = false := by simpa using hb
        rw [show stepB ⟨ds, ws, w, false⟩ c = ⟨ds, ws, w ++ [c], false⟩ by simp [stepB, h1, h35, hb']]
        obtain ⟨ws', w', cm, e1, e2⟩ := doc_line ds r ws (w ++ [c]) hr
        exact ⟨ws', w', cm, e1, by rw [e2]; simp [splU, h35, hb']⟩
/-- Lines read before stay in front. -/
theorem doc_front (d0 : List (List (List UInt8))) : ∀ (l : List UInt8) (s : DocS), l.foldl stepB ⟨d0 ++ s.ds, s.ws, s.w, s.cm⟩ = ⟨d0 ++ (l.foldl stepB s).ds, (l.foldl stepB s).ws, (l.foldl stepB s).w, (l.foldl stepB s).cm⟩
  | [], _ => rfl
  | c :: r, s => by
    rw [List.foldl_cons, List.foldl_cons, ← doc_front d0 r (stepB s c)]
    congr 1
    unfold stepB
    (repeat' split) <;> simp_all
theorem doc_more {t r : List UInt8} (h : ∀ c ∈ t, c ≠ 10) : docU (t ++ 10 :: r) = lineD (wordsU t) ++ docU r := by
  unfold docU
  obtain ⟨ws', w', cm, e1, e2⟩ := doc_line [] t [] [] h
  rw [List.foldl_append, show initS = ⟨[], [], [], false⟩ from rfl, e1, List.foldl_cons, show stepB ⟨[], ws', w', cm⟩ 10 = ⟨lineD (wordsU t), [], [], false⟩ by simp [stepB, e2, wordsU]]
  have := doc_front (lineD (wordsU t)) r ⟨[], [], [], false⟩
  simp only [List.append_nil] at this
  rw [this]
  unfold endS
  rw [List.append_assoc]
theorem doc_last {t : List UInt8} (h : ∀ c ∈ t, c ≠ 10) : docU t = lineD (wordsU t) := by
  unfold docU
  obtain ⟨ws', w', cm, e1, e2⟩ := doc_line [] t [] [] h
  rw [show initS = ⟨[], [], [], false⟩ from rfl, e1]
  unfold endS
  rw [show ws' ++ flushU w' = wordsU t by rw [e2]; rfl]
  rfl
/-- Lines read one after another. -/
def foldU (F : Pg) : List (List (List UInt8)) → Option Pg
  | [] => some F
  | ws :: r => if (lineU F ws).1 = 0 then foldU (lineU F ws).2 r else none
theorem foldU_line {F G : Pg} {ws : List (List UInt8)} {r : List (List (List UInt8))} (h : foldU F (lineD ws ++ r) = some G) : (lineU F ws).1 = 0 ∧ foldU (lineU F ws).2 r = some G := by
  unfold lineD at h
  by_cases hw : ws = []
  · subst hw
    exact ⟨rfl, show foldU F r = some G by simpa using h⟩
  · rw [if_neg hw] at h
    simp only [List.cons_append, List.nil_append, foldU] at h
    by_cases hz : (lineU F ws).1 = 0
    · rw [if_pos hz] at h; exact ⟨hz, h⟩
    · rw [if_neg hz] at h; cases h
theorem take_no : ∀ (l : List UInt8), ∀ c ∈ l.takeWhile (· != 10), c ≠ 10
  | [], c, h => by simp at h
  | a :: r, c, h => by
    rw [List.takeWhile_cons] at h
    by_cases ha : (a != 10) = true
    · rw [if_pos ha] at h
      rcases List.mem_cons.1 h with rfl | h
      · simpa using ha
      · exact take_no r c h
    · rw [if_neg ha] at h; cases h
theorem run_doc : ∀ (k : Nat) (l : List UInt8), l.length ≤ k → ∀ (F G : Pg) (n : Nat), foldU F (docU l) = some G → runU F n l = (0, 0, G) := by
  intro k
  induction k with
  | zero =>
    intro l hl F G n h
    have : l = [] := List.eq_nil_of_length_eq_zero (by omega)
    subst this
    rw [runU_nil]
    have : foldU F [] = some G := h
    injection this with this
    rw [this]
  | succ k ih =>
    intro l hl F G n h
    cases hd : l.dropWhile (· != 10) with
    | nil =>
      have hl2 : l.takeWhile (· != 10) = l := by
        have := List.takeWhile_append_dropWhile (p := (· != 10)) (l := l)
        rwa [hd, List.append_nil] at this
      have hno : ∀ c ∈ l, c ≠ 10 := by rw [← hl2]; exact take_no l
      rw [doc_last hno, ← List.append_nil (lineD _)] at h
      obtain ⟨h1, h2⟩ := foldU_line h
      have e : lnU F l = lineU F (wordsU l) := by unfold lnU; rw [hl2]
      rw [runU_last (by rw [e]; exact h1) hd, e]
      injection h2 with h2
      rw [h2]
    | cons c t =>
      have hc : c = 10 := by
        have := List.head?_dropWhile_not (p := (· != 10)) (l := l)
        rw [hd] at this
        simpa using this
      subst hc
      have hsplit : l = l.takeWhile (· != 10) ++ 10 :: t := by
        have := List.takeWhile_append_dropWhile (p := (· != 10)) (l := l)
        rw [hd] at this
        exact this.symm
      rw [hsplit, doc_more (take_no l)] at h
      obtain ⟨h1, h2⟩ := foldU_line h
      have e : lnU F l = lineU F (wordsU (l.takeWhile (· != 10))) := rfl
      rw [runU_more (by rw [e]; exact h1) hd, e]
      refine ih t ?_ _ G _ h2
      have h6 := (List.dropWhile_suffix (l := l) (· != 10)).length_le
      rw [hd, List.length_cons] at h6
      omega
end Go.Proofs.YtlhaendgdeflkaaGreatDoor
end

section
/-
  The words of the lines that Format writes (chapter 7).
-/
namespace Go.Proofs.YtlhaendgdeflkaaGreatDoor
open Go.RowKit

/-- A word: no blank, no newline, no comment, not empty. -/
def WordC (x : List UInt8) : Prop := x ≠ [] ∧ ∀ c ∈ x, c ≠ 35 ∧ blankC c = false
theorem splU_word (r : List UInt8) : ∀ (x w : List UInt8), (∀ c ∈ x, c ≠ 35 ∧ blankC c = false) → splU w (x ++ r) = splU (w ++ x) r
  | [], w, _ => by simp
  | c :: x, w, h => by
    obtain ⟨h1, h2⟩ := h c (by simp)
    rw [List.cons_append, splU, if_neg h1, if_neg (by simp [h2]), splU_word r x (w ++ [c]) (fun d hd => h d (by simp [hd])), List.append_assoc]
    rfl
theorem splU_blank (w r : List UInt8) : splU w (32 :: r) = flushU w ++ splU [] r := by
  rw [splU, if_neg (by decide), if_pos (by decide)]
theorem words_tail : ∀ (l : List (List UInt8)) (w : List UInt8), w ≠ [] → (∀ x ∈ l, WordC x) → splU w (Lib.joinTail [32] l) = w :: l
  | [], w, hw, _ => by
    rw [show Lib.joinTail [32] [] = [] from rfl, splU]
    unfold flushU
    rw [if_neg hw]
  | x :: l, w, hw, h => by
    have hx := h x (by simp)
    rw [show Lib.joinTail [32] (x :: l) = 32 :: (x ++ Lib.joinTail [32] l) by simp [Lib.joinTail], splU_blank, splU_word _ _ _ hx.2, List.nil_append, words_tail l x hx.1 (fun y hy => h y (by simp [hy]))]
    unfold flushU
    rw [if_neg hw]
    rfl
theorem words_join (x : List UInt8) (l : List (List UInt8)) (h : ∀ y ∈ x :: l, WordC y) : wordsU (x ++ Lib.joinTail [32] l) = x :: l := by
  have hx := h x (by simp)
  unfold wordsU
  rw [splU_word _ _ _ hx.2, List.nil_append]
  exact words_tail l x hx.1 (fun y hy => h y (by simp [hy]))
end Go.Proofs.YtlhaendgdeflkaaGreatDoor
end

section
/-
  Digits in base ten, written and read again (chapter 7).
-/
namespace Go.Proofs.YtlhaendgdeflkaaGreatDoor
open Go.RowKit

theorem digT_nat (v : Nat) : (digT v).toNat = 48 + v % 10 := by
  have := u8_dig v
  omega
theorem dec_cases (v : Nat) : (v < 10 ∧ Lib.decDigits v = [digT v]) ∨ (10 ≤ v ∧ Lib.decDigits v = Lib.decDigits (v / 10) ++ [digT v]) := by
  by_cases h : v / 10 = 0
  · exact .inl ⟨by omega, dec_small h⟩
  · exact .inr ⟨by omega, dec_great h⟩
theorem dec_val : ∀ (n v : Nat), v ≤ n → valU (Lib.decDigits v) = v := by
  intro n
  induction n with
  | zero =>
    intro v hv
    rcases dec_cases v with ⟨h, e⟩ | ⟨h, _⟩
    · rw [e]; show 0 * 10 + ((digT v).toNat - 48) = v; rw [digT_nat]; omega
    · omega
  | succ n ih =>
    intro v hv
    rcases dec_cases v with ⟨h, e⟩ | ⟨h, e⟩
    · rw [e]; show 0 * 10 + ((digT v).toNat - 48) = v; rw [digT_nat]; omega
    · have h1 : valF 0 (Lib.decDigits (v / 10)) = v / 10 := ih (v / 10) (by omega)
      rw [e]
      show valF 0 (Lib.decDigits (v / 10) ++ [digT v]) = v
      rw [valF_snoc, h1, digT_nat]
      omega
theorem dec_len : ∀ (k v : Nat), v < 10 ^ (k + 1) → 1 ≤ (Lib.decDigits v).length ∧ (Lib.decDigits v).length ≤ k + 1 := by
  intro k
  induction k with
  | zero =>
    intro v hv
    rcases dec_cases v with ⟨h, e⟩ | ⟨h, _⟩
    · rw [e]; exact ⟨Nat.le_refl _, Nat.le_refl _⟩
    · omega
  | succ k ih =>
    intro v hv
    rcases dec_cases v with ⟨h, e⟩ | ⟨h, e⟩
    · rw [e]; exact ⟨Nat.le_refl _, by simp⟩
    · have h1 := ih (v / 10) (by rw [Nat.pow_succ] at hv; omega)
      rw [e, List.length_append]
      simp only [List.length_cons, List.length_nil]
      omega
theorem dec_first : ∀ (n v : Nat), v ≤ n → 0 < v → (Lib.decDigits v).getD 0 0 ≠ 48 := by
  intro n
  induction n with
  | zero => intro v hv h0; omega
  | succ n ih =>
    intro v hv h0
    rcases dec_cases v with ⟨h, e⟩ | ⟨h, e⟩
    · rw [e]
      show digT v ≠ 48
      intro hc
      have := digT_nat v
      rw [hc] at this
      have : (48 : UInt8).toNat = 48 := rfl
      omega
    · have h1 := ih (v / 10) (by omega) (by omega)
      have h2 : 1 ≤ (Lib.decDigits (v / 10)).length := by
        rcases dec_cases (v / 10) with ⟨_, e2⟩ | ⟨_, e2⟩ <;> rw [e2] <;> simp
      rw [e, List.getD_eq_getElem?_getD, List.getElem?_append_left (by omega), ← List.getD_eq_getElem?_getD]
      exact h1
theorem dec_dig : ∀ (n v : Nat), v ≤ n → ∀ c ∈ Lib.decDigits v, 48 ≤ c.toNat ∧ c.toNat ≤ 57 := by
  intro n
  induction n with
  | zero =>
    intro v hv c hc
    rcases dec_cases v with ⟨h, e⟩ | ⟨h, _⟩
    · rw [e] at hc
      have : c = digT v := by simpa using hc
      rw [this, digT_nat]; omega
    · omega
  | succ n ih =>
    intro v hv c hc
    rcases dec_cases v with ⟨h, e⟩ | ⟨h, e⟩
    · rw [e] at hc
      have : c = digT v := by simpa using hc
      rw [this, digT_nat]; omega
    · rw [e, List.mem_append] at hc
      rcases hc with hc | hc
      · exact ih (v / 10) (by omega) c hc
      · have : c = digT v := by simpa using hc
        rw [this, digT_nat]; omega
theorem dec_B {v : Nat} (h : v < 18446744073709551616) : decB (Lib.decDigits v) = true := by
  obtain ⟨h1, h2⟩ := dec_len 19 v (by omega)
  have h3 : (Lib.decDigits v).length = 1 ∨ (Lib.decDigits v).getD 0 0 ≠ 48 := by
    rcases Nat.eq_zero_or_pos v with h0 | h0
    · left
      rcases dec_cases v with ⟨_, e⟩ | ⟨h4, _⟩
      · rw [e]; rfl
      · omega
    · exact .inr (dec_first v v (Nat.le_refl _) h0)
  have h4 : (Lib.decDigits v).all digC = true := List.all_eq_true.2 (fun c hc => by
    have := dec_dig v v (Nat.le_refl _) c hc
    unfold digC
    simp only [Bool.and_eq_true, decide_eq_true_eq]
    exact this)
  unfold decB
  simp only [Bool.and_eq_true, Bool.or_eq_true, decide_eq_true_eq]
  exact ⟨⟨⟨h1, h2⟩, h3⟩, h4⟩
theorem num_dec (m : List UInt8) {v : Nat} (h : v < 18446744073709551616) : numU m (m ++ Lib.decDigits v) = some v := by
  unfold numU
  rw [List.drop_left, dec_B h, dec_val v v (Nat.le_refl _), show m.isPrefixOf (m ++ Lib.decDigits v) = true from List.isPrefixOf_iff_prefix.2 (List.prefix_append _ _)]
  rfl
theorem word_dec (m : List UInt8) (hm : ∀ c ∈ m, c ≠ 35 ∧ blankC c = false) (v : Nat) : WordC (m ++ Lib.decDigits v) := by
  refine ⟨fun e => ?_, fun c hc => ?_⟩
  · have h1 : 1 ≤ (Lib.decDigits v).length := by
      rcases dec_cases v with ⟨_, e2⟩ | ⟨_, e2⟩ <;> rw [e2] <;> simp
    have := congrArg List.length e
    rw [List.length_append, List.length_nil] at this
    omega
  · rcases List.mem_append.1 hc with hc | hc
    · exact hm c hc
    · obtain ⟨h1, h2⟩ := dec_dig v v (Nat.le_refl _) c hc
      refine ⟨fun e => ?_, ?_⟩
      · subst e; have : (35 : UInt8).toNat = 35 := rfl; omega
      · unfold blankC
        rw [Bool.or_eq_false_iff, beq_eq_false_iff_ne, beq_eq_false_iff_ne]
        constructor
        · intro e; subst e; have : (32 : UInt8).toNat = 32 := rfl; omega
        · intro e; subst e; have : (9 : UInt8).toNat = 9 := rfl; omega
end Go.Proofs.YtlhaendgdeflkaaGreatDoor
end

section
/-
  Operands as they are written, read again (chapter 7).
-/
namespace Go.Proofs.YtlhaendgdeflkaaGreatDoor
open Go.RowKit

def opsW (ms : List Mk) (vs : List Nat) : List (List UInt8) := List.zipWith (fun (m : Mk) v => m.1 ++ Lib.decDigits v) ms vs
theorem opsW_len {ms : List Mk} {vs : List Nat} (h : vs.length = ms.length) : (opsW ms vs).length = ms.length := by unfold opsW; rw [List.length_zipWith, h, Nat.min_self]
theorem lim_le (b : Bool) : limU b ≤ 18446744073709551616 := by cases b <;> decide
theorem nth_ops {ms : List Mk} {vs : List Nat} (h : vs.length = ms.length) (hb : ∀ k, k < ms.length → vs.getD k 0 < limU (ms.getD k ([], false)).2) {k : Nat} (hk : k < ms.length) : nthU ms (opsW ms vs) k = some (vs.getD k 0) := by
  have hv : k < vs.length := by omega
  have e1 : (opsW ms vs).getD k [] = (ms.getD k ([], false)).1 ++ Lib.decDigits (vs.getD k 0) := by
    unfold opsW
    rw [List.getD_eq_getElem?_getD, List.getElem?_zipWith, List.getD_eq_getElem?_getD, List.getD_eq_getElem?_getD, List.getElem?_eq_getElem hk, List.getElem?_eq_getElem hv]
    rfl
  unfold nthU
  rw [e1]
  exact num_dec _ (Nat.lt_of_lt_of_le (hb k hk) (lim_le _))
theorem nums_ok {ms : List Mk} {vs : List Nat} (h : vs.length = ms.length) (hb : ∀ k, k < ms.length → vs.getD k 0 < limU (ms.getD k ([], false)).2) : numsE ms (opsW ms vs) = 0 ∧ numsV ms (opsW ms vs) = vs := by
  have hB : numsB ms (opsW ms vs) = true := by
    unfold numsB
    rw [Bool.and_eq_true, decide_eq_true_eq]
    refine ⟨opsW_len h, List.all_eq_true.2 fun k hk => ?_⟩
    rw [nth_ops h hb (List.mem_range.1 hk)]
    rfl
  have hF : (List.range ms.length).all (fitU ms (opsW ms vs)) = true := List.all_eq_true.2 fun k hk => by
    unfold fitU
    rw [nth_ops h hb (List.mem_range.1 hk), decide_eq_true_eq]
    exact hb k (List.mem_range.1 hk)
  refine ⟨by unfold numsE; rw [if_pos hB, if_pos hF], List.ext_getElem? fun k => ?_⟩
  by_cases hk : k < ms.length
  · rw [numsV_at hk, nth_ops h hb hk, List.getD_eq_getElem?_getD, List.getElem?_eq_getElem (show k < vs.length by omega)]
    rfl
  · rw [List.getElem?_eq_none (by rw [numsV_len]; omega), List.getElem?_eq_none (by omega)]
end Go.Proofs.YtlhaendgdeflkaaGreatDoor
end

section
/-
  A line of words in a text (chapter 7).
-/
namespace Go.Proofs.YtlhaendgdeflkaaGreatDoor
open Go.RowKit

def WordN (x : List UInt8) : Prop := WordC x ∧ ∀ c ∈ x, c ≠ 10
theorem tail_no {l : List (List UInt8)} (h : ∀ y ∈ l, ∀ c ∈ y, c ≠ 10) : ∀ c ∈ Lib.joinTail [32] l, c ≠ 10 := by
  induction l with
  | nil => intro c hc; cases hc
  | cons x l ih =>
    intro c hc
    rw [show Lib.joinTail [32] (x :: l) = 32 :: (x ++ Lib.joinTail [32] l) by simp [Lib.joinTail]] at hc
    rcases List.mem_cons.1 hc with rfl | hc
    · decide
    · rcases List.mem_append.1 hc with hc | hc
      · exact h x (by simp) c hc
      · exact ih (fun y hy => h y (by simp [hy])) c hc
theorem doc_words (x : List UInt8) (l : List (List UInt8)) (r : List UInt8) (h : ∀ y ∈ x :: l, WordN y) : docU (x ++ Lib.joinTail [32] l ++ 10 :: r) = (x :: l) :: docU r := by
  have hno : ∀ c ∈ x ++ Lib.joinTail [32] l, c ≠ 10 := fun c hc => by
    rcases List.mem_append.1 hc with hc | hc
    · exact (h x (by simp)).2 c hc
    · exact tail_no (fun y hy => (h y (by simp [hy])).2) c hc
  rw [doc_more hno, words_join x l (fun y hy => (h y hy).1)]
  rfl
theorem word_decN (m : List UInt8) (hm : ∀ c ∈ m, c ≠ 35 ∧ blankC c = false) (hm2 : ∀ c ∈ m, c ≠ 10) (v : Nat) : WordN (m ++ Lib.decDigits v) := by
  refine ⟨word_dec m hm v, fun c hc => ?_⟩
  rcases List.mem_append.1 hc with hc | hc
  · exact hm2 c hc
  · obtain ⟨h1, h2⟩ := dec_dig v v (Nat.le_refl _) c hc
    intro e
    subst e
    have : (10 : UInt8).toNat = 10 := rfl
    omega
end Go.Proofs.YtlhaendgdeflkaaGreatDoor
end

section
/-
  The text that Format writes, read again (chapter 7): lines, functions, programs.
-/
namespace Go.Proofs.YtlhaendgdeflkaaGreatDoor
open Go.RowKit

/-- The numbers of an instruction's letters. -/
def valsU (x : Ins) : List Nat := (List.range (lettT x.op).length).map fun i => if (lettT x.op).getD i 0 = 105 then x.imm.toNat else (abcT x i).toNat
/-- An instruction as a right function has it. -/
structure InsR (x : Ins) : Prop where
  o0 : 0 ≤ x.op
  o1 : x.op < 25
  b : ∀ i, 0 ≤ abcT x i ∧ abcT x i ≤ 1024
  m0 : 0 ≤ x.imm
  m1 : x.imm ≤ 18446744073709551615
  ua : (shpOf x.op).1 = 0 → x.a = 0
  ub : (shpOf x.op).2.1 = 0 → x.b = 0
  uc : (shpOf x.op).2.2.1 = 0 → x.c = 0
  um : (shpOf x.op).2.2.2 = false → x.imm = 0
theorem opnd_unused {N : Nat} {f : Fn} {k n : Int} (h : opndE N f k n = 0) (hk : k = 0) : n = 0 := by
  have h1 := withB_true.1 (opndE_zero.1 h)
  subst hk
  have : cntV N f 0 = 1 := rfl
  omega
theorem insR_of {N : Nat} {f : Fn} {x : Ins} (h : insE N f x = 0) (hN : N ≤ 80) (hs : f.slots.length ≤ 512) (hp : f.params ≤ 8) (hc : f.code.length ≤ 1024) (hi : 0 ≤ x.imm ∧ x.imm ≤ 18446744073709551615) : InsR x := by
  obtain ⟨ho, e1, e2, e3, e4, _⟩ := insE_zero.1 h
  have b1 := opnd_small e1 (cntV_le hN hs hp hc)
  have b2 := opnd_small e2 (cntV_le hN hs hp hc)
  have b3 := opnd_small e3 (cntV_le hN hs hp hc)
  refine ⟨ho.1, ho.2, fun i => ?_, hi.1, hi.2, opnd_unused e1, opnd_unused e2, opnd_unused e3, fun hu => ?_⟩
  · unfold abcT
    split
    · exact b1
    · split
      · exact b2
      · exact b3
  · rcases e4 with e4 | e4
    · rw [hu] at e4; cases e4
    · exact e4
theorem itoa_of {n : Int} (h : 0 ≤ n) : Lib.itoa n = Lib.decDigits n.toNat := by
  have := Lib.itoa_nonneg n.toNat
  rwa [Int.toNat_of_nonneg h] at this
theorem umarks_len (k : Nat) : (marksU k).length = (lettT (k : Int)).length := by unfold marksU; rw [List.length_map]
theorem umarks_at {k i : Nat} (h : i < (lettT (k : Int)).length) : (marksU k)[i]? = some (letU ((lettT (k : Int)).getD i 0)) := by
  unfold marksU
  rw [List.getElem?_map, List.getElem?_eq_getElem h, List.getD_eq_getElem?_getD, List.getElem?_eq_getElem h]
  rfl
theorem vals_at {x : Ins} {i : Nat} (h : i < (lettT x.op).length) : (valsU x)[i]? = some (if (lettT x.op).getD i 0 = 105 then x.imm.toNat else (abcT x i).toNat) := by
  unfold valsU
  rw [List.getElem?_map, List.getElem?_range h]
  rfl
theorem vals_len (x : Ins) : (valsU x).length = (lettT x.op).length := by simp [valsU]
/-- The words behind the name are the numbers behind their marks. -/
theorem lwords_ops {x : Ins} (hx : InsR x) {k : Nat} (hk : x.op = (k : Int)) : lwordsT x (lettT x.op).length = opsW (marksU k) (valsU x) := by
  refine List.ext_getElem? fun i => ?_
  by_cases hi : i < (lettT x.op).length
  · unfold opsW
    rw [List.getElem?_zipWith, vals_at hi, umarks_at (by rwa [← hk]), ← hk]
    unfold lwordsT
    rw [List.getElem?_map, List.getElem?_range hi]
    show some (wordT x i ((lettT x.op).getD i 0)) = some _
    congr 1
    unfold wordT letU
    by_cases hc : (lettT x.op).getD i 0 = 105
    · rw [if_pos hc, if_pos hc, if_pos hc]
      rfl
    · rw [if_neg hc, if_neg hc, if_neg hc, itoa_of (hx.b i).1]
      rfl
  · rw [List.getElem?_eq_none (by rw [lwords_len]; omega), List.getElem?_eq_none]
    rw [opsW_len (by rw [vals_len, umarks_len, hk]), umarks_len, ← hk]
    omega
theorem vals_fit {x : Ins} (hx : InsR x) {k : Nat} (hk : x.op = (k : Int)) : ∀ j, j < (marksU k).length → (valsU x).getD j 0 < limU ((marksU k).getD j ([], false)).2 := fun j hj => by
  rw [umarks_len, ← hk] at hj
  have e1 : (valsU x).getD j 0 = if (lettT x.op).getD j 0 = 105 then x.imm.toNat else (abcT x j).toNat := by rw [List.getD_eq_getElem?_getD, vals_at hj]; rfl
  have e2 : (marksU k).getD j ([], false) = letU ((lettT x.op).getD j 0) := by rw [List.getD_eq_getElem?_getD, umarks_at (by rwa [← hk]), ← hk]; rfl
  rw [e1, e2]
  show (if (lettT x.op).getD j 0 = 105 then x.imm.toNat else (abcT x j).toNat) < limU (letU ((lettT x.op).getD j 0)).2
  by_cases hc : (lettT x.op).getD j 0 = 105
  · rw [if_pos hc, hc]
    show x.imm.toNat < 18446744073709551616
    have := hx.m0
    have := hx.m1
    omega
  · rw [if_neg hc]
    have h1 := hx.b j
    unfold letU limU
    rw [show ((lettT x.op).getD j 0 == 105) = false by simpa using hc]
    show (abcT x j).toNat < 2147483648
    omega
theorem ins_back {x : Ins} (hx : InsR x) {k : Nat} (hk : x.op = (k : Int)) : insU k (valsU x) = x := by
  have h25 : k < 25 := by have := hx.o1; omega
  obtain ⟨o, a, b, c, m⟩ := x
  dsimp only at hk
  subst hk
  have ha := (hx.b 0).1
  have hb := (hx.b 1).1
  have hc := (hx.b 2).1
  have hm := hx.m0
  have ua := hx.ua
  have ub := hx.ub
  have uc := hx.uc
  have um := hx.um
  clear hx
  dsimp only [abcT] at ha hb hc hm ua ub uc um
  simp only [if_true, if_false, show ¬ (1 : Nat) = 0 by decide, show ¬ (2 : Nat) = 0 by decide, show ¬ (2 : Nat) = 1 by decide] at ha hb hc
  have ea : ((a.toNat : Nat) : Int) = a := Int.toNat_of_nonneg ha
  have eb : ((b.toNat : Nat) : Int) = b := Int.toNat_of_nonneg hb
  have ec : ((c.toNat : Nat) : Int) = c := Int.toNat_of_nonneg hc
  have em : ((m.toNat : Nat) : Int) = m := Int.toNat_of_nonneg hm
  obtain ⟨q, hq⟩ : ∃ q : Fin 25, q.val = k := ⟨⟨k, h25⟩, rfl⟩
  subst hq
  match q with
  | ⟨0, _⟩ => obtain rfl := ub rfl; obtain rfl := uc rfl; exact congr (congr (congr (congr rfl ea) rfl) rfl) em
  | ⟨1, _⟩ => obtain rfl := uc rfl; obtain rfl := um rfl; exact congr (congr (congr (congr rfl ea) eb) rfl) rfl
  | ⟨2, _⟩ => obtain rfl := um rfl; exact congr (congr (congr (congr rfl ea) eb) ec) rfl
  | ⟨3, _⟩ => obtain rfl := um rfl; exact congr (congr (congr (congr rfl ea) eb) ec) rfl
  | ⟨4, _⟩ => obtain rfl := um rfl; exact congr (congr (congr (congr rfl ea) eb) ec) rfl
  | ⟨5, _⟩ => obtain rfl := um rfl; exact congr (congr (congr (congr rfl ea) eb) ec) rfl
  | ⟨6, _⟩ => obtain rfl := um rfl; exact congr (congr (congr (congr rfl ea) eb) ec) rfl
  | ⟨7, _⟩ => obtain rfl := um rfl; exact congr (congr (congr (congr rfl ea) eb) ec) rfl
  | ⟨8, _⟩ => obtain rfl := um rfl; exact congr (congr (congr (congr rfl ea) eb) ec) rfl
  | ⟨9, _⟩ => obtain rfl := um rfl; exact congr (congr (congr (congr rfl ea) eb) ec) rfl
  | ⟨10, _⟩ => obtain rfl := um rfl; exact congr (congr (congr (congr rfl ea) eb) ec) rfl
  | ⟨11, _⟩ => obtain rfl := um rfl; exact congr (congr (congr (congr rfl ea) eb) ec) rfl
  | ⟨12, _⟩ => obtain rfl := uc rfl; obtain rfl := um rfl; exact congr (congr (congr (congr rfl ea) eb) rfl) rfl
  | ⟨13, _⟩ => obtain rfl := ub rfl; obtain rfl := uc rfl; obtain rfl := um rfl; exact congr (congr (congr (congr rfl ea) rfl) rfl) rfl
  | ⟨14, _⟩ => obtain rfl := ub rfl; obtain rfl := uc rfl; obtain rfl := um rfl; exact congr (congr (congr (congr rfl ea) rfl) rfl) rfl
  | ⟨15, _⟩ => obtain rfl := uc rfl; obtain rfl := um rfl; exact congr (congr (congr (congr rfl ea) eb) rfl) rfl
  | ⟨16, _⟩ => obtain rfl := uc rfl; obtain rfl := um rfl; exact congr (congr (congr (congr rfl ea) eb) rfl) rfl
  | ⟨17, _⟩ => obtain rfl := uc rfl; obtain rfl := um rfl; exact congr (congr (congr (congr rfl ea) eb) rfl) rfl
  | ⟨18, _⟩ => obtain rfl := uc rfl; obtain rfl := um rfl; exact congr (congr (congr (congr rfl ea) eb) rfl) rfl
  | ⟨19, _⟩ => obtain rfl := uc rfl; obtain rfl := um rfl; exact congr (congr (congr (congr rfl ea) eb) rfl) rfl
  | ⟨20, _⟩ => obtain rfl := ub rfl; obtain rfl := uc rfl; obtain rfl := um rfl; exact congr (congr (congr (congr rfl ea) rfl) rfl) rfl
  | ⟨21, _⟩ => obtain rfl := uc rfl; obtain rfl := um rfl; exact congr (congr (congr (congr rfl ea) eb) rfl) rfl
  | ⟨22, _⟩ => obtain rfl := ub rfl; obtain rfl := uc rfl; obtain rfl := um rfl; exact congr (congr (congr (congr rfl ea) rfl) rfl) rfl
  | ⟨23, _⟩ => obtain rfl := ua rfl; obtain rfl := ub rfl; obtain rfl := uc rfl; obtain rfl := um rfl; rfl
  | ⟨24, _⟩ => obtain rfl := ua rfl; obtain rfl := ub rfl; obtain rfl := uc rfl; exact congr (congr (congr (congr rfl rfl) rfl) rfl) em
  | ⟨n + 25, hn⟩ => omega
theorem name_not : ∀ k : Fin 25, nameT (k.val : Int) ≠ kwF ∧ nameT (k.val : Int) ≠ kwS := by decide
theorem name_word : ∀ k : Fin 25, nameT (k.val : Int) ≠ [] ∧ ∀ c ∈ nameT (k.val : Int), c ≠ 35 ∧ c ≠ 10 ∧ blankC c = false := by decide
theorem lett_word : ∀ k : Fin 25, ∀ c ∈ lettT (k.val : Int), c ≠ 35 ∧ c ≠ 10 ∧ blankC c = false := by decide
/-- An instruction's line read. -/
theorem line_ins {x : Ins} (hx : InsR x) (G : Pg) (P : Int) (S : List (Int × Int)) (C : List Ins) : lineU (G ++ [⟨P, S, C⟩]) (wordsT x) = (0, G ++ [⟨P, S, C ++ [x]⟩]) := by
  have h25 : withB x.op 25 = true := withB_true.2 ⟨hx.o0, hx.o1⟩
  obtain ⟨k, hk⟩ := op25 h25
  rw [words_lett h25, lwords_ops hx hk]
  obtain ⟨n1, n2⟩ := name_not k
  have e1 := nums_ok (ms := marksU k.val) (vs := valsU x) (by rw [vals_len, umarks_len, hk]) (vals_fit hx hk)
  unfold lineU
  dsimp only
  rw [if_neg (by rw [hk]; exact n1), List.getLast?_concat]
  dsimp only
  rw [if_neg (by rw [hk]; exact n2)]
  unfold instU
  rw [opU_name k.isLt (by rw [hk])]
  dsimp only
  rw [if_pos e1.1, e1.2, ins_back hx hk, List.dropLast_concat]
theorem opsN (ms : List Mk) (vs : List Nat) (h : ∀ m ∈ ms, ∀ c ∈ m.1, c ≠ 35 ∧ c ≠ 10 ∧ blankC c = false) : ∀ y ∈ opsW ms vs, WordN y := fun y hy => by
  unfold opsW at hy
  obtain ⟨i, hi⟩ := List.getElem?_of_mem hy
  rw [List.getElem?_zipWith] at hi
  cases e1 : ms[i]? with
  | none => rw [e1] at hi; cases hi
  | some m =>
    cases e2 : vs[i]? with
    | none => rw [e1, e2] at hi; cases hi
    | some v =>
      rw [e1, e2] at hi
      injection hi with hi
      subst hi
      have hm := h m (List.mem_of_getElem? e1)
      exact word_decN m.1 (fun c hc => ⟨(hm c hc).1, (hm c hc).2.2⟩) (fun c hc => (hm c hc).2.1) v
theorem marksN (k : Fin 25) : ∀ m ∈ marksU k.val, ∀ c ∈ m.1, c ≠ 35 ∧ c ≠ 10 ∧ blankC c = false := fun m hm c hc => by
  unfold marksU at hm
  obtain ⟨d, hd, rfl⟩ := List.mem_map.1 hm
  unfold letU at hc
  split at hc
  · cases hc
  · have : c = d := by simpa using hc
    subst this
    exact lett_word k c hd
theorem doc_ins {x : Ins} (hx : InsR x) (r : List UInt8) : docU (codeT x ++ r) = wordsT x :: docU r := by
  have h25 : withB x.op 25 = true := withB_true.2 ⟨hx.o0, hx.o1⟩
  obtain ⟨k, hk⟩ := op25 h25
  have hw := words_lett h25
  have hl := lwords_ops hx hk
  have hn : ∀ y ∈ nameT x.op :: opsW (marksU k.val) (valsU x), WordN y := fun y hy => by
    rcases List.mem_cons.1 hy with rfl | hy
    · rw [hk]
      obtain ⟨h1, h2⟩ := name_word k
      exact ⟨⟨h1, fun c hc => ⟨(h2 c hc).1, (h2 c hc).2.2⟩⟩, fun c hc => (h2 c hc).2.1⟩
    · exact opsN _ _ (marksN k) y hy
  have e : codeT x ++ r = nameT x.op ++ Lib.joinTail [32] (opsW (marksU k.val) (valsU x)) ++ 10 :: r := by
    unfold codeT insT
    rw [if_pos h25, hw, hl, Lib.join_cons, List.append_assoc, List.append_assoc]
    simp
  rw [e, doc_words _ _ _ hn, hw, hl]
/-- A slot's line. -/
theorem doc_slot {s : Int × Int} (h1 : 0 ≤ s.1) (h2 : 0 ≤ s.2) (r : List UInt8) : docU (slotT s ++ r) = (kwS :: opsW mkNN [s.1.toNat, s.2.toNat]) :: docU r := by
  have hn : ∀ y ∈ kwS :: opsW mkNN [s.1.toNat, s.2.toNat], WordN y := fun y hy => by
    rcases List.mem_cons.1 hy with rfl | hy
    · exact ⟨⟨by decide, by decide⟩, by decide⟩
    · exact opsN _ _ (by decide) y hy
  have e : slotT s ++ r = kwS ++ Lib.joinTail [32] (opsW mkNN [s.1.toNat, s.2.toNat]) ++ 10 :: r := by
    unfold slotT
    rw [itoa_of h1, itoa_of h2]
    simp [opsW, mkNN, Lib.joinTail, kwS]
  rw [e, doc_words _ _ _ hn]
theorem doc_head {P : Int} (h1 : 0 ≤ P) (r : List UInt8) : docU (headT P ++ r) = (kwF :: opsW mkN [P.toNat]) :: docU r := by
  have hn : ∀ y ∈ kwF :: opsW mkN [P.toNat], WordN y := fun y hy => by
    rcases List.mem_cons.1 hy with rfl | hy
    · exact ⟨⟨by decide, by decide⟩, by decide⟩
    · exact opsN _ _ (by decide) y hy
  have e : headT P ++ r = kwF ++ Lib.joinTail [32] (opsW mkN [P.toNat]) ++ 10 :: r := by
    unfold headT
    rw [itoa_of h1]
    simp [opsW, mkN, Lib.joinTail, kwF]
  rw [e, doc_words _ _ _ hn]
theorem line_head {P : Int} (h1 : 0 ≤ P) (h2 : P < 2147483648) (G : Pg) : lineU G (kwF :: opsW mkN [P.toNat]) = (0, G ++ [⟨P, [], []⟩]) := by
  have e1 := nums_ok (ms := mkN) (vs := [P.toNat]) rfl (fun j hj => by
    have hj' : j < 1 := hj
    obtain rfl : j = 0 := by omega
    show P.toNat < 2147483648
    omega)
  unfold lineU
  dsimp only
  rw [if_pos rfl]
  unfold funcU
  rw [if_pos e1.1, e1.2]
  show ((0 : Int), G ++ [⟨((P.toNat : Nat) : Int), [], []⟩]) = _
  rw [Int.toNat_of_nonneg h1]
theorem uline_slot {s : Int × Int} (h1 : 0 ≤ s.1 ∧ s.1 < 2147483648) (h2 : 0 ≤ s.2 ∧ s.2 < 2147483648) (G : Pg) (P : Int) (S : List (Int × Int)) : lineU (G ++ [⟨P, S, []⟩]) (kwS :: opsW mkNN [s.1.toNat, s.2.toNat]) = (0, G ++ [⟨P, S ++ [s], []⟩]) := by
  have e1 := nums_ok (ms := mkNN) (vs := [s.1.toNat, s.2.toNat]) rfl (fun j hj => by
    have hj' : j < 2 := hj
    rcases (show j = 0 ∨ j = 1 by omega) with rfl | rfl
    · show s.1.toNat < 2147483648
      omega
    · show s.2.toNat < 2147483648
      omega)
  unfold lineU
  dsimp only
  rw [if_neg (by decide), List.getLast?_concat]
  dsimp only
  rw [if_pos rfl]
  unfold slotU
  rw [if_neg (by simp), if_pos e1.1, e1.2, List.dropLast_concat]
  show ((0 : Int), G ++ [⟨P, S ++ [(((s.1.toNat : Nat) : Int), ((s.2.toNat : Nat) : Int))], []⟩]) = _
  rw [Int.toNat_of_nonneg h1.1, Int.toNat_of_nonneg h2.1]
/-- A function as a right program has it. -/
structure FnR (f : Fn) : Prop where
  p : 0 ≤ f.params ∧ f.params ≤ 8
  s : ∀ u ∈ f.slots, (0 ≤ u.1 ∧ u.1 < 2147483648) ∧ (0 ≤ u.2 ∧ u.2 < 2147483648)
  c : ∀ x ∈ f.code, InsR x
theorem slR_of {s : Int × Int} (h : slotB s.1 s.2 = true) : (0 ≤ s.1 ∧ s.1 < 2147483648) ∧ (0 ≤ s.2 ∧ s.2 < 2147483648) := by
  unfold slotB szB at h
  rw [Bool.and_eq_true] at h
  have h1 := of_decide_eq_true h.1
  obtain ⟨k, hk, e⟩ := powB_iff.1 h.2
  have h2 := Nat.pow_le_pow_right (n := 2) (by decide) hk
  have h3 : ((2 ^ k : Nat) : Int) = (2 : Int) ^ k := by simp
  have h4 : (2 : Nat) ^ 24 = 16777216 := by decide
  rw [← h3] at e
  obtain ⟨q, hq⟩ : ∃ q : Nat, q = 2 ^ k := ⟨_, rfl⟩
  rw [← hq] at e h2
  rw [h4] at h2
  clear h3 hq
  exact ⟨⟨by omega, by omega⟩, by omega, by omega⟩
theorem fnR_of {N : Nat} {f : Fn} (h : fnE N f = 0) (hN : N ≤ 80) (hi : ∀ x ∈ f.code, 0 ≤ x.imm ∧ x.imm ≤ 18446744073709551615) : FnR f := by
  obtain ⟨hc, hs, hp, hx, _⟩ := fnE_zero.1 h
  have hl : f.slots.length ≤ 512 := by
    rcases Nat.lt_or_ge 512 f.slots.length with h1 | h1
    · rw [slotsE_many h1] at hs; cases hs
    · exact h1
  refine ⟨hp, fun s hm => ?_, fun x hm => insR_of (hx x hm) hN hl hp.2 hc (hi x hm)⟩
  rw [slotsE_few hl] at hs
  split at hs
  · cases hs
  · rename_i ha
    simp only [List.any_eq_true, not_exists, not_and, Bool.not_eq_true, Bool.not_eq_false'] at ha
    exact slR_of (by have := ha s hm; simpa using this)
theorem fold_slots (G : Pg) (P : Int) (r : List UInt8) : ∀ (l S : List (Int × Int)), (∀ u ∈ l, (0 ≤ u.1 ∧ u.1 < 2147483648) ∧ (0 ≤ u.2 ∧ u.2 < 2147483648)) → foldU (G ++ [⟨P, S, []⟩]) (docU (l.flatMap slotT ++ r)) = foldU (G ++ [⟨P, S ++ l, []⟩]) (docU r)
  | [], S, _ => by simp
  | s :: l, S, h => by
    obtain ⟨h1, h2⟩ := h s (by simp)
    rw [List.flatMap_cons, List.append_assoc, doc_slot h1.1 h2.1, foldU, uline_slot h1 h2, if_pos rfl, fold_slots G P r l (S ++ [s]) (fun u hu => h u (by simp [hu])), List.append_assoc]
    rfl
theorem fold_code (G : Pg) (P : Int) (S : List (Int × Int)) (r : List UInt8) : ∀ (l C : List Ins), (∀ x ∈ l, InsR x) → foldU (G ++ [⟨P, S, C⟩]) (docU (l.flatMap codeT ++ r)) = foldU (G ++ [⟨P, S, C ++ l⟩]) (docU r)
  | [], C, _ => by simp
  | x :: l, C, h => by
    have hx := h x (by simp)
    rw [List.flatMap_cons, List.append_assoc, doc_ins hx, foldU, line_ins hx, if_pos rfl, fold_code G P S r l (C ++ [x]) (fun u hu => h u (by simp [hu])), List.append_assoc]
    rfl
theorem fold_fn {f : Fn} (hf : FnR f) (G : Pg) (r : List UInt8) : foldU G (docU (fnT f ++ r)) = foldU (G ++ [f]) (docU r) := by
  have e : fnT f ++ r = headT f.params ++ (f.slots.flatMap slotT ++ (f.code.flatMap codeT ++ r)) := by unfold fnT; simp only [List.append_assoc]
  rw [e, doc_head hf.p.1, foldU, line_head hf.p.1 (by have := hf.p.2; omega), if_pos rfl]
  show foldU (G ++ [⟨f.params, [], []⟩]) _ = _
  rw [fold_slots G f.params _ f.slots [] hf.s, List.nil_append, fold_code G f.params f.slots r f.code [] hf.c, List.nil_append]
theorem fold_pg : ∀ (F G : Pg), (∀ f ∈ F, FnR f) → foldU G (docU (pgT F)) = some (G ++ F)
  | [], G, _ => by rw [List.append_nil]; rfl
  | f :: F, G, h => by
    rw [show pgT (f :: F) = fnT f ++ pgT F from List.flatMap_cons .., fold_fn (h f (by simp)), fold_pg F (G ++ [f]) (fun g hg => h g (by simp [hg])), List.append_assoc]
    rfl
/-- A text whose lines have the words that Format writes is read as the program. -/
theorem parse_doc {F : Pg} (h : pgE F = 0) (hi : ∀ f ∈ F, ∀ x ∈ f.code, 0 ≤ x.imm ∧ x.imm ≤ 18446744073709551615) {l : List UInt8} (hl : l.length ≤ 65536) (hd : docU l = docU (pgT F)) : parseU l = (0, 0, F) := by
  obtain ⟨h1, _, h2⟩ := pgE_zero.1 h
  have hr := run_doc l.length l (Nat.le_refl _) [] F 0 (by rw [hd, fold_pg F [] (fun f hf => fnR_of (h2 f hf) h1 (hi f hf))]; rfl)
  unfold parseU
  rw [if_neg (by omega)]
  dsimp only
  rw [hr]
  dsimp only
  rw [if_neg (by decide), if_neg (by rw [h]; decide)]
end Go.Proofs.YtlhaendgdeflkaaGreatDoor
end

section
/-
  The walk of the law on Parse and Format (chapter 7): for all choices it returns true, and what was in memory before the call is as it was. Conditions: those of the types; the listed tables lie as their initialisers lay them.
-/
namespace Go.Proofs.YtlhaendgdeflkaaGreatDoor
open Go.RowKit

theorem fold_snoc (l : List UInt8) (c : UInt8) : (l ++ [c]).foldl stepB initS = stepB (l.foldl stepB initS) c := by simp
theorem take_snoc {s : List UInt8} {i : Nat} {c : UInt8} (h : s[i]? = some c) : s.take (i + 1) = s.take i ++ [c] := by rw [List.take_add_one, h]; rfl
/-- One byte more, as it stands or loosened. -/
theorem loose_step {s l m : List UInt8} {i : Nat} {c : UInt8} (h : s[i]? = some c) (hl : l.foldl stepB initS = (s.take i).foldl stepB initS) (hm : ∀ S : DocS, m.foldl stepB S = stepB S c) : (l ++ m).foldl stepB initS = (s.take (i + 1)).foldl stepB initS := by
  rw [take_snoc h, fold_snoc, List.foldl_append, hl, hm]
theorem doc_eq {s l : List UInt8} (h : l.foldl stepB initS = (s.take s.length).foldl stepB initS) : docU l = docU s := by
  unfold docU
  rw [h, List.take_length]

set_option maxHeartbeats 8000000 in
set_option maxRecDepth 100000 in
theorem invtext_walk (A0 : Option Addr) (n0 c0 : Nat) (zs : List Int) (w : World) (h : Hid (BsAt w w.heap.size A0 n0 c0 zs)) (hT : Hid (Tabs w.heap.size w)) (hZ : Hid (Tabz w)) :
    Calls Tryz.prog 4 #[.slice A0 n0 c0] w fun e w' => e = .returned (.bool true) ∧ Below w.heap.size w w' := by
  have ca := awake_any w hT.out.p.here (hide hT.out.s)
  go_enter Tryz.func4, Tryz.ntmps4
  go_wp2_with fail
  refine ca.mono ?_
  rintro e w1 ⟨rfl, hb1⟩
  have B1 := hide hb1
  have C1 := hide (h.out.call hb1)
  clear ca hb1
  go_wp2_with fail
  refine (new_any A0 n0 c0 zs 300 w1 (hide C1.out.nil_) (hide C1.out.len) C1.out.nc (by have := C1.out.cm; have := C1.out.nc; omega) (by omega) (hide C1.out.see) (hide C1.out.byt)).mono ?_
  rintro e w2 ⟨rfl, hC2, hb2⟩
  have HC2 := hide hC2
  have B2 := hide (below_call B1.out hb2)
  have hg2 : w1.heap.size < w2.heap.size := hC2.lt
  have hgw : w.heap.size ≤ w1.heap.size := B1.out.size
  obtain ⟨g, hg⟩ : ∃ g, w1.heap.size = g := ⟨_, rfl⟩
  rw [hg] at HC2 hg2 hgw
  rw [hg]
  clear hC2 hb2 hg
  go_wp2_with fail
  refine (prog_any g 5 12 w2 HC2 (by omega) (by omega) (by omega)).mono ?_
  rintro e w3 ⟨AP, nP, cP, hsP, F, rfl, hpg, hgood, hC3, hG3⟩
  have HIM := hide (imm_good hgood)
  have HDT := hide (drawn_text hgood (by omega) (by omega))
  have HPE := hide hgood.err
  have B3 := hide (below_inner B2.out hG3 hgw)
  have hw3 : w2.heap.size ≤ w3.heap.size := hG3.size
  obtain ⟨P, hP⟩ : ∃ P, w3.heap.size = P := ⟨_, rfl⟩
  obtain ⟨W4, hW4⟩ : ∃ W4, w3.alloc (.cells #[.slice AP nP cP] 29) = W4 := ⟨_, rfl⟩
  have R4 := hide (show Row W4 P 29 [.slice AP nP cP] by rw [← hW4, ← hP]; exact Row.new w3 29 [.slice AP nP cP])
  have B4 := hide (show Below w.heap.size w W4 by rw [← hW4]; exact B3.out.alloc B3.out.size _)
  have G4 := hide (show PgAt W4 w2.heap.size W4.heap.size AP nP cP hsP F by rw [← hW4]; exact hpg.alloc _)
  have C4 := hide (show Codes W4 g by rw [← hW4]; exact hC3.alloc _)
  have hgP : g < P := by omega
  have p4 := R4.out.cell (k := 0) rfl
  have HW4 := hide hW4
  have HPP := hide hP
  clear hpg hgood hC3 hG3 hP hW4
  obtain ⟨s, hs⟩ : ∃ s, fmtT F = s := ⟨_, rfl⟩
  have hs1 : s.length ≤ 65000 := by rw [← hs, HDT.out.2.1]; exact HDT.out.2.2.2
  have HSP := hide (show s = pgT F by rw [← hs]; exact HDT.out.2.1)
  have HSS := hide hs
  have cf := dformat_any W4 w2.heap.size AP nP cP hsP F G4 HIM (hide ((hT.out.on B4.out).more B4.out.size)) (hide (hZ.out.s.below B4.out))
  unfold FmtPost at cf
  rw [HDT.out.1, hs] at cf
  have hsz : ((⟨s.toArray⟩ : ByteArray)).size = s.length := str_size _
  clear hs
  go_upto_region 5 with (fail)
  rw [HW4.out, HPP.out]
  clear HW4 HPP
  go_wp2_with fail
  refine cf.mono ?_
  rintro e w5 ⟨rfl, hb5⟩
  have B5 := hide (below_call B4.out hb5)
  have R5 := hide (R4.out.call hb5)
  have G5 := hide (G4.out.call hb5)
  have C5 := hide (C4.out.below hb5)
  clear cf p4 hb5
  have cp := dtp_any s w5 (by omega) (hide (hZ.out.below B5.out))
  unfold PtPost at cp
  have HPS := hide (parse_doc HPE.out HIM.out (l := s) (by omega) (by rw [HSP.out]))
  rw [HPS.out] at cp
  dsimp only at cp
  go_wp2_with fail
  refine cp.mono ?_
  rintro e w6 ⟨A6, n6, c6, hs6, rfl, hp6, hb6⟩
  obtain ⟨Q, hQ⟩ : ∃ Q, w6.heap.size = Q := ⟨_, rfl⟩
  obtain ⟨W7, hW7⟩ : ∃ W7, w6.alloc (.cells #[.slice A6 n6 c6] 29) = W7 := ⟨_, rfl⟩
  have B6 := hide (below_call B5.out hb6)
  have B7 := hide (show Below w.heap.size w W7 by rw [← hW7]; exact B6.out.alloc B6.out.size _)
  have R7 := hide (show Row W7 P 29 [.slice AP nP cP] by rw [← hW7]; exact (R5.out.call hb6).alloc _)
  have Q7 := hide (show Row W7 Q 29 [.slice A6 n6 c6] by rw [← hW7, ← hQ]; exact Row.new w6 29 [.slice A6 n6 c6])
  have G7 := hide (show PgAt W7 w2.heap.size W7.heap.size AP nP cP hsP F by rw [← hW7]; exact (G5.out.call hb6).alloc _)
  have H7 := hide (show PgAt W7 w5.heap.size W7.heap.size A6 n6 c6 hs6 F by rw [← hW7]; exact hp6.alloc _)
  have C7 := hide (show Codes W7 g by rw [← hW7]; exact (C5.out.below hb6).alloc _)
  have hg5 : g < w5.heap.size := C5.out.lt
  have hgQ : g < Q := by have := (C5.out.below hb6).lt; omega
  have HW7 := hide hW7
  have HQQ := hide hQ
  have q7 := Q7.out.cell (k := 0) rfl
  have cf := dformat_any W7 w5.heap.size A6 n6 c6 hs6 F H7 HIM (hide ((hT.out.on B7.out).more B7.out.size)) (hide (hZ.out.s.below B7.out))
  unfold FmtPost at cf
  rw [HDT.out.1, HSS.out] at cf
  clear hp6 hb6 cp hQ hW7
  go_upto_region 9 with (fail)
  rw [HW7.out, HQQ.out]
  clear HW7 HQQ
  go_wp2_with fail
  refine cf.mono ?_
  rintro e w8 ⟨rfl, hb8⟩
  have B8 := hide (below_call B7.out hb8)
  have R8 := hide (R7.out.call hb8)
  have Q8 := hide (Q7.out.call hb8)
  have G8 := hide (G7.out.call hb8)
  have H8 := hide (H7.out.call hb8)
  have C8 := hide (C7.out.below hb8)
  clear cf hb8 q7
  go_wp2_with fail
  go_loopw [12, 13, 56, 68] (fun lv iv _ _ wr => ∃ (i : Nat) (l : List UInt8), i ≤ s.length ∧ iv = .int .i64 (i : Int) ∧ lv = .string ⟨l.toArray⟩ ∧ Hid (l.length ≤ 8 * i ∧ l.foldl stepB initS = (s.take i).foldl stepB initS) ∧ Hid (Codes wr g) ∧ Hid (w8.grownBy wr (some g))) (fun _ iv _ _ _ => s.length - (intOf iv).toNat)
  case atStart => exact ⟨0, [], Nat.zero_le _, rfl, rfl, hide ⟨Nat.zero_le _, rfl⟩, C8, hide (World.grownBy.refl _ _)⟩
  case round =>
    obtain ⟨i, l, hi, rfl, rfl, hl, hcr, hgr⟩ := hrel
    have hll : l.length ≤ 520000 := by have := hl.out.1; omega
    have hlz : ((⟨l.toArray⟩ : ByteArray)).size = l.length := str_size _
    by_cases hlt : i < s.length
    · have hltz : (i : Int) < (s.length : Int) := by omega
      obtain ⟨c, hc⟩ : ∃ c, s[i]? = some c := ⟨_, List.getElem?_eq_getElem hlt⟩
      obtain ⟨ci, hci⟩ : ∃ ci : Int, ci = (c.toNat : Int) := ⟨_, rfl⟩
      have fx := fun W => idx_at hc ci hci W
      have f1 := fun W => slc_mid (S := s) (i := i) (j := i + 1) (by omega) (by omega) ((i : Int) + 1) (by omega) W
      rw [show i + 1 - i = 1 by omega, drop_one hc] at f1
      have HC := hide hc
      have cn := next_any g 3 wr hcr (by omega) (by omega)
      have k8 : ¬ 9223372036854775807 < l.length + 8 := by omega
      have k3 : ¬ 9223372036854775807 < l.length + 3 := by omega
      have k1 : ¬ 9223372036854775807 < l.length + 1 := by omega
      have e8 : ((⟨l.toArray⟩ : ByteArray) ++ ⟨#[32, 35, 32, 120, 32, 10, 10, 9]⟩) = ⟨(l ++ [32, 35, 32, 120, 32, 10, 10, 9]).toArray⟩ := cat_eq l [32, 35, 32, 120, 32, 10, 10, 9]
      have e3 : ((⟨l.toArray⟩ : ByteArray) ++ ⟨#[32, 9, 32]⟩) = ⟨(l ++ [32, 9, 32]).toArray⟩ := cat_eq l [32, 9, 32]
      have e1 : ((⟨l.toArray⟩ : ByteArray) ++ ⟨[c].toArray⟩) = ⟨(l ++ [c]).toArray⟩ := cat_eq l [c]
      obtain ⟨L8, hL8⟩ : ∃ L8, l ++ [32, 35, 32, 120, 32, 10, 10, 9] = L8 := ⟨_, rfl⟩
      obtain ⟨L3, hL3⟩ : ∃ L3, l ++ [32, 9, 32] = L3 := ⟨_, rfl⟩
      obtain ⟨L1, hL1⟩ : ∃ L1, l ++ [c] = L1 := ⟨_, rfl⟩
      rw [hL8] at e8
      rw [hL3] at e3
      rw [hL1] at e1
      have I8 := hide (fun (hc10 : c = 10) => (show L8.length ≤ 8 * (i + 1) ∧ L8.foldl stepB initS = (s.take (i + 1)).foldl stepB initS from ⟨by rw [← hL8, List.length_append]; have := hl.out.1; simp only [List.length_cons, List.length_nil]; omega, by rw [← hL8]; exact loose_step HC.out hl.out.2 (fun S => by rw [hc10]; exact loose_line S)⟩))
      have I3 := hide (fun (hc32 : c = 32) => (show L3.length ≤ 8 * (i + 1) ∧ L3.foldl stepB initS = (s.take (i + 1)).foldl stepB initS from ⟨by rw [← hL3, List.length_append]; have := hl.out.1; simp only [List.length_cons, List.length_nil]; omega, by rw [← hL3]; exact loose_step HC.out hl.out.2 (fun S => by rw [hc32]; exact loose_blank S)⟩))
      have I1 := hide (show L1.length ≤ 8 * (i + 1) ∧ L1.foldl stepB initS = (s.take (i + 1)).foldl stepB initS from ⟨by rw [← hL1, List.length_append]; have := hl.out.1; simp only [List.length_cons, List.length_nil]; omega, by rw [← hL1]; exact loose_step HC.out hl.out.2 (fun S => rfl)⟩)
      clear hL8 hL3 hL1 hc
      by_cases hc10 : c = 10
      · obtain rfl : ci = 10 := by rw [hci, hc10]; rfl
        have HC10 := hide hc10
        clear hci hc10
        go_wp2_with fail
        refine cn.mono ?_
        rintro e w' ⟨v, rfl, v0, v1, hC', hG', hS'⟩
        have CN := hide hC'
        have GN := hide (World.grownBy.trans hgr.out hG')
        clear cn hC' hG' hS'
        by_cases hv : v = 2
        · subst hv
          go_wp2_with fail
          go_roundw
          case rel => exact ⟨i + 1, L8, by omega, by go_num, rfl, hide (I8.out HC10.out), CN, GN⟩
          case measure => simp [intOf]; omega
        · have hvb : (v == 2) = false := by rw [beq_eq_false_iff_ne]; exact hv
          go_wp2_with fail
          go_roundw
          case rel => exact ⟨i + 1, L1, by omega, by go_num, rfl, I1, CN, GN⟩
          case measure => simp [intOf]; omega
      · have h10 : (ci == 10) = false := by rw [beq_eq_false_iff_ne]; intro e; exact hc10 ((byte_z c 10 (by omega)).1 (by rw [← hci, e]; rfl))
        by_cases hc32 : c = 32
        · obtain rfl : ci = 32 := by rw [hci, hc32]; rfl
          have HC32 := hide hc32
          clear hci hc32
          go_wp2_with fail
          refine cn.mono ?_
          rintro e w' ⟨v, rfl, v0, v1, hC', hG', hS'⟩
          have CN := hide hC'
          have GN := hide (World.grownBy.trans hgr.out hG')
          clear cn hC' hG' hS'
          by_cases hv : v = 2
          · subst hv
            go_wp2_with fail
            go_roundw
            case rel => exact ⟨i + 1, L3, by omega, by go_num, rfl, hide (I3.out HC32.out), CN, GN⟩
            case measure => simp [intOf]; omega
          · have hvb : (v == 2) = false := by rw [beq_eq_false_iff_ne]; exact hv
            go_wp2_with fail
            go_roundw
            case rel => exact ⟨i + 1, L1, by omega, by go_num, rfl, I1, CN, GN⟩
            case measure => simp [intOf]; omega
        · have h32 : (ci == 32) = false := by rw [beq_eq_false_iff_ne]; intro e; exact hc32 ((byte_z c 32 (by omega)).1 (by rw [← hci, e]; rfl))
          clear hci cn
          go_wp2_with fail
          go_roundw
          case rel => exact ⟨i + 1, L1, by omega, by go_num, rfl, I1, hcr, hgr⟩
          case measure => simp [intOf]; omega
    · have hltz : ¬ ((i : Int) < (s.length : Int)) := by omega
      have hiN : i = s.length := by omega
      have HD := hide (show docU l = docU s from doc_eq (by rw [hl.out.2, hiN]))
      have BR := hide (below_inner B8.out hgr.out hgw)
      have R9 := hide (R8.out.grown hgr.out (fun e => by injection e with e; omega))
      have Q9 := hide (Q8.out.grown hgr.out (fun e => by injection e with e; omega))
      have G9 := hide (G8.out.grown hgr.out hg2 (Nat.le_refl _))
      have H9 := hide (H8.out.grown hgr.out hg5 (Nat.le_refl _))
      have hsw : w8.heap.size ≤ wr.heap.size := hgr.out.size
      clear hiN
      by_cases hlong : 65536 < l.length
      · have hlgz : (65536 : Int) < (l.length : Int) := by omega
        have cp := dtp_any s wr (by omega) (hide (hZ.out.below BR.out))
        unfold PtPost at cp
        rw [HPS.out] at cp
        dsimp only at cp
        go_wp2_with fail
        refine cp.mono ?_
        rintro e w9 ⟨A9, n9, c9, hs9, rfl, hp9, hb9⟩
        obtain ⟨P9, hP9⟩ : ∃ P9, w9.heap.size = P9 := ⟨_, rfl⟩
        obtain ⟨V, hV⟩ : ∃ V, w9.alloc (.cells #[.slice A9 n9 c9] 29) = V := ⟨_, rfl⟩
        have BV := hide (show Below w.heap.size w V by rw [← hV]; exact (below_call BR.out hb9).alloc (below_call BR.out hb9).size _)
        have RV := hide (show Row V P 29 [.slice AP nP cP] by rw [← hV]; exact (R9.out.call hb9).alloc _)
        have QV := hide (show Row V Q 29 [.slice A6 n6 c6] by rw [← hV]; exact (Q9.out.call hb9).alloc _)
        have SV := hide (show Row V P9 29 [.slice A9 n9 c9] by rw [← hV, ← hP9]; exact Row.new w9 29 [.slice A9 n9 c9])
        have GV := hide (show PgAt V w2.heap.size V.heap.size AP nP cP hsP F by rw [← hV]; exact (((G9.out.more hsw (Nat.le_refl _)).call hb9).alloc _))
        have HV := hide (show PgAt V w5.heap.size V.heap.size A6 n6 c6 hs6 F by rw [← hV]; exact (((H9.out.more hsw (Nat.le_refl _)).call hb9).alloc _))
        have KV := hide (show PgAt V wr.heap.size V.heap.size A9 n9 c9 hs9 F by rw [← hV]; exact hp9.alloc _)
        have HVE := hide hV
        have HP9 := hide hP9
        clear hp9 hb9 hV hP9 cp
        go_upto_region 22 with (fail)
        rw [HVE.out, HP9.out]
        clear HVE HP9
        have t1 := RV.out.cell (k := 0) rfl
        have t2 := QV.out.cell (k := 0) rfl
        have t3 := SV.out.cell (k := 0) rfl
        have ce := rsame_any AP nP cP hsP F A6 n6 c6 hs6 F w2.heap.size w5.heap.size V.heap.size V.heap.size V GV HV (Nat.le_refl _) (Nat.le_refl _)
        rw [show decide (F = F) = true by simp] at ce
        go_wp2_with fail
        refine ce.mono ?_
        rintro e wf ⟨rfl, hbf⟩
        have BF := hide (below_call BV.out hbf)
        have GF := hide (GV.out.call hbf)
        have KF := hide (KV.out.call hbf)
        have t1 := (RV.out.call hbf).cell (k := 0) rfl
        have t3 := (SV.out.call hbf).cell (k := 0) rfl
        clear ce hbf t2
        have ce := rsame_any AP nP cP hsP F A9 n9 c9 hs9 F w2.heap.size wr.heap.size wf.heap.size wf.heap.size wf GF KF (Nat.le_refl _) (Nat.le_refl _)
        rw [show decide (F = F) = true by simp] at ce
        go_wp2_with fail
        refine ce.mono ?_
        rintro e wg ⟨rfl, hbg⟩
        have BG := hide (below_call BF.out hbg)
        clear ce hbg
        go_wp2_with fail
        go_ret
        exact ⟨rfl, BG.out⟩
      · have hlgz : ¬ ((65536 : Int) < (l.length : Int)) := by omega
        have HPL := hide (parse_doc HPE.out HIM.out (l := l) (by omega) (by rw [HD.out, HSP.out]))
        have cp := dtp_any l wr (by omega) (hide (hZ.out.below BR.out))
        unfold PtPost at cp
        rw [HPL.out] at cp
        dsimp only at cp
        go_wp2_with fail
        refine cp.mono ?_
        rintro e w9 ⟨A9, n9, c9, hs9, rfl, hp9, hb9⟩
        obtain ⟨P9, hP9⟩ : ∃ P9, w9.heap.size = P9 := ⟨_, rfl⟩
        obtain ⟨V, hV⟩ : ∃ V, w9.alloc (.cells #[.slice A9 n9 c9] 29) = V := ⟨_, rfl⟩
        have BV := hide (show Below w.heap.size w V by rw [← hV]; exact (below_call BR.out hb9).alloc (below_call BR.out hb9).size _)
        have RV := hide (show Row V P 29 [.slice AP nP cP] by rw [← hV]; exact (R9.out.call hb9).alloc _)
        have QV := hide (show Row V Q 29 [.slice A6 n6 c6] by rw [← hV]; exact (Q9.out.call hb9).alloc _)
        have SV := hide (show Row V P9 29 [.slice A9 n9 c9] by rw [← hV, ← hP9]; exact Row.new w9 29 [.slice A9 n9 c9])
        have GV := hide (show PgAt V w2.heap.size V.heap.size AP nP cP hsP F by rw [← hV]; exact (((G9.out.more hsw (Nat.le_refl _)).call hb9).alloc _))
        have HV := hide (show PgAt V w5.heap.size V.heap.size A6 n6 c6 hs6 F by rw [← hV]; exact (((H9.out.more hsw (Nat.le_refl _)).call hb9).alloc _))
        have KV := hide (show PgAt V wr.heap.size V.heap.size A9 n9 c9 hs9 F by rw [← hV]; exact hp9.alloc _)
        have HVE := hide hV
        have HP9 := hide hP9
        clear hp9 hb9 hV hP9 cp
        go_upto_region 22 with (fail)
        rw [HVE.out, HP9.out]
        clear HVE HP9
        have t1 := RV.out.cell (k := 0) rfl
        have t2 := QV.out.cell (k := 0) rfl
        have t3 := SV.out.cell (k := 0) rfl
        have ce := rsame_any AP nP cP hsP F A6 n6 c6 hs6 F w2.heap.size w5.heap.size V.heap.size V.heap.size V GV HV (Nat.le_refl _) (Nat.le_refl _)
        rw [show decide (F = F) = true by simp] at ce
        go_wp2_with fail
        refine ce.mono ?_
        rintro e wf ⟨rfl, hbf⟩
        have BF := hide (below_call BV.out hbf)
        have GF := hide (GV.out.call hbf)
        have KF := hide (KV.out.call hbf)
        have t1 := (RV.out.call hbf).cell (k := 0) rfl
        have t3 := (SV.out.call hbf).cell (k := 0) rfl
        clear ce hbf t2
        have ce := rsame_any AP nP cP hsP F A9 n9 c9 hs9 F w2.heap.size wr.heap.size wf.heap.size wf.heap.size wf GF KF (Nat.le_refl _) (Nat.le_refl _)
        rw [show decide (F = F) = true by simp] at ce
        go_wp2_with fail
        refine ce.mono ?_
        rintro e wg ⟨rfl, hbg⟩
        have BG := hide (below_call BF.out hbg)
        clear ce hbg
        go_wp2_with fail
        go_ret
        exact ⟨rfl, BG.out⟩
end Go.Proofs.YtlhaendgdeflkaaGreatDoor
end
