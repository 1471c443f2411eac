import Derived.Test.YthaabgiefpfeaaaMKit
import Derived.Laws.Bits64b
set_option linter.unusedVariables false
set_option linter.unusedSimpArgs false
section
/-
  Plain mathematics of sets of small numbers: ascending lists, and numbers whose bits are the elements; their eight words. No function of the program is named here.
-/
namespace Go.Proofs.Ythaabgiefpfeaaa
open Go.RowKit

/-- Ints as cells. -/
def cellsI (zs : List Int) : List Value := zs.map (Value.int .i64)
theorem cellsI_length (zs : List Int) : (cellsI zs).length = zs.length := by simp [cellsI]
theorem cellsI_append (a b : List Int) : cellsI (a ++ b) = cellsI a ++ cellsI b := by simp [cellsI]
theorem get_i64 {zs : List Int} {k : Nat} (h : k < zs.length) : (cellsI zs)[k]? = some (.int .i64 zs[k]) := by
  simp [cellsI, List.getElem?_map, List.getElem?_eq_getElem h]
theorem cellsI_one (zs : List Int) : ∀ v ∈ cellsI zs, v.oneCell' = true := by
  intro v hv
  simp only [cellsI, List.mem_map] at hv
  obtain ⟨z, _, rfl⟩ := hv
  rfl
/-- The int at place k, and where it stands. -/
theorem int_at {w : World} {B : Nat} {A : Option Addr} {zs : List Int} {k : Nat} (h : Sees w B A (cellsI zs)) (hk : k < zs.length) :
    ∃ b off, A = some ⟨b, off, none⟩ ∧ b < B ∧ w.cell? ⟨b, off + k, none⟩ = some (.int .i64 zs[k]) := h k _ (get_i64 hk)

/-- A set as a list: ascending, from 0 to 511. -/
def Asc (l : List Int) : Prop := l.Pairwise (· < ·) ∧ ∀ z ∈ l, 0 ≤ z ∧ z < 512

theorem pw_ext : ∀ {l m : List Int}, l.Pairwise (· < ·) → m.Pairwise (· < ·) → (∀ z, z ∈ l ↔ z ∈ m) → l = m
  | [], [], _, _, _ => rfl
  | [], y :: m, _, _, h => absurd ((h y).2 (by simp)) (by simp)
  | x :: l, [], _, _, h => absurd ((h x).1 (by simp)) (by simp)
  | x :: l, y :: m, hl, hm, h => by
    obtain ⟨hx, hl2⟩ := List.pairwise_cons.1 hl
    obtain ⟨hy, hm2⟩ := List.pairwise_cons.1 hm
    have e : x = y := by
      rcases List.mem_cons.1 ((h x).1 (by simp)) with e | e
      · exact e
      · rcases List.mem_cons.1 ((h y).2 (by simp)) with e' | e'
        · exact e'.symm
        · have := hy x e; have := hx y e'; omega
    subst e
    have key : ∀ z, z ∈ l ↔ z ∈ m := by
      intro z
      constructor
      · intro hz
        rcases List.mem_cons.1 ((h z).1 (List.mem_cons_of_mem _ hz)) with e | e
        · have := hx z hz; omega
        · exact e
      · intro hz
        rcases List.mem_cons.1 ((h z).2 (List.mem_cons_of_mem _ hz)) with e | e
        · have := hy z hz; omega
        · exact e
    rw [pw_ext hl2 hm2 key]
theorem Asc.ext {l m : List Int} (hl : Asc l) (hm : Asc m) (h : ∀ z, 0 ≤ z → z < 512 → (z ∈ l ↔ z ∈ m)) : l = m :=
  pw_ext hl.1 hm.1 fun z => ⟨fun hz => (h z (hl.2 z hz).1 (hl.2 z hz).2).1 hz, fun hz => (h z (hm.2 z hz).1 (hm.2 z hz).2).2 hz⟩
theorem pw_len : ∀ (l : List Int) (a b : Int), a ≤ b → l.Pairwise (· < ·) → (∀ z ∈ l, a ≤ z ∧ z < b) → (l.length : Int) ≤ b - a
  | [], a, b, h, _, _ => by simp; omega
  | x :: l, a, b, h, hp, hz => by
    obtain ⟨hx, hl⟩ := List.pairwise_cons.1 hp
    have h0 := hz x (by simp)
    have := pw_len l (x + 1) b (by omega) hl fun z h => ⟨by have := hx z h; omega, (hz z (List.mem_cons_of_mem _ h)).2⟩
    rw [List.length_cons]
    omega
theorem Asc.length {l : List Int} (h : Asc l) : l.length ≤ 512 := by
  have := pw_len l 0 512 (by omega) h.1 h.2
  omega
theorem Asc.nil : Asc [] := ⟨.nil, fun z h => by cases h⟩

/-- The bit of n, if a set can have it. -/
def one (n : Int) : Nat := if 0 ≤ n ∧ n < 512 then 2 ^ n.toNat else 0
theorem one_bit (n : Int) (j : Nat) : (one n).testBit j = decide ((j : Int) = n ∧ j < 512) := by
  unfold one
  split
  · rw [Nat.testBit_two_pow]
    congr 1
    apply propext
    constructor <;> intro h <;> omega
  · rw [Nat.zero_testBit]
    symm
    rw [decide_eq_false_iff_not]
    omega
/-- N without the bits of M. -/
def diff (N M : Nat) : Nat := N ^^^ (N &&& M)
theorem diff_bit (N M j : Nat) : (diff N M).testBit j = (N.testBit j && !M.testBit j) := by
  unfold diff
  rw [Nat.testBit_xor, Nat.testBit_and]
  cases N.testBit j <;> cases M.testBit j <;> rfl
theorem diff_lt {N M k : Nat} (h : N < 2 ^ k) : diff N M < 2 ^ k := by
  unfold diff
  exact Nat.xor_lt_two_pow h (Nat.lt_of_le_of_lt Nat.and_le_left h)
/-- The bits of a list's elements. -/
def bs (l : List Int) : Nat := l.foldl (fun N n => N ||| one n) 0
theorem bs_from (l : List Int) (N j : Nat) : (l.foldl (fun N n => N ||| one n) N).testBit j = (N.testBit j || decide ((j : Int) ∈ l ∧ j < 512)) := by
  induction l generalizing N with
  | nil => simp
  | cons x l ih =>
    rw [List.foldl_cons, ih, Nat.testBit_or, one_bit, Bool.or_assoc]
    congr 1
    rw [← Bool.decide_or]
    congr 1
    apply propext
    rw [List.mem_cons]
    constructor
    · rintro (⟨h, h'⟩ | ⟨h, h'⟩)
      · exact ⟨.inl h, h'⟩
      · exact ⟨.inr h, h'⟩
    · rintro ⟨h | h, h'⟩
      · exact .inl ⟨h, h'⟩
      · exact .inr ⟨h, h'⟩
theorem bs_bit (l : List Int) (j : Nat) : (bs l).testBit j = decide ((j : Int) ∈ l ∧ j < 512) := by
  rw [bs, bs_from, Nat.zero_testBit, Bool.false_or]
theorem bs_snoc (l : List Int) (n : Int) : bs (l ++ [n]) = bs l ||| one n := by simp [bs]

/-- The elements below 64 k. -/
def pre (N k : Nat) : List Int := ((List.range (64 * k)).filter fun j => N.testBit j).map fun (j : Nat) => (j : Int)
/-- The elements, ascending. -/
def els (N : Nat) : List Int := pre N 8
theorem mem_pre {N k : Nat} {z : Int} : z ∈ pre N k ↔ 0 ≤ z ∧ z < 64 * k ∧ N.testBit z.toNat = true := by
  simp only [pre, List.mem_map, List.mem_filter, List.mem_range]
  constructor
  · rintro ⟨j, ⟨h1, h2⟩, rfl⟩
    exact ⟨by omega, by omega, by simpa using h2⟩
  · rintro ⟨h1, h2, h3⟩
    exact ⟨z.toNat, ⟨by omega, h3⟩, by omega⟩
theorem mem_els {N : Nat} {z : Int} : z ∈ els N ↔ 0 ≤ z ∧ z < 512 ∧ N.testBit z.toNat = true := mem_pre
theorem pw_pre (N k : Nat) : (pre N k).Pairwise (· < ·) := by
  unfold pre
  rw [List.pairwise_map]
  refine ((List.pairwise_lt_range (n := 64 * k)).filter _).imp ?_
  intro a b h
  omega
theorem els_asc (N : Nat) : Asc (els N) := ⟨pw_pre N 8, fun z h => ⟨(mem_els.1 h).1, (mem_els.1 h).2.1⟩⟩
theorem els_length (N : Nat) : (els N).length ≤ 512 := (els_asc N).length
theorem pre_length (N k : Nat) : (pre N k).length ≤ 64 * k := by
  have := pw_len (pre N k) 0 (64 * k : Nat) (by omega) (pw_pre N k) fun z h => ⟨(mem_pre.1 h).1, by have := (mem_pre.1 h).2.1; omega⟩
  omega

/-- Word i of N. -/
def wd (N i : Nat) : Nat := N / 2 ^ (64 * i) % 2 ^ 64
theorem wd_bit (N i j : Nat) : (wd N i).testBit j = (decide (j < 64) && N.testBit (64 * i + j)) := by
  unfold wd
  rw [Nat.testBit_mod_two_pow, Nat.testBit_div_two_pow, Nat.add_comm]
theorem wd_lt (N i : Nat) : wd N i < 18446744073709551616 := Nat.mod_lt _ (by decide)
theorem wd_or (N M i : Nat) : wd (N ||| M) i = wd N i ||| wd M i := by
  apply Nat.eq_of_testBit_eq
  intro j
  simp only [wd_bit, Nat.testBit_or]
  cases decide (j < 64) <;> simp
theorem wd_and (N M i : Nat) : wd (N &&& M) i = wd N i &&& wd M i := by
  apply Nat.eq_of_testBit_eq
  intro j
  simp only [wd_bit, Nat.testBit_and]
  cases decide (j < 64) <;> simp
theorem wd_diff (N M i : Nat) : wd (diff N M) i = diff (wd N i) (wd M i) := by
  apply Nat.eq_of_testBit_eq
  intro j
  simp only [wd_bit, diff_bit]
  cases decide (j < 64) <;> simp
theorem wd_zero (i : Nat) : wd 0 i = 0 := by simp [wd]
/-- All words are 0: no element. -/
theorem wd_all {N : Nat} (h : ∀ i, i < 8 → wd N i = 0) : els N = [] := by
  rw [List.eq_nil_iff_forall_not_mem]
  intro z hz
  obtain ⟨h0, h1, h2⟩ := mem_els.1 hz
  have := wd_bit N (z.toNat / 64) (z.toNat % 64)
  rw [h _ (by omega), Nat.zero_testBit, decide_eq_true (by omega : z.toNat % 64 < 64), Nat.div_add_mod, h2] at this
  cases this
theorem els_nil {N : Nat} (h : els N = []) (i : Nat) (hi : i < 8) : wd N i = 0 := by
  apply Nat.eq_of_testBit_eq
  intro j
  rw [wd_bit, Nat.zero_testBit]
  by_cases hj : j < 64
  · cases hb : N.testBit (64 * i + j) with
    | false => simp
    | true =>
      have : ((64 * i + j : Nat) : Int) ∈ els N := mem_els.2 ⟨by omega, by omega, by rw [Int.toNat_natCast]; exact hb⟩
      rw [h] at this
      cases this
  · simp [hj]

/-- The word that n lies in, and its bit there; no bit, if no set can have n. -/
def pl (n : Int) : Nat := if 0 ≤ n ∧ n < 512 then n.toNat / 64 else 0
def bt (n : Int) : Nat := if 0 ≤ n ∧ n < 512 then 2 ^ (n.toNat % 64) else 0
theorem pl_lt (n : Int) : pl n < 8 := by unfold pl; split <;> omega
theorem bt_lt (n : Int) : bt n < 18446744073709551616 := by
  unfold bt
  split
  · exact Nat.pow_lt_pow_right (by decide) (Nat.mod_lt _ (by decide) : n.toNat % 64 < 64)
  · decide
theorem wd_one (n : Int) (i : Nat) : wd (one n) i = if i = pl n then bt n else 0 := by
  apply Nat.eq_of_testBit_eq
  intro j
  rw [wd_bit, one_bit]
  unfold pl bt
  by_cases hn : 0 ≤ n ∧ n < 512
  · rw [if_pos hn, if_pos hn]
    by_cases hi : i = n.toNat / 64
    · rw [if_pos hi, Nat.testBit_two_pow, ← Bool.decide_and]
      congr 1
      apply propext
      constructor
      · rintro ⟨h1, h2, h3⟩; omega
      · intro h; refine ⟨by omega, ?_, ?_⟩ <;> omega
    · rw [if_neg hi, Nat.zero_testBit, ← Bool.decide_and, decide_eq_false_iff_not]
      rintro ⟨h1, h2, h3⟩
      omega
  · rw [if_neg hn, if_neg hn]
    have e : decide (((64 * i + j : Nat) : Int) = n ∧ 64 * i + j < 512) = false := by
      rw [decide_eq_false_iff_not]; omega
    rw [e]
    simp

/-- Eight words as cells. -/
def w8 (f : Nat → Nat) : List Value := [.int .u64 (f 0 : Nat), .int .u64 (f 1 : Nat), .int .u64 (f 2 : Nat), .int .u64 (f 3 : Nat), .int .u64 (f 4 : Nat), .int .u64 (f 5 : Nat), .int .u64 (f 6 : Nat), .int .u64 (f 7 : Nat)]
theorem lt8 {k : Nat} (h : k < 8) : k = 0 ∨ k = 1 ∨ k = 2 ∨ k = 3 ∨ k = 4 ∨ k = 5 ∨ k = 6 ∨ k = 7 := by omega
theorem w8_at (f : Nat → Nat) {k : Nat} (h : k < 8) : (w8 f)[k]? = some (.int .u64 (f k : Nat)) := by
  rcases lt8 h with rfl | rfl | rfl | rfl | rfl | rfl | rfl | rfl <;> rfl
theorem w8_set (f : Nat → Nat) {k : Nat} (h : k < 8) (x : Nat) : (w8 f).set k (.int .u64 (x : Nat)) = w8 fun i => if i = k then x else f i := by
  rcases lt8 h with rfl | rfl | rfl | rfl | rfl | rfl | rfl | rfl <;> rfl
theorem w8_congr {f g : Nat → Nat} (h : ∀ i, i < 8 → f i = g i) : w8 f = w8 g := by
  simp [w8, h]

theorem u64_diff_nat (a b : Nat) (ha : a < 18446744073709551616) (hb : b < 18446744073709551616) : bits .andNot .u64 (a : Int) (b : Int) = ((diff a b : Nat) : Int) := by
  have hx : diff a b < 2 ^ 64 := diff_lt (by omega)
  have h1 : (BitVec.ofInt 64 (a : Int)).toNat = a := by
    rw [BitVec.ofInt_natCast, BitVec.toNat_ofNat]; exact Nat.mod_eq_of_lt (by omega)
  have h2 : (BitVec.ofInt 64 (b : Int)).toNat = b := by
    rw [BitVec.ofInt_natCast, BitVec.toNat_ofNat]; exact Nat.mod_eq_of_lt (by omega)
  have e : (BitVec.ofInt 64 (a : Int) &&& ~~~BitVec.ofInt 64 (b : Int)).toNat = diff a b := by
    apply Nat.eq_of_testBit_eq
    intro j
    rw [diff_bit, BitVec.testBit_toNat, BitVec.getLsbD_and, BitVec.getLsbD_not, ← BitVec.testBit_toNat, ← BitVec.testBit_toNat, h1, h2]
    by_cases hj : j < 64
    · simp [hj]
    · rw [Nat.testBit_lt_two_pow (show a < 2 ^ j from Nat.lt_of_lt_of_le (by omega : a < 2 ^ 64) (Nat.pow_le_pow_right (by decide) (by omega)))]
      simp
  show IntKind.u64.wrap ((BitVec.ofInt 64 (a : Int) &&& ~~~BitVec.ofInt 64 (b : Int)).toNat : Int) = _
  rw [e, IntKind.wrap_u64]
  omega
end Go.Proofs.Ythaabgiefpfeaaa
end
