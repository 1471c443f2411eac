import Derived.Test.YtidlnecgfgnllaaDoorRows
import Derived.WalkKit
import Derived.ProofKit
import Derived.Deep.Draws
import Derived.Laws.Bits64b
set_option linter.unusedVariables false
set_option linter.unusedSimpArgs false
section
/-
  Words for memory that the walks of this seat use: 'Sees': a slice's address yields these cells, below a given block. No condition; nothing here names the program's functions.
-/
namespace Go.Proofs.YtidlnecgfgnllaaDoor
open Go.RowKit

/-- At the address A stand the cells xs, one place each, in a block below B. (An empty list asks nothing of A: nil is let in.) -/
def Sees (w : World) (B : Nat) (A : Option Addr) (xs : List Value) : Prop :=
  ∀ (k : Nat) (u : Value), xs[k]? = some u → ∃ b off, A = some ⟨b, off, none⟩ ∧ b < B ∧ w.cell? ⟨b, off + k, none⟩ = some u

section
variable {w w' : World} {B B' : Nat} {A : Option Addr} {xs ys : List Value}

theorem Sees.nil_ (w : World) (B : Nat) (A : Option Addr) : Sees w B A [] := fun k u h => by simp at h

theorem Sees.keep (h : Sees w B A xs) (hk : ∀ p : Addr, p.block < B → w'.cell? p = w.cell? p) : Sees w' B A xs := fun k u hu => by
  obtain ⟨b, off, e, hb, hc⟩ := h k u hu
  exact ⟨b, off, e, hb, (hk _ hb).trans hc⟩

theorem Sees.more (h : Sees w B A xs) (hB : B ≤ B') : Sees w B' A xs := fun k u hu => by
  obtain ⟨b, off, e, hb, hc⟩ := h k u hu
  exact ⟨b, off, e, by omega, hc⟩

theorem Sees.below (h : Sees w B A xs) (hb : Below B w w') : Sees w' B A xs := h.keep fun _ hp => hb.cell hp
theorem Sees.draws (h : Sees w B A xs) (n : Nat) : Sees (w.drewN n) B A xs := h
theorem Sees.draw (h : Sees w B A xs) : Sees w.drew B A xs := h
theorem Sees.undraws {n : Nat} (h : Sees (w.drewN n) B A xs) : Sees w B A xs := h
theorem Sees.alloc (h : Sees w B A xs) (hB : B ≤ w.heap.size) (o : Obj) : Sees (w.alloc o) B A xs := h.keep fun p hp => World.cell?_alloc_lt w o p (by omega)

/-- A list that begins as this one does. -/
theorem Sees.part (h : Sees w B A xs) (hp : ∀ (k : Nat) (u : Value), ys[k]? = some u → xs[k]? = some u) : Sees w B A ys := fun k u hu => h k u (hp k u hu)
theorem Sees.take (h : Sees w B A xs) (n : Nat) : Sees w B A (xs.take n) := h.part fun k u hu => by
  rw [List.getElem?_take] at hu
  split at hu <;> simp_all
theorem Sees.left (h : Sees w B A (xs ++ ys)) : Sees w B A xs := h.part fun k u hu => by
  have hk : k < xs.length := by
    rcases Nat.lt_or_ge k xs.length with h1 | h1
    · exact h1
    · rw [List.getElem?_eq_none h1] at hu; simp at hu
  rw [List.getElem?_append_left hk]; exact hu

/-- From place k on: 's[k:]' with a place left behind it. -/
theorem Sees.drop (h : Sees w B A xs) (k : Nat) : Sees w B (A.map (·.add k)) (xs.drop k) := fun j u hu => by
  rw [List.getElem?_drop] at hu
  obtain ⟨b, off, e, hb, hc⟩ := h _ u hu
  refine ⟨b, off + k, ?_, hb, ?_⟩
  · subst e
    simp only [Option.map_some, Addr.add]
    split <;> simp_all
  · rw [Nat.add_assoc]; exact hc

/-- A row of the call's own. -/
theorem Sees.own {base : Nat} {e : TypeId} {n c : Nat} (h : w.ownsRow base e 1 (.slice A n c) n xs) : Sees w w.heap.size A xs := fun k u hu => by
  have hl := h.1
  have hk : k < xs.length := by
    rcases Nat.lt_or_ge k xs.length with h1 | h1
    · exact h1
    · rw [List.getElem?_eq_none h1] at hu; simp at hu
  rcases h.2 with ⟨he, h0⟩ | ⟨g, cap, cur, he, hg, hh, _⟩
  · omega
  · have hA : A = some ⟨g, 0, none⟩ := by injection he
    subst hA
    have hlt : g < w.heap.size := by
      rcases Nat.lt_or_ge g w.heap.size with h1 | h1
      · exact h1
      · rw [Array.getElem?_eq_none h1] at hh; simp at hh
    refine ⟨g, 0, rfl, hlt, ?_⟩
    have := h.cells (g := g) rfl k u hu
    rw [Nat.zero_add]
    simpa [Addr.add] using (by
      have e2 : (⟨g, 0, none⟩ : Addr).add k = ⟨g, k, none⟩ := by
        unfold Addr.add
        split <;> simp_all
      rw [← e2]; exact this)
end

/-- Bytes as cells. -/
def cellsU8 (zs : List Int) : List Value := zs.map (Value.int .u8)

theorem get_u8 {zs : List Int} {k : Nat} (h : k < zs.length) : (cellsU8 zs)[k]? = some (.int .u8 (zs.getD k 0)) := by
  simp [cellsU8, List.getElem?_map, List.getElem?_eq_getElem h, List.getD_eq_getElem?_getD]

/-- The byte at place k, and where it stands. -/
theorem byte_at {w : World} {B : Nat} {A : Option Addr} {zs : List Int} {k : Nat} (h : Sees w B A (cellsU8 zs)) (hk : k < zs.length) (hz : ∀ z ∈ zs, 0 ≤ z ∧ z ≤ 255) :
    ∃ b off z, A = some ⟨b, off, none⟩ ∧ b < B ∧ w.cell? ⟨b, off + k, none⟩ = some (.int .u8 z) ∧ 0 ≤ z ∧ z ≤ 255 ∧ Hid (zs[k]? = some z) := by
  obtain ⟨b, off, e, hb, hc⟩ := h k (.int .u8 zs[k]) (by simp [cellsU8, List.getElem?_map, List.getElem?_eq_getElem hk])
  have hz' := hz zs[k] (List.getElem_mem hk)
  exact ⟨b, off, zs[k], e, hb, hc, hz'.1, hz'.2, List.getElem?_eq_getElem hk⟩
theorem take_more {zs : List Int} {k : Nat} {z : Int} (h : zs[k]? = some z) : zs.take (k + 1) = zs.take k ++ [z] := by
  rw [List.take_add_one, h]; rfl

/-- A fact kept from the walk. -/
theorem hide {p : Prop} (h : p) : Hid p := h

theorem ret_int {k : IntKind} {a b : Int} (h : a = b) : Ending.returned (.int k a) = .returned (.int k b) := by rw [h]
end Go.Proofs.YtidlnecgfgnllaaDoor
end

section
/-
  Plain mathematics of sets of small numbers: ascending lists, and numbers whose bits are the elements; their eight words. No function of the program is named here.
-/
namespace Go.Proofs.YtidlnecgfgnllaaDoor
open Go.RowKit

/-- Ints as cells. -/
def cellsI (zs : List Int) : List Value := zs.map (Value.int .i64)
theorem cellsI_length (zs : List Int) : (cellsI zs).length = zs.length := by simp [cellsI]
theorem cellsI_append (a b : List Int) : cellsI (a ++ b) = cellsI a ++ cellsI b := by simp [cellsI]
theorem get_i64 {zs : List Int} {k : Nat} (h : k < zs.length) : (cellsI zs)[k]? = some (.int .i64 zs[k]) := by
  simp [cellsI, List.getElem?_map, List.getElem?_eq_getElem h]
theorem cellsI_one (zs : List Int) : ∀ v ∈ cellsI zs, v.oneCell' = true := by
  intro v hv
  simp only [cellsI, List.mem_map] at hv
  obtain ⟨z, _, rfl⟩ := hv
  rfl
/-- The int at place k, and where it stands. -/
theorem int_at {w : World} {B : Nat} {A : Option Addr} {zs : List Int} {k : Nat} (h : Sees w B A (cellsI zs)) (hk : k < zs.length) :
    ∃ b off, A = some ⟨b, off, none⟩ ∧ b < B ∧ w.cell? ⟨b, off + k, none⟩ = some (.int .i64 zs[k]) := h k _ (get_i64 hk)

/-- A set as a list: ascending, from 0 to 511. -/
def Asc (l : List Int) : Prop := l.Pairwise (· < ·) ∧ ∀ z ∈ l, 0 ≤ z ∧ z < 512

theorem pw_ext : ∀ {l m : List Int}, l.Pairwise (· < ·) → m.Pairwise (· < ·) → (∀ z, z ∈ l ↔ z ∈ m) → l = m
  | [], [], _, _, _ => rfl
  | [], y :: m, _, _, h => absurd ((h y).2 (by simp)) (by simp)
  | x :: l, [], _, _, h => absurd ((h x).1 (by simp)) (by simp)
  | x :: l, y :: m, hl, hm, h => by
    obtain ⟨hx, hl2⟩ := List.pairwise_cons.1 hl
    obtain ⟨hy, hm2⟩ := List.pairwise_cons.1 hm
    have e : x = y := by
      rcases List.mem_cons.1 ((h x).1 (by simp)) with e | e
      · exact e
      · rcases List.mem_cons.1 ((h y).2 (by simp)) with e' | e'
        · exact e'.symm
        · have := hy x e; have := hx y e'; omega
    subst e
    have key : ∀ z, z ∈ l ↔ z ∈ m := by
      intro z
      constructor
      · intro hz
        rcases List.mem_cons.1 ((h z).1 (List.mem_cons_of_mem _ hz)) with e | e
        · have := hx z hz; omega
        · exact e
      · intro hz
        rcases List.mem_cons.1 ((h z).2 (List.mem_cons_of_mem _ hz)) with e | e
        · have := hy z hz; omega
        · exact e
    rw [pw_ext hl2 hm2 key]
theorem Asc.ext {l m : List Int} (hl : Asc l) (hm : Asc m) (h : ∀ z, 0 ≤ z → z < 512 → (z ∈ l ↔ z ∈ m)) : l = m :=
  pw_ext hl.1 hm.1 fun z => ⟨fun hz => (h z (hl.2 z hz).1 (hl.2 z hz).2).1 hz, fun hz => (h z (hm.2 z hz).1 (hm.2 z hz).2).2 hz⟩
theorem pw_len : ∀ (l : List Int) (a b : Int), a ≤ b → l.Pairwise (· < ·) → (∀ z ∈ l, a ≤ z ∧ z < b) → (l.length : Int) ≤ b - a
  | [], a, b, h, _, _ => by simp; omega
  | x :: l, a, b, h, hp, hz => by
    obtain ⟨hx, hl⟩ := List.pairwise_cons.1 hp
    have h0 := hz x (by simp)
    have := pw_len l (x + 1) b (by omega) hl fun z h => ⟨by have := hx z h; omega, (hz z (List.mem_cons_of_mem _ h)).2⟩
    rw [List.length_cons]
    omega
theorem Asc.length {l : List Int} (h : Asc l) : l.length ≤ 512 := by
  have := pw_len l 0 512 (by omega) h.1 h.2
  omega
theorem Asc.nil : Asc [] := ⟨.nil, fun z h => by cases h⟩

/-- The bit of n, if a set can have it. -/
def one (n : Int) : Nat := if 0 ≤ n ∧ n < 512 then 2 ^ n.toNat else 0
theorem one_bit (n : Int) (j : Nat) : (one n).testBit j = decide ((j : Int) = n ∧ j < 512) := by
  unfold one
  split
  · rw [Nat.testBit_two_pow]
    congr 1
    apply propext
    constructor <;> intro h <;> omega
  · rw [Nat.zero_testBit]
    symm
    rw [decide_eq_false_iff_not]
    omega
/-- N without the bits of M. -/
def diff (N M : Nat) : Nat := N ^^^ (N &&& M)
theorem diff_bit (N M j : Nat) : (diff N M).testBit j = (N.testBit j && !M.testBit j) := by
  unfold diff
  rw [Nat.testBit_xor, Nat.testBit_and]
  cases N.testBit j <;> cases M.testBit j <;> rfl
theorem diff_lt {N M k : Nat} (h : N < 2 ^ k) : diff N M < 2 ^ k := by
  unfold diff
  exact Nat.xor_lt_two_pow h (Nat.lt_of_le_of_lt Nat.and_le_left h)
/-- The bits of a list's elements. -/
def bs (l : List Int) : Nat := l.foldl (fun N n => N ||| one n) 0
theorem bs_from (l : List Int) (N j : Nat) : (l.foldl (fun N n => N ||| one n) N).testBit j = (N.testBit j || decide ((j : Int) ∈ l ∧ j < 512)) := by
  induction l generalizing N with
  | nil => simp
  | cons x l ih =>
    rw [List.foldl_cons, ih, Nat.testBit_or, one_bit, Bool.or_assoc]
    congr 1
    rw [← Bool.decide_or]
    congr 1
    apply propext
    rw [List.mem_cons]
    constructor
    · rintro (⟨h, h'⟩ | ⟨h, h'⟩)
      · exact ⟨.inl h, h'⟩
      · exact ⟨.inr h, h'⟩
    · rintro ⟨h | h, h'⟩
      · exact .inl ⟨h, h'⟩
      · exact .inr ⟨h, h'⟩
theorem bs_bit (l : List Int) (j : Nat) : (bs l).testBit j = decide ((j : Int) ∈ l ∧ j < 512) := by
  rw [bs, bs_from, Nat.zero_testBit, Bool.false_or]
theorem bs_snoc (l : List Int) (n : Int) : bs (l ++ [n]) = bs l ||| one n := by simp [bs]

/-- The elements below 64 k. -/
def pre (N k : Nat) : List Int := ((List.range (64 * k)).filter fun j => N.testBit j).map fun (j : Nat) => (j : Int)
/-- The elements, ascending. -/
def els (N : Nat) : List Int := pre N 8
theorem mem_pre {N k : Nat} {z : Int} : z ∈ pre N k ↔ 0 ≤ z ∧ z < 64 * k ∧ N.testBit z.toNat = true := by
  simp only [pre, List.mem_map, List.mem_filter, List.mem_range]
  constructor
  · rintro ⟨j, ⟨h1, h2⟩, rfl⟩
    exact ⟨by omega, by omega, by simpa using h2⟩
  · rintro ⟨h1, h2, h3⟩
    exact ⟨z.toNat, ⟨by omega, h3⟩, by omega⟩
theorem mem_els {N : Nat} {z : Int} : z ∈ els N ↔ 0 ≤ z ∧ z < 512 ∧ N.testBit z.toNat = true := mem_pre
theorem pw_pre (N k : Nat) : (pre N k).Pairwise (· < ·) := by
  unfold pre
  rw [List.pairwise_map]
  refine ((List.pairwise_lt_range (n := 64 * k)).filter _).imp ?_
  intro a b h
  omega
theorem els_asc (N : Nat) : Asc (els N) := ⟨pw_pre N 8, fun z h => ⟨(mem_els.1 h).1, (mem_els.1 h).2.1⟩⟩
theorem els_length (N : Nat) : (els N).length ≤ 512 := (els_asc N).length
theorem pre_length (N k : Nat) : (pre N k).length ≤ 64 * k := by
  have := pw_len (pre N k) 0 (64 * k : Nat) (by omega) (pw_pre N k) fun z h => ⟨(mem_pre.1 h).1, by have := (mem_pre.1 h).2.1; omega⟩
  omega

/-- Word i of N. -/
def wd (N i : Nat) : Nat := N / 2 ^ (64 * i) % 2 ^ 64
theorem wd_bit (N i j : Nat) : (wd N i).testBit j = (decide (j < 64) && N.testBit (64 * i + j)) := by
  unfold wd
  rw [Nat.testBit_mod_two_pow, Nat.testBit_div_two_pow, Nat.add_comm]
theorem wd_lt (N i : Nat) : wd N i < 18446744073709551616 := Nat.mod_lt _ (by decide)
theorem wd_or (N M i : Nat) : wd (N ||| M) i = wd N i ||| wd M i := by
  apply Nat.eq_of_testBit_eq
  intro j
  simp only [wd_bit, Nat.testBit_or]
  cases decide (j < 64) <;> simp
theorem wd_and (N M i : Nat) : wd (N &&& M) i = wd N i &&& wd M i := by
  apply Nat.eq_of_testBit_eq
  intro j
  simp only [wd_bit, Nat.testBit_and]
  cases decide (j < 64) <;> simp
theorem wd_diff (N M i : Nat) : wd (diff N M) i = diff (wd N i) (wd M i) := by
  apply Nat.eq_of_testBit_eq
  intro j
  simp only [wd_bit, diff_bit]
  cases decide (j < 64) <;> simp
theorem wd_zero (i : Nat) : wd 0 i = 0 := by simp [wd]
/-- All words are 0: no element. -/
theorem wd_all {N : Nat} (h : ∀ i, i < 8 → wd N i = 0) : els N = [] := by
  rw [List.eq_nil_iff_forall_not_mem]
  intro z hz
  obtain ⟨h0, h1, h2⟩ := mem_els.1 hz
  have := wd_bit N (z.toNat / 64) (z.toNat % 64)
  rw [h _ (by omega), Nat.zero_testBit, decide_eq_true (by omega : z.toNat % 64 < 64), Nat.div_add_mod, h2] at this
  cases this
theorem els_nil {N : Nat} (h : els N = []) (i : Nat) (hi : i < 8) : wd N i = 0 := by
  apply Nat.eq_of_testBit_eq
  intro j
  rw [wd_bit, Nat.zero_testBit]
  by_cases hj : j < 64
  · cases hb : N.testBit (64 * i + j) with
    | false => simp
    | true =>
      have : ((64 * i + j : Nat) : Int) ∈ els N := mem_els.2 ⟨by omega, by omega, by rw [Int.toNat_natCast]; exact hb⟩
      rw [h] at this
      cases this
  · simp [hj]

/-- The word that n lies in, and its bit there; no bit, if no set can have n. -/
def pl (n : Int) : Nat := if 0 ≤ n ∧ n < 512 then n.toNat / 64 else 0
def bt (n : Int) : Nat := if 0 ≤ n ∧ n < 512 then 2 ^ (n.toNat % 64) else 0
theorem pl_lt (n : Int) : pl n < 8 := by unfold pl; split <;> omega
theorem bt_lt (n : Int) : bt n < 18446744073709551616 := by
  unfold bt
  split
  · exact Nat.pow_lt_pow_right (by decide) (Nat.mod_lt _ (by decide) : n.toNat % 64 < 64)
  · decide
theorem wd_one (n : Int) (i : Nat) : wd (one n) i = if i = pl n then bt n else 0 := by
  apply Nat.eq_of_testBit_eq
  intro j
  rw [wd_bit, one_bit]
  unfold pl bt
  by_cases hn : 0 ≤ n ∧ n < 512
  · rw [if_pos hn, if_pos hn]
    by_cases hi : i = n.toNat / 64
    · rw [if_pos hi, Nat.testBit_two_pow, ← Bool.decide_and]
      congr 1
      apply propext
      constructor
      · rintro ⟨h1, h2, h3⟩; omega
      · intro h; refine ⟨by omega, ?_, ?_⟩ <;> omega
    · rw [if_neg hi, Nat.zero_testBit, ← Bool.decide_and, decide_eq_false_iff_not]
      rintro ⟨h1, h2, h3⟩
      omega
  · rw [if_neg hn, if_neg hn]
    have e : decide (((64 * i + j : Nat) : Int) = n ∧ 64 * i + j < 512) = false := by
      rw [decide_eq_false_iff_not]; omega
    rw [e]
    simp

/-- Eight words as cells. -/
def w8 (f : Nat → Nat) : List Value := [.int .u64 (f 0 : Nat), .int .u64 (f 1 : Nat), .int .u64 (f 2 : Nat), .int .u64 (f 3 : Nat), .int .u64 (f 4 : Nat), .int .u64 (f 5 : Nat), .int .u64 (f 6 : Nat), .int .u64 (f 7 : Nat)]
theorem lt8 {k : Nat} (h : k < 8) : k = 0 ∨ k = 1 ∨ k = 2 ∨ k = 3 ∨ k = 4 ∨ k = 5 ∨ k = 6 ∨ k = 7 := by omega
theorem w8_at (f : Nat → Nat) {k : Nat} (h : k < 8) : (w8 f)[k]? = some (.int .u64 (f k : Nat)) := by
  rcases lt8 h with rfl | rfl | rfl | rfl | rfl | rfl | rfl | rfl <;> rfl
theorem w8_set (f : Nat → Nat) {k : Nat} (h : k < 8) (x : Nat) : (w8 f).set k (.int .u64 (x : Nat)) = w8 fun i => if i = k then x else f i := by
  rcases lt8 h with rfl | rfl | rfl | rfl | rfl | rfl | rfl | rfl <;> rfl
theorem w8_congr {f g : Nat → Nat} (h : ∀ i, i < 8 → f i = g i) : w8 f = w8 g := by
  simp [w8, h]

theorem u64_diff_nat (a b : Nat) (ha : a < 18446744073709551616) (hb : b < 18446744073709551616) : bits .andNot .u64 (a : Int) (b : Int) = ((diff a b : Nat) : Int) := by
  have hx : diff a b < 2 ^ 64 := diff_lt (by omega)
  have h1 : (BitVec.ofInt 64 (a : Int)).toNat = a := by
    rw [BitVec.ofInt_natCast, BitVec.toNat_ofNat]; exact Nat.mod_eq_of_lt (by omega)
  have h2 : (BitVec.ofInt 64 (b : Int)).toNat = b := by
    rw [BitVec.ofInt_natCast, BitVec.toNat_ofNat]; exact Nat.mod_eq_of_lt (by omega)
  have e : (BitVec.ofInt 64 (a : Int) &&& ~~~BitVec.ofInt 64 (b : Int)).toNat = diff a b := by
    apply Nat.eq_of_testBit_eq
    intro j
    rw [diff_bit, BitVec.testBit_toNat, BitVec.getLsbD_and, BitVec.getLsbD_not, ← BitVec.testBit_toNat, ← BitVec.testBit_toNat, h1, h2]
    by_cases hj : j < 64
    · simp [hj]
    · rw [Nat.testBit_lt_two_pow (show a < 2 ^ j from Nat.lt_of_lt_of_le (by omega : a < 2 ^ 64) (Nat.pow_le_pow_right (by decide) (by omega)))]
      simp
  show IntKind.u64.wrap ((BitVec.ofInt 64 (a : Int) &&& ~~~BitVec.ofInt 64 (b : Int)).toNat : Int) = _
  rw [e, IntKind.wrap_u64]
  omega
end Go.Proofs.YtidlnecgfgnllaaDoor
end

section
/-
  Plain mathematics of the reference's functions on ascending lists, and of what the two make alike. No function of the program is named here.
-/
namespace Go.Proofs.YtidlnecgfgnllaaDoor
open Go.RowKit

def goodB (n : Int) : Bool := decide (0 ≤ n ∧ n < 512)
theorem goodB_iff {n : Int} : goodB n = true ↔ 0 ≤ n ∧ n < 512 := by simp [goodB]
/-- n put in front of the first greater element. -/
def ins (n : Int) : List Int → List Int
  | [] => [n]
  | x :: r => if n ≤ x then (if n < x then n :: x :: r else x :: r) else x :: ins n r
def addL (l : List Int) (n : Int) : List Int := if goodB n then ins n l else l
theorem mem_ins {n z : Int} {l : List Int} : z ∈ ins n l ↔ z = n ∨ z ∈ l := by
  induction l with
  | nil => simp [ins]
  | cons x r ih =>
    unfold ins
    split
    · split
      · simp
      · have : n = x := by omega
        subst this
        simp
    · rw [List.mem_cons, ih, List.mem_cons]
      constructor
      · rintro (h | h | h)
        · exact .inr (.inl h)
        · exact .inl h
        · exact .inr (.inr h)
      · rintro (h | h | h)
        · exact .inr (.inl h)
        · exact .inl h
        · exact .inr (.inr h)
theorem ins_pw {n : Int} {l : List Int} (h : l.Pairwise (· < ·)) : (ins n l).Pairwise (· < ·) := by
  induction l with
  | nil => simp [ins]
  | cons x r ih =>
    obtain ⟨hx, hr⟩ := List.pairwise_cons.1 h
    unfold ins
    split
    · split
      · refine List.pairwise_cons.2 ⟨fun y hy => ?_, h⟩
        rcases List.mem_cons.1 hy with e | e
        · omega
        · have := hx y e; omega
      · exact h
    · refine List.pairwise_cons.2 ⟨fun y hy => ?_, ih hr⟩
      rcases mem_ins.1 hy with e | e
      · omega
      · exact hx y e
theorem mem_addL {n z : Int} {l : List Int} : z ∈ addL l n ↔ (z = n ∧ 0 ≤ n ∧ n < 512) ∨ z ∈ l := by
  unfold addL
  by_cases h : goodB n = true
  · rw [if_pos h, mem_ins]
    have := goodB_iff.1 h
    constructor
    · rintro (e | e)
      · exact .inl ⟨e, this⟩
      · exact .inr e
    · rintro (⟨e, _⟩ | e)
      · exact .inl e
      · exact .inr e
  · rw [if_neg h]
    constructor
    · exact .inr
    · rintro (⟨_, e⟩ | e)
      · exact absurd (goodB_iff.2 e) h
      · exact e
theorem addL_asc {n : Int} {l : List Int} (h : Asc l) : Asc (addL l n) := by
  refine ⟨?_, fun z hz => ?_⟩
  · unfold addL
    split
    · exact ins_pw h.1
    · exact h.1
  · rcases mem_addL.1 hz with ⟨e, e2⟩ | e
    · omega
    · exact h.2 z e
theorem ins_less {n : Int} {l : List Int} (h : ∀ y ∈ l, y < n) : ins n l = l ++ [n] := by
  induction l with
  | nil => rfl
  | cons x r ih =>
    have := h x (by simp)
    unfold ins
    rw [if_neg (by omega), ih fun y hy => h y (List.mem_cons_of_mem _ hy)]
    rfl
theorem ins_found {n x : Int} {l : List Int} (h : ∃ y ∈ l, n ≤ y) : ins n (l ++ [x]) = ins n l ++ [x] := by
  induction l with
  | nil => obtain ⟨y, h, _⟩ := h; cases h
  | cons a r ih =>
    rw [List.cons_append]
    unfold ins
    by_cases ha : n ≤ a
    · rw [if_pos ha, if_pos ha]
      split <;> rfl
    · rw [if_neg ha, if_neg ha]
      rw [ih]
      · rfl
      · obtain ⟨y, hy, hn⟩ := h
        rcases List.mem_cons.1 hy with e | e
        · omega
        · exact ⟨y, e, hn⟩
theorem ins_here {n x : Int} {l : List Int} (h : ∀ y ∈ l, y < n) (hx : n ≤ x) : ins n (l ++ [x]) = if n < x then l ++ [n, x] else l ++ [x] := by
  induction l with
  | nil =>
    rw [List.nil_append]
    unfold ins
    rw [if_pos hx]
    rfl
  | cons a r ih =>
    have := h a (by simp)
    rw [List.cons_append]
    unfold ins
    rw [if_neg (by omega), ih fun y hy => h y (List.mem_cons_of_mem _ hy)]
    split <;> rfl

def unionL (a b : List Int) : List Int := b.foldl addL a
theorem unionL_snoc (a b : List Int) (x : Int) : unionL a (b ++ [x]) = addL (unionL a b) x := by simp [unionL]
theorem unionL_asc {a b : List Int} (h : Asc a) : Asc (unionL a b) := by
  unfold unionL
  induction b generalizing a with
  | nil => exact h
  | cons x b ih => exact ih (addL_asc h)
theorem mem_unionL {z : Int} {a b : List Int} : z ∈ unionL a b ↔ z ∈ a ∨ (z ∈ b ∧ 0 ≤ z ∧ z < 512) := by
  unfold unionL
  induction b generalizing a with
  | nil => simp
  | cons x b ih =>
    rw [List.foldl_cons, ih, mem_addL, List.mem_cons]
    constructor
    · rintro ((⟨rfl, h⟩ | h) | h)
      · exact .inr ⟨.inl rfl, h⟩
      · exact .inl h
      · exact .inr ⟨.inr h.1, h.2⟩
    · rintro (h | ⟨rfl | h, h'⟩)
      · exact .inl (.inr h)
      · exact .inl (.inl ⟨rfl, h'⟩)
      · exact .inr ⟨h, h'⟩
def removeL (l : List Int) (n : Int) : List Int := l.filter fun z => z != n
def meetL (a b : List Int) : List Int := a.filter fun z => decide (z ∈ b)
def minusL (a b : List Int) : List Int := a.filter fun z => !decide (z ∈ b)
theorem filter_asc {l : List Int} (p : Int → Bool) (h : Asc l) : Asc (l.filter p) := ⟨h.1.filter p, fun z hz => h.2 z (List.mem_filter.1 hz).1⟩
theorem filter_snoc (p : Int → Bool) (l : List Int) (x : Int) : (l ++ [x]).filter p = if p x then l.filter p ++ [x] else l.filter p := by
  rw [List.filter_append]
  cases h : p x <;> simp [h]

/-- An ascending list's bits: its elements. -/
theorem bs_mem {l : List Int} {z : Int} (h0 : 0 ≤ z) (h1 : z < 512) : (bs l).testBit z.toNat = decide (z ∈ l) := by
  rw [bs_bit]
  congr 1
  apply propext
  rw [Int.toNat_of_nonneg h0]
  constructor
  · exact And.left
  · intro h; exact ⟨h, by omega⟩
theorem one_mem {n z : Int} (h0 : 0 ≤ z) (h1 : z < 512) : (one n).testBit z.toNat = decide (z = n) := by
  rw [one_bit]
  congr 1
  apply propext
  rw [Int.toNat_of_nonneg h0]
  constructor
  · exact And.left
  · intro h; exact ⟨h, by omega⟩
theorem els_bs {l : List Int} (h : Asc l) : els (bs l) = l :=
  (els_asc _).ext h fun z h0 h1 => by
    rw [mem_els, bs_mem h0 h1, decide_eq_true_iff]
    exact ⟨fun h => h.2.2, fun h => ⟨h0, h1, h⟩⟩
theorem bs_els_mem {N : Nat} {z : Int} (h0 : 0 ≤ z) (h1 : z < 512) : (bs (els N)).testBit z.toNat = N.testBit z.toNat := by
  rw [bs_mem h0 h1, Bool.eq_iff_iff, decide_eq_true_iff, mem_els]
  exact ⟨fun h => h.2.2, fun h => ⟨h0, h1, h⟩⟩
theorem els_of (l : List Int) : els (bs l) = unionL [] l :=
  (els_asc _).ext (unionL_asc .nil) fun z h0 h1 => by
    rw [mem_els, bs_mem h0 h1, decide_eq_true_iff, mem_unionL]
    constructor
    · exact fun h => .inr ⟨h.2.2, h0, h1⟩
    · rintro (h | h)
      · cases h
      · exact ⟨h0, h1, h.1⟩
theorem els_add {l : List Int} (h : Asc l) (n : Int) : els (bs l ||| one n) = addL l n :=
  (els_asc _).ext (addL_asc h) fun z h0 h1 => by
    rw [mem_els, Nat.testBit_or, bs_mem h0 h1, one_mem h0 h1, mem_addL, Bool.or_eq_true, decide_eq_true_iff, decide_eq_true_iff]
    constructor
    · rintro ⟨_, _, h | h⟩
      · exact .inr h
      · exact .inl ⟨h, by omega, by omega⟩
    · rintro (⟨h, _⟩ | h)
      · exact ⟨h0, h1, .inr h⟩
      · exact ⟨h0, h1, .inl h⟩
theorem els_remove {l : List Int} (h : Asc l) (n : Int) : els (diff (bs l) (one n)) = removeL l n :=
  (els_asc _).ext (filter_asc _ h) fun z h0 h1 => by
    rw [mem_els, diff_bit, bs_mem h0 h1, one_mem h0 h1, removeL, List.mem_filter]
    simp [h0, h1]
theorem els_union {a b : List Int} (ha : Asc a) (hb : Asc b) : els (bs a ||| bs b) = unionL a b :=
  (els_asc _).ext (unionL_asc ha) fun z h0 h1 => by
    rw [mem_els, Nat.testBit_or, bs_mem h0 h1, bs_mem h0 h1, mem_unionL, Bool.or_eq_true, decide_eq_true_iff, decide_eq_true_iff]
    constructor
    · rintro ⟨_, _, h | h⟩
      · exact .inl h
      · exact .inr ⟨h, hb.2 z h⟩
    · rintro (h | ⟨h, _⟩)
      · exact ⟨h0, h1, .inl h⟩
      · exact ⟨h0, h1, .inr h⟩
theorem els_meet {a b : List Int} (ha : Asc a) : els (bs a &&& bs b) = meetL a b :=
  (els_asc _).ext (filter_asc _ ha) fun z h0 h1 => by
    rw [mem_els, Nat.testBit_and, bs_mem h0 h1, bs_mem h0 h1, meetL, List.mem_filter]
    simp [h0, h1]
theorem els_minus {a b : List Int} (ha : Asc a) : els (diff (bs a) (bs b)) = minusL a b :=
  (els_asc _).ext (filter_asc _ ha) fun z h0 h1 => by
    rw [mem_els, diff_bit, bs_mem h0 h1, bs_mem h0 h1, minusL, List.mem_filter]
    simp [h0, h1]
/-- Whether a list is a set. -/
def ascB (l : List Int) : Bool := decide (l = els (bs l))
theorem ascB_iff {l : List Int} : ascB l = true ↔ Asc l := by
  unfold ascB
  rw [decide_eq_true_iff]
  exact ⟨fun h => h ▸ els_asc _, fun h => (els_bs h).symm⟩
/-- .. told place by place. -/
theorem asc_of_places {l : List Int} (h : ∀ (i : Nat) (hi : i < l.length), (0 ≤ l[i] ∧ l[i] < 512) ∧ (∀ j, i = j + 1 → ∀ hj : j < l.length, l[j] < l[i])) : Asc l := by
  constructor
  · rw [List.pairwise_iff_getElem]
    intro i j hi hj hij
    induction j with
    | zero => omega
    | succ j ih =>
      have hs := (h (j + 1) hj).2 j rfl (by omega)
      rcases Nat.lt_or_ge i j with h1 | h1
      · have := ih (by omega) h1
        omega
      · obtain rfl : i = j := by omega
        exact hs
  · intro z hz
    obtain ⟨i, hi, rfl⟩ := List.getElem_of_mem hz
    exact (h i hi).1
theorem places_of_asc {l : List Int} (h : Asc l) (i : Nat) (hi : i < l.length) : (0 ≤ l[i] ∧ l[i] < 512) ∧ (∀ j, i = j + 1 → ∀ hj : j < l.length, l[j] < l[i]) :=
  ⟨h.2 _ (List.getElem_mem hi), fun j e hj => List.pairwise_iff_getElem.1 h.1 j i hj hi (by omega)⟩

/-- Membership, as both functions tell it. -/
def hasB (l : List Int) (n : Int) : Bool := decide (n ∈ l)
theorem has_word (N : Nat) (n : Int) : (wd N (pl n) &&& bt n != 0) = decide (0 ≤ n ∧ n < 512 ∧ N.testBit n.toNat = true) := by
  unfold pl bt
  by_cases h : 0 ≤ n ∧ n < 512
  · rw [if_pos h, if_pos h]
    have e : N.testBit n.toNat = (wd N (n.toNat / 64)).testBit (n.toNat % 64) := by
      rw [wd_bit, decide_eq_true (Nat.mod_lt _ (by decide) : n.toNat % 64 < 64), Bool.true_and, Nat.div_add_mod]
    rw [e]
    cases hb : (wd N (n.toNat / 64)).testBit (n.toNat % 64) with
    | false =>
      have : wd N (n.toNat / 64) &&& 2 ^ (n.toNat % 64) = 0 := by
        apply Nat.eq_of_testBit_eq
        intro j
        rw [Nat.testBit_and, Nat.testBit_two_pow, Nat.zero_testBit]
        by_cases hj : n.toNat % 64 = j
        · rw [← hj, hb]; rfl
        · simp [hj]
      rw [this]
      simp
    | true =>
      have : wd N (n.toNat / 64) &&& 2 ^ (n.toNat % 64) ≠ 0 := by
        intro h0
        have h1 := congrArg (fun x => Nat.testBit x (n.toNat % 64)) h0
        simp only [Nat.testBit_and, Nat.zero_testBit] at h1
        rw [hb, Nat.testBit_two_pow_self] at h1
        cases h1
      simp [this, h]
  · rw [if_neg h, if_neg h]
    have : decide (0 ≤ n ∧ n < 512 ∧ N.testBit n.toNat = true) = false := by
      rw [decide_eq_false_iff_not]
      rintro ⟨a, b, _⟩
      exact h ⟨a, b⟩
    rw [this]
    simp
theorem has_asc {l : List Int} (h : Asc l) (n : Int) : decide (0 ≤ n ∧ n < 512 ∧ (bs l).testBit n.toNat = true) = hasB l n := by
  unfold hasB
  congr 1
  apply propext
  constructor
  · rintro ⟨h0, h1, h2⟩
    rw [bs_mem h0 h1, decide_eq_true_iff] at h2
    exact h2
  · intro hn
    obtain ⟨h0, h1⟩ := h.2 n hn
    exact ⟨h0, h1, by rw [bs_mem h0 h1, decide_eq_true_iff]; exact hn⟩
theorem take_snoc {zs : List Int} {k : Nat} (h : k < zs.length) : zs.take (k + 1) = zs.take k ++ [zs[k]] := by
  rw [List.take_succ_eq_append_getElem h]

/-- The elements of a word, off places up. -/
def bitsL (x off : Nat) : List Int := ((List.range 64).filter fun j => x.testBit j).map fun (j : Nat) => ((off + j : Nat) : Int)
theorem pre_succ (N k : Nat) : pre N (k + 1) = pre N k ++ bitsL (wd N k) (64 * k) := by
  unfold pre bitsL
  rw [show 64 * (k + 1) = 64 * k + 64 by omega, List.range_add, List.filter_append, List.map_append, List.filter_map, List.map_map]
  congr 1
  have : (List.filter ((fun j => N.testBit j) ∘ fun x => 64 * k + x) (List.range 64)) = (List.filter (fun j => (wd N k).testBit j) (List.range 64)) := by
    apply List.filter_congr
    intro j hj
    rw [List.mem_range] at hj
    simp [wd_bit, hj]
  rw [this]
  rfl
theorem pre_zero (N : Nat) : pre N 0 = [] := rfl
theorem bitsL_zero (off : Nat) : bitsL 0 off = [] := by simp [bitsL]
theorem mem_bitsL {x off : Nat} {z : Int} : z ∈ bitsL x off ↔ ∃ j, j < 64 ∧ x.testBit j = true ∧ z = ((off + j : Nat) : Int) := by
  simp only [bitsL, List.mem_map, List.mem_filter, List.mem_range]
  constructor
  · rintro ⟨j, ⟨h1, h2⟩, rfl⟩; exact ⟨j, h1, h2, rfl⟩
  · rintro ⟨j, h1, h2, rfl⟩; exact ⟨j, ⟨h1, h2⟩, rfl⟩
theorem pw_bitsL (x off : Nat) : (bitsL x off).Pairwise (· < ·) := by
  unfold bitsL
  rw [List.pairwise_map]
  refine ((List.pairwise_lt_range (n := 64)).filter _).imp ?_
  intro a b h
  omega
/-- x without its lowest bit. -/
theorem low_bit {x t m : Nat} (hx : x = 2 ^ t * (2 * m + 1)) (j : Nat) : (x &&& (x - 1)).testBit j = (x.testBit j && decide (j ≠ t)) ∧ x.testBit t = true ∧ (x.testBit j = true → t ≤ j) := by
  have hb : ∀ i, x.testBit i = (decide (t ≤ i) && (2 * m + 1).testBit (i - t)) := by
    intro i
    rw [hx, Nat.mul_comm, Nat.testBit_mul_two_pow]
  have hp : 0 < 2 ^ t := Nat.two_pow_pos t
  have h1 : x - 1 = 2 ^ t * (2 * m) + (2 ^ t - 1) := by
    rw [hx, Nat.mul_add, Nat.mul_one]
    omega
  have hc : ∀ i, (x - 1).testBit i = if i < t then true else (2 * m).testBit (i - t) := by
    intro i
    rw [h1, Nat.testBit_two_pow_mul_add _ (by omega)]
    split
    · rename_i h
      rw [Nat.testBit_two_pow_sub_one]
      simpa using h
    · rfl
  refine ⟨?_, ?_, ?_⟩
  · rw [Nat.testBit_and, hb, hc]
    by_cases h : j < t
    · simp [show ¬ t ≤ j by omega]
    · rw [if_neg h]
      by_cases e : j = t
      · subst e
        simp [Nat.testBit_zero]
      · obtain ⟨i, hi⟩ : ∃ i, j - t = i + 1 := ⟨j - t - 1, by omega⟩
        rw [hi, Nat.testBit_succ, Nat.testBit_succ, show (2 * m + 1) / 2 = m by omega, show 2 * m / 2 = m by omega]
        simp [e]
  · rw [hb]
    simp [Nat.testBit_zero]
  · intro h
    rw [hb] at h
    simp at h
    exact h.1
theorem bitsL_step {x t m off : Nat} (hx : x = 2 ^ t * (2 * m + 1)) (ht : t < 64) : bitsL x off = ((off + t : Nat) : Int) :: bitsL (x &&& (x - 1)) off := by
  refine pw_ext (pw_bitsL _ _) (List.pairwise_cons.2 ⟨fun z hz => ?_, pw_bitsL _ _⟩) fun z => ?_
  · obtain ⟨j, h1, h2, rfl⟩ := mem_bitsL.1 hz
    obtain ⟨ha, _, hc⟩ := low_bit hx j
    rw [ha] at h2
    simp at h2
    have := hc h2.1
    omega
  · rw [List.mem_cons, mem_bitsL, mem_bitsL]
    constructor
    · rintro ⟨j, h1, h2, rfl⟩
      obtain ⟨ha, _, hc⟩ := low_bit hx j
      by_cases e : j = t
      · subst e; exact .inl rfl
      · exact .inr ⟨j, h1, by rw [ha, h2]; simp [e], rfl⟩
    · rintro (rfl | ⟨j, h1, h2, rfl⟩)
      · exact ⟨t, ht, (low_bit hx t).2.1, rfl⟩
      · rw [(low_bit hx j).1] at h2
        simp at h2
        exact ⟨j, h1, h2.1, rfl⟩
theorem bitsL_length (x off : Nat) : (bitsL x off).length ≤ 64 := by
  unfold bitsL
  rw [List.length_map]
  exact Nat.le_trans (List.length_filter_le _ _) (by simp)
end Go.Proofs.YtidlnecgfgnllaaDoor
end

section
/-
  The laws of sets as lists. No function of the program is named here.
-/
namespace Go.Proofs.YtidlnecgfgnllaaDoor
open Go.RowKit
theorem meet_asc {a b : List Int} (h : Asc a) : Asc (meetL a b) := filter_asc _ h
theorem minus_asc {a b : List Int} (h : Asc a) : Asc (minusL a b) := filter_asc _ h
theorem remove_asc {a : List Int} {x : Int} (h : Asc a) : Asc (removeL a x) := filter_asc _ h
theorem mem_meet {a b : List Int} {z : Int} : z ∈ meetL a b ↔ z ∈ a ∧ z ∈ b := by simp [meetL]
theorem mem_minus {a b : List Int} {z : Int} : z ∈ minusL a b ↔ z ∈ a ∧ z ∉ b := by simp [minusL]
theorem mem_union {a b : List Int} (hb : Asc b) {z : Int} : z ∈ unionL a b ↔ z ∈ a ∨ z ∈ b := by
  rw [mem_unionL]
  constructor
  · rintro (h | h)
    · exact .inl h
    · exact .inr h.1
  · rintro (h | h)
    · exact .inl h
    · exact .inr ⟨h, hb.2 z h⟩
theorem absorb1 {x y : List Int} (hx : Asc x) (hy : Asc y) : meetL x (unionL x y) = x :=
  (meet_asc hx).ext hx fun z _ _ => by
    rw [mem_meet, mem_union hy]
    exact ⟨fun h => h.1, fun h => ⟨h, .inl h⟩⟩
theorem absorb2 {x y : List Int} (hx : Asc x) : unionL x (meetL x y) = x :=
  (unionL_asc hx).ext hx fun z _ _ => by
    rw [mem_union (meet_asc hx), mem_meet]
    exact ⟨fun h => h.elim id And.left, .inl⟩
theorem spread {x y z : List Int} (hx : Asc x) (hz : Asc z) : meetL x (unionL y z) = unionL (meetL x y) (meetL x z) :=
  (meet_asc hx).ext (unionL_asc (meet_asc hx)) fun v _ _ => by
    rw [mem_meet, mem_union hz, mem_union (meet_asc hx), mem_meet, mem_meet]
    constructor
    · rintro ⟨h, h1 | h1⟩
      · exact .inl ⟨h, h1⟩
      · exact .inr ⟨h, h1⟩
    · rintro (⟨h, h1⟩ | ⟨h, h1⟩)
      · exact ⟨h, .inl h1⟩
      · exact ⟨h, .inr h1⟩
theorem parts {x y : List Int} (hx : Asc x) : unionL (minusL x y) (meetL x y) = x :=
  (unionL_asc (minus_asc hx)).ext hx fun v _ _ => by
    rw [mem_union (meet_asc hx), mem_minus, mem_meet]
    constructor
    · rintro (h | h)
      · exact h.1
      · exact h.1
    · intro h
      by_cases hy : v ∈ y
      · exact .inr ⟨h, hy⟩
      · exact .inl ⟨h, hy⟩
theorem apart {x y : List Int} : meetL (minusL x y) y = [] := by
  rw [List.eq_nil_iff_forall_not_mem]
  intro v hv
  rw [mem_meet, mem_minus] at hv
  exact hv.1.2 hv.2
theorem morgan {x y z : List Int} (hx : Asc x) (hz : Asc z) : minusL x (unionL y z) = minusL (minusL x y) z :=
  (minus_asc hx).ext (minus_asc (minus_asc hx)) fun v _ _ => by
    rw [mem_minus, mem_union hz, mem_minus, mem_minus]
    constructor
    · rintro ⟨h, h1⟩
      exact ⟨⟨h, fun h2 => h1 (.inl h2)⟩, fun h2 => h1 (.inr h2)⟩
    · rintro ⟨⟨h, h1⟩, h2⟩
      exact ⟨h, fun h3 => h3.elim h1 h2⟩
theorem minus_nil {x y : List Int} : minusL x y = [] ↔ ∀ v ∈ x, v ∈ y := by
  rw [List.eq_nil_iff_forall_not_mem]
  constructor
  · intro h v hv
    by_cases hy : v ∈ y
    · exact hy
    · exact absurd (mem_minus.2 ⟨hv, hy⟩) (h v)
  · intro h v hv
    rw [mem_minus] at hv
    exact hv.2 (h v hv.1)
theorem within_union {x y : List Int} (hx : Asc x) (hy : Asc y) : decide (minusL x y = []) = decide (unionL x y = y) := by
  congr 1
  apply propext
  rw [minus_nil]
  constructor
  · intro h
    refine (unionL_asc hx).ext hy fun v _ _ => ?_
    rw [mem_union hy]
    exact ⟨fun h' => h'.elim (h v) id, .inr⟩
  · intro h v hv
    rw [← h, mem_union hy]
    exact .inl hv
theorem meet_within {a b : List Int} : decide (minusL (meetL a b) b = []) = true := by
  rw [decide_eq_true_iff, minus_nil]
  intro v hv
  exact (mem_meet.1 hv).2

end Go.Proofs.YtidlnecgfgnllaaDoor
end

section
/-
  What an instruction does to slots, as mathematics: what it reads, writes; what may be read ahead of it; its renaming; the laws of that. No function of the program is named here.
-/
namespace Go.Proofs.YtidlnecgfgnllaaDoor
open Go.RowKit

/-- The operation reads its operand B as a slot; writes its operand A as one. -/
def useB (o : Int) : Bool := decide (o = 15 ∨ o = 17)
def defB (o : Int) : Bool := decide (o = 16 ∨ o = 17)
def usL (o b : Int) : List Int := if useB o then [b] else []
def dfI (o a : Int) : Int := if defB o then a else 0
/-- What may be read ahead of the instruction. -/
def outL (o a : Int) (l : List Int) : List Int := if defB o then removeL l a else l
def inL (o a b : Int) (l : List Int) : List Int := unionL (outL o a l) (usL o b)
theorem asc_one {b : Int} (h0 : 0 ≤ b) (h1 : b < 512) : Asc [b] := ⟨by simp, fun z hz => by simp at hz; omega⟩
theorem usL_asc (o : Int) {b : Int} (h0 : 0 ≤ b) (h1 : b < 512) : Asc (usL o b) := by
  unfold usL
  split
  · exact asc_one h0 h1
  · exact Asc.nil
theorem outL_asc (o a : Int) {l : List Int} (h : Asc l) : Asc (outL o a l) := by
  unfold outL
  split
  · exact remove_asc h
  · exact h
theorem inL_asc (o a b : Int) {l : List Int} (h : Asc l) : Asc (inL o a b l) := unionL_asc (outL_asc o a h)
theorem mem_outL {o a z : Int} {l : List Int} : z ∈ outL o a l ↔ z ∈ l ∧ ¬ (defB o = true ∧ z = a) := by
  unfold outL
  split <;> rename_i h
  · simp [removeL, h]
  · simp [h]
theorem mem_inL {o a b z : Int} {l : List Int} (h0 : 0 ≤ b) (h1 : b < 512) : z ∈ inL o a b l ↔ (z ∈ l ∧ ¬ (defB o = true ∧ z = a)) ∨ z ∈ usL o b := by
  unfold inL
  rw [mem_union (usL_asc o h0 h1), mem_outL]
/-- Of a union it is the union. -/
theorem inL_union {o a b : Int} {l m : List Int} (h0 : 0 ≤ b) (h1 : b < 512) (hl : Asc l) (hm : Asc m) : inL o a b (unionL l m) = unionL (inL o a b l) (inL o a b m) :=
  (inL_asc o a b (unionL_asc hl)).ext (unionL_asc (inL_asc o a b hl)) fun z _ _ => by
    rw [mem_union (inL_asc o a b hm), mem_inL h0 h1, mem_inL h0 h1, mem_inL h0 h1, mem_union hm]
    constructor
    · rintro (⟨h | h, k⟩ | h)
      · exact .inl (.inl ⟨h, k⟩)
      · exact .inr (.inl ⟨h, k⟩)
      · exact .inl (.inr h)
    · rintro ((h | h) | (h | h))
      · exact .inl ⟨.inl h.1, h.2⟩
      · exact .inr h
      · exact .inl ⟨.inr h.1, h.2⟩
      · exact .inr h
/-- A smaller set gives a smaller one. -/
theorem inL_meet {o a b : Int} {l m : List Int} (h0 : 0 ≤ b) (h1 : b < 512) : minusL (inL o a b (meetL l m)) (inL o a b l) = [] := by
  rw [minus_nil]
  intro z hz
  rw [mem_inL h0 h1] at hz ⊢
  rcases hz with h | h
  · exact .inl ⟨(mem_meet.1 h.1).1, h.2⟩
  · exact .inr h
/-- A slot renamed by a list. -/
def plZ (to_ : List Int) (s : Int) : Int := if 0 ≤ s then to_.getD s.toNat s else s
def rnA (o a : Int) (to_ : List Int) : Int := if defB o then plZ to_ a else a
def rnB (o b : Int) (to_ : List Int) : Int := if useB o then plZ to_ b else b
theorem plZ_in {to_ : List Int} {s : Int} (h0 : 0 ≤ s) (h1 : s.toNat < to_.length) : plZ to_ s = to_[s.toNat] := by
  unfold plZ
  rw [if_pos h0, List.getD_eq_getElem?_getD, List.getElem?_eq_getElem h1]
  rfl
theorem plZ_out {to_ : List Int} {s : Int} (h : s < 0 ∨ (to_.length : Int) ≤ s) : plZ to_ s = s := by
  unfold plZ
  split
  · rw [List.getD_eq_getElem?_getD, List.getElem?_eq_none (by omega)]
    rfl
  · rfl
theorem plZ_nil (s : Int) : plZ [] s = s := plZ_out (by simp; omega)
theorem plZ_same (s : Int) : plZ [0, 1, 2, 3, 4, 5, 6, 7, 8] s = s := by
  by_cases h : 0 ≤ s ∧ s < 9
  · obtain ⟨k, rfl⟩ := Int.eq_ofNat_of_zero_le h.1
    have hk : k < 9 := by omega
    rcases k with _ | _ | _ | _ | _ | _ | _ | _ | _ | k <;> first | rfl | omega
  · exact plZ_out (by simp; omega)
theorem rnA_nil (o a : Int) : rnA o a [] = a := by simp [rnA, plZ_nil]
theorem rnB_nil (o b : Int) : rnB o b [] = b := by simp [rnB, plZ_nil]
theorem rnA_same (o a : Int) : rnA o a [0, 1, 2, 3, 4, 5, 6, 7, 8] = a := by simp only [rnA, plZ_same, ite_self]
theorem rnB_same (o b : Int) : rnB o b [0, 1, 2, 3, 4, 5, 6, 7, 8] = b := by simp only [rnB, plZ_same, ite_self]
end Go.Proofs.YtidlnecgfgnllaaDoor
end
