import Derived.Test.YtafegghdhdgioabGreatMKit
import Derived.ProofKit
import Derived.WalkKit
import Derived.Laws.AppendOwn
import Derived.Maps.AppendAt
set_option linter.unusedVariables false
set_option linter.unusedSimpArgs false
section
/-
  Plain mathematics of extents: alignments, rounding up, intervals, the least offset that fits. No function of the program is named here.
-/
namespace Go.Proofs.YtafegghdhdgioabGreat
open Go.RowKit

/-- n is a bound. -/
def bndB (n : Int) : Bool := decide (0 ≤ n ∧ n ≤ 2147483647)
/-- n is a power of two from 1 to 2^24. -/
def powB (n : Int) : Bool := (List.range 25).any fun k => decide (n = (2 : Int) ^ k)
theorem bndB_iff {n : Int} : bndB n = true ↔ 0 ≤ n ∧ n ≤ 2147483647 := by simp [bndB]
theorem powB_iff {n : Int} : powB n = true ↔ ∃ k : Nat, k ≤ 24 ∧ n = (2 : Int) ^ k := by
  simp only [powB, List.any_eq_true, List.mem_range, decide_eq_true_eq]
  exact ⟨fun ⟨k, h, e⟩ => ⟨k, by omega, e⟩, fun ⟨k, h, e⟩ => ⟨k, by omega, e⟩⟩
theorem two_pow_b {k : Nat} (h : k ≤ 24) : (1 : Int) ≤ (2 : Int) ^ k ∧ (2 : Int) ^ k ≤ 16777216 := by
  have h1 : (2 : Nat) ^ k ≤ 2 ^ 24 := Nat.pow_le_pow_right (by omega) h
  have h2 : 1 ≤ (2 : Nat) ^ k := Nat.one_le_two_pow
  have e : ((2 : Int) ^ k) = ((2 ^ k : Nat) : Int) := by simp
  rw [e]
  omega
theorem powB_b {n : Int} (h : powB n = true) : 1 ≤ n ∧ n ≤ 16777216 := by
  obtain ⟨k, hk, rfl⟩ := powB_iff.1 h
  exact two_pow_b hk
theorem powB_out {n : Int} (h : n < 1 ∨ 16777216 < n) : powB n = false := by
  cases e : powB n with
  | false => rfl
  | true => have := powB_b e; omega

theorem ofInt_i64' (a : Nat) (ha : a < 18446744073709551616) : (BitVec.ofInt 64 (a : Int)).toNat = a := by
  rw [BitVec.ofInt_natCast, BitVec.toNat_ofNat]; exact Nat.mod_eq_of_lt (by omega)
theorem wrap_i64 (a : Int) (h0 : -9223372036854775808 ≤ a) (h1 : a ≤ 9223372036854775807) : IntKind.i64.wrap a = a := by
  simp [IntKind.wrap, IntKind.bits, IntKind.signed]; omega
theorem and_less_one (n : Int) (h0 : 1 ≤ n) (h1 : n ≤ 16777216) : bits .and .i64 n (n - 1) = (((n.toNat &&& (n.toNat - 1)) : Nat) : Int) := by
  obtain ⟨m, rfl⟩ := Int.eq_ofNat_of_zero_le (show 0 ≤ n by omega)
  rw [show ((m : Int) - 1) = ((m - 1 : Nat) : Int) by omega]
  show IntKind.i64.wrap ((BitVec.ofInt 64 (m : Int) &&& BitVec.ofInt 64 ((m - 1 : Nat) : Int)).toNat : Int) = _
  rw [BitVec.toNat_and, ofInt_i64' m (by omega), ofInt_i64' (m - 1) (by omega), Int.toNat_natCast]
  have := Nat.and_le_left (n := m) (m := m - 1)
  rw [wrap_i64 _ (by omega) (by omega)]
/-- The test of the bits. -/
theorem bits_pow (n : Int) (h0 : 1 ≤ n) (h1 : n ≤ 16777216) : (bits .and .i64 n (n - 1) == 0) = powB n := by
  rw [and_less_one n h0 h1]
  obtain ⟨m, rfl⟩ := Int.eq_ofNat_of_zero_le (show 0 ≤ n by omega)
  have hp := Nat.and_sub_one_eq_zero_iff_isPowerOfTwo (n := m) (by omega)
  rw [Int.toNat_natCast, Bool.eq_iff_iff, powB_iff, beq_iff_eq]
  constructor
  · intro h
    obtain ⟨k, hk⟩ := hp.1 (by omega)
    refine ⟨k, ?_, by rw [hk]; simp⟩
    rcases Nat.lt_or_ge 24 k with hlt | hge
    · have : (2 : Nat) ^ 25 ≤ 2 ^ k := Nat.pow_le_pow_right (by omega) hlt
      omega
    · exact hge
  · rintro ⟨k, _, hk⟩
    have e : m = 2 ^ k := by
      have : ((2 : Int) ^ k) = ((2 ^ k : Nat) : Int) := by simp
      omega
    have := hp.2 ⟨k, e⟩
    omega

/-- n rounded up to a multiple of a. -/
def upM (n a : Int) : Int := n + (-n) % a
theorem upM_dvd (n a : Int) : a ∣ upM n a := by
  refine ⟨-((-n) / a), ?_⟩
  have := Int.mul_ediv_add_emod (-n) a
  unfold upM
  rw [Int.mul_neg]
  omega
theorem upM_b (n : Int) {a : Int} (h : 0 < a) : n ≤ upM n a ∧ upM n a < n + a := by
  have h1 := Int.emod_nonneg (-n) (show a ≠ 0 by omega)
  have h2 := Int.emod_lt_of_pos (-n) h
  unfold upM
  omega
theorem mult_eq {a x y n : Int} (h : 0 < a) (hx : a ∣ x) (hy : a ∣ y) (x0 : n ≤ x) (x1 : x < n + a) (y0 : n ≤ y) (y1 : y < n + a) : x = y := by
  obtain ⟨p, rfl⟩ := hx
  obtain ⟨q, rfl⟩ := hy
  rcases Int.lt_trichotomy p q with hl | rfl | hl
  · have := Int.mul_le_mul_of_nonneg_left (show p + 1 ≤ q by omega) (Int.le_of_lt h)
    rw [Int.mul_add, Int.mul_one] at this
    omega
  · rfl
  · have := Int.mul_le_mul_of_nonneg_left (show q + 1 ≤ p by omega) (Int.le_of_lt h)
    rw [Int.mul_add, Int.mul_one] at this
    omega
theorem upM_eq {a x n : Int} (h : 0 < a) (hx : a ∣ x) (x0 : n ≤ x) (x1 : x < n + a) : x = upM n a :=
  mult_eq h hx (upM_dvd n a) x0 x1 (upM_b n h).1 (upM_b n h).2
theorem upM_least {a x n : Int} (h : 0 < a) (hx : a ∣ x) (x0 : n ≤ x) : upM n a ≤ x := by
  have := upM_b n h
  rcases Int.lt_or_le x (n + a) with h1 | h1
  · rw [upM_eq h hx x0 h1]; omega
  · omega
theorem upM_ref {n a : Int} (h : 0 < a) (hn : n % a ≠ 0) : n - n % a + a = upM n a := by
  have h1 := Int.emod_nonneg n (show a ≠ 0 by omega)
  have h2 := Int.emod_lt_of_pos n h
  refine upM_eq h ⟨n / a + 1, ?_⟩ (by omega) (by omega)
  have := Int.mul_ediv_add_emod n a
  rw [Int.mul_add, Int.mul_one]
  omega
theorem upM_zero {n a : Int} (h : 0 < a) (hn : n % a = 0) : n = upM n a :=
  upM_eq h (Int.dvd_of_emod_eq_zero hn) (Int.le_refl _) (by omega)
theorem upM_self {n a : Int} (h : 0 < a) (hn : a ∣ n) : upM n a = n := (upM_zero h (Int.emod_eq_zero_of_dvd hn)).symm
/-- The mask's bits. -/
theorem mask_mod (n : Int) (k : Nat) (hk : k ≤ 24) (_ : 0 ≤ n) (_ : n ≤ 2147483647) : bits .and .i64 (-n) ((2 : Int) ^ k - 1) = (-n) % (2 : Int) ^ k := by
  have hb := two_pow_b hk
  have hp : (1 : Nat) ≤ 2 ^ k := Nat.one_le_two_pow
  have hpe : ((2 : Int) ^ k) = ((2 ^ k : Nat) : Int) := by simp
  have e1 : (BitVec.ofInt 64 (-n)).toNat = ((-n) % 18446744073709551616).toNat := by
    rw [BitVec.toNat_ofInt]; rfl
  have e2 : (BitVec.ofInt 64 ((2 : Int) ^ k - 1)).toNat = 2 ^ k - 1 := by
    rw [show ((2 : Int) ^ k - 1) = ((2 ^ k - 1 : Nat) : Int) by rw [hpe]; omega]
    exact ofInt_i64' _ (by rw [hpe] at hb; omega)
  show IntKind.i64.wrap ((BitVec.ofInt 64 (-n) &&& BitVec.ofInt 64 ((2 : Int) ^ k - 1)).toNat : Int) = _
  rw [BitVec.toNat_and, e1, e2, Nat.and_two_pow_sub_one_eq_mod]
  have hlt := Nat.mod_lt ((-n) % 18446744073709551616).toNat (show 2 ^ k > 0 by omega)
  rw [hpe] at hb
  rw [wrap_i64 _ (by omega) (by omega), hpe, Int.natCast_emod, Int.toNat_of_nonneg (Int.emod_nonneg _ (by omega))]
  apply Int.emod_emod_of_dvd
  refine ⟨((2 ^ (64 - k) : Nat) : Int), ?_⟩
  rw [← Int.natCast_mul, ← Nat.pow_add, show k + (64 - k) = 64 by omega]
  rfl

/-- What Add gives: the sum and the error. -/
def addV (x y : Int) : Int := if bndB x && bndB y && decide (x + y ≤ 2147483647) then x + y else 0
def addE (x y : Int) : Int := if bndB x && bndB y then (if x + y ≤ 2147483647 then 0 else 9) else 4
/-- What Up gives. -/
def upV (n a : Int) : Int := if bndB n && powB a && decide (upM n a ≤ 2147483647) then upM n a else 0
def upE (n a : Int) : Int := if bndB n && powB a then (if upM n a ≤ 2147483647 then 0 else 9) else 4
theorem add_bad {x y : Int} (h : (bndB x && bndB y) = false) : addV x y = 0 ∧ addE x y = 4 := by simp [addV, addE, h]
theorem add_great {x y : Int} (hx : bndB x = true) (hy : bndB y = true) (h : 2147483647 < x + y) : addV x y = 0 ∧ addE x y = 9 := by
  simp [addV, addE, hx, hy, show ¬ x + y ≤ 2147483647 by omega]
theorem add_ok {x y : Int} (hx : bndB x = true) (hy : bndB y = true) (h : x + y ≤ 2147483647) : addV x y = x + y ∧ addE x y = 0 := by
  simp [addV, addE, hx, hy, h]
theorem up_bad {n a : Int} (h : (bndB n && powB a) = false) : upV n a = 0 ∧ upE n a = 4 := by simp [upV, upE, h]
theorem up_great {n a : Int} (hx : bndB n = true) (hy : powB a = true) (h : 2147483647 < upM n a) : upV n a = 0 ∧ upE n a = 9 := by
  simp [upV, upE, hx, hy, show ¬ upM n a ≤ 2147483647 by omega]
theorem up_ok {n a : Int} (hx : bndB n = true) (hy : powB a = true) (h : upM n a ≤ 2147483647) : upV n a = upM n a ∧ upE n a = 0 := by
  simp [upV, upE, hx, hy, h]
theorem addE_cases (x y : Int) : addE x y = 0 ∨ addE x y = 4 ∨ addE x y = 9 := by unfold addE; split <;> (try split) <;> simp
theorem addE_b (x y : Int) : 0 ≤ addE x y ∧ addE x y ≤ 9 := by rcases addE_cases x y with h | h | h <;> rw [h] <;> omega
theorem upE_cases (x y : Int) : upE x y = 0 ∨ upE x y = 4 ∨ upE x y = 9 := by unfold upE; split <;> (try split) <;> simp
theorem upE_b (x y : Int) : 0 ≤ upE x y ∧ upE x y ≤ 9 := by rcases upE_cases x y with h | h | h <;> rw [h] <;> omega
theorem addV_b (x y : Int) : 0 ≤ addV x y ∧ addV x y ≤ 2147483647 := by
  unfold addV; split
  · rename_i h
    simp [bndB] at h
    omega
  · omega
theorem upV_b (n a : Int) : 0 ≤ upV n a ∧ upV n a ≤ 2147483647 := by
  unfold upV; split
  · rename_i h
    simp [bndB] at h
    obtain ⟨⟨h1, h2⟩, h3⟩ := h
    have := (upM_b n (show 0 < a by have := powB_b h2; omega)).1
    omega
  · omega

/-- An interval is right. -/
def rightB (o s : Int) : Bool := bndB o && bndB s && decide (o + s ≤ 2147483647)
theorem rightB_iff {o s : Int} : rightB o s = true ↔ 0 ≤ o ∧ 0 ≤ s ∧ o + s ≤ 2147483647 := by
  simp [rightB, bndB]; omega
theorem rightB_add (o s : Int) : decide (addE o s = 0) = rightB o s := by
  unfold rightB addE
  cases bndB o <;> cases bndB s <;> simp
/-- Two intervals are right and have a byte in common. -/
def ovlB (o s p t : Int) : Bool := rightB o s && rightB p t && decide (0 < s) && decide (0 < t) && decide (o < p + t) && decide (p < o + s)
theorem ovlB_iff {o s p t : Int} : ovlB o s p t = true ↔ (0 ≤ o ∧ 0 ≤ s ∧ o + s ≤ 2147483647) ∧ (0 ≤ p ∧ 0 ≤ t ∧ p + t ≤ 2147483647) ∧ 0 < s ∧ 0 < t ∧ o < p + t ∧ p < o + s := by
  simp [ovlB, rightB_iff, and_assoc]
theorem ovlB_comm (o s p t : Int) : ovlB o s p t = ovlB p t o s := by
  rw [Bool.eq_iff_iff, ovlB_iff, ovlB_iff]; omega
theorem ovlB_dev {o s p t : Int} (h : rightB o s = true) (h' : rightB p t = true) : decide (max o p < min (o + s) (p + t)) = ovlB o s p t := by
  rw [Bool.eq_iff_iff, ovlB_iff, decide_eq_true_eq]
  rw [rightB_iff] at h h'
  omega
theorem ovlB_off {o s p t : Int} (h : rightB o s = false ∨ rightB p t = false) : ovlB o s p t = false := by
  rcases h with h | h <;> simp [ovlB, h]
/-- An interval is right and inside of n bytes. -/
def insB (o s n : Int) : Bool := rightB o s && decide (o + s ≤ n)

/-- The offset x fits. -/
def Fits (us : List (Int × Int)) (fr size a x : Int) : Prop := fr ≤ x ∧ a ∣ x ∧ x + size ≤ 2147483647 ∧ ∀ u ∈ us, ovlB u.1 u.2 x size = false
/-- The arguments are right. -/
def fitArgs (us : List (Int × Int)) (fr size a : Int) : Bool := bndB fr && bndB size && powB a && us.all fun u => rightB u.1 u.2
/-- v and e are what Fit gives. -/
def IsFit (us : List (Int × Int)) (fr size a v e : Int) : Prop :=
  (fitArgs us fr size a = false ∧ v = 0 ∧ e = 4) ∨
  (fitArgs us fr size a = true ∧ ((Fits us fr size a v ∧ (∀ x, Fits us fr size a x → v ≤ x) ∧ e = 0) ∨ ((∀ x, ¬ Fits us fr size a x) ∧ v = 0 ∧ e = 9)))
theorem IsFit.one {us : List (Int × Int)} {fr size a v e v' e' : Int} (h : IsFit us fr size a v e) (h' : IsFit us fr size a v' e') : v = v' ∧ e = e' := by
  rcases h with ⟨h1, rfl, rfl⟩ | ⟨h1, h⟩ <;> rcases h' with ⟨h2, rfl, rfl⟩ | ⟨h2, h'⟩
  · exact ⟨rfl, rfl⟩
  · rw [h1] at h2; cases h2
  · rw [h1] at h2; cases h2
  · rcases h with ⟨f, l, rfl⟩ | ⟨n, rfl, rfl⟩ <;> rcases h' with ⟨f', l', rfl⟩ | ⟨n', rfl, rfl⟩
    · exact ⟨Int.le_antisymm (l _ f') (l' _ f), rfl⟩
    · exact absurd f (n' _)
    · exact absurd f' (n _)
    · exact ⟨rfl, rfl⟩

section
variable {us done : List (Int × Int)} {fr size a x : Int}
/-- What one pass over the intervals, in ascending order of their offsets, keeps. -/
def Pass (us done : List (Int × Int)) (fr size a x : Int) : Prop :=
  fr ≤ x ∧ a ∣ x ∧ x ≤ 2147483647 ∧ (∀ y, Fits us fr size a y → x ≤ y) ∧ (x + size ≤ 2147483647 → ∀ u ∈ done, ovlB u.1 u.2 x size = false)
theorem Pass.start (ha : 0 < a) (h : upM fr a ≤ 2147483647) : Pass us [] fr size a (upM fr a) :=
  ⟨(upM_b fr ha).1, upM_dvd fr a, h, fun _ hy => upM_least ha hy.2.1 hy.1, fun _ u hu => by cases hu⟩
theorem Pass.none_ (ha : 0 < a) (hs : 0 ≤ size) (h : 2147483647 < upM fr a) (y : Int) : ¬ Fits us fr size a y := fun hy => by
  have := upM_least ha hy.2.1 hy.1
  have := hy.2.2.1
  omega
theorem Pass.skip {u : Int × Int} (h : Pass us done fr size a x) (hu : ovlB u.1 u.2 x size = false) : Pass us (done ++ [u]) fr size a x :=
  ⟨h.1, h.2.1, h.2.2.1, h.2.2.2.1, fun hx v hv => by
    rcases List.mem_append.1 hv with hv | hv
    · exact h.2.2.2.2 hx v hv
    · simp at hv; subst hv; exact hu⟩
/-- The end of an interval that overlaps: nothing in between fits. -/
theorem Pass.beyond {u : Int × Int} (h : Pass us done fr size a x) (ha : 0 < a) (hm : u ∈ us) (hu : ovlB u.1 u.2 x size = true) (y : Int) (hy : Fits us fr size a y) : upM (u.1 + u.2) a ≤ y := by
  have h1 := h.2.2.2.1 y hy
  have h2 := hy.2.2.2 u hm
  have h3 := hy.2.2.1
  rw [ovlB_iff] at hu
  refine upM_least ha hy.2.1 ?_
  rcases Int.lt_or_le y (u.1 + u.2) with hl | hl
  · have : ovlB u.1 u.2 y size = true := by rw [ovlB_iff]; omega
    rw [h2] at this; cases this
  · exact hl
theorem Pass.move {u : Int × Int} (h : Pass us done fr size a x) (ha : 0 < a) (hm : u ∈ us) (hu : ovlB u.1 u.2 x size = true) (hd : ∀ v ∈ done, v.1 ≤ u.1) (hx : upM (u.1 + u.2) a ≤ 2147483647) :
    Pass us (done ++ [u]) fr size a (upM (u.1 + u.2) a) := by
  have hb := upM_b (u.1 + u.2) ha
  have ho := hu
  rw [ovlB_iff] at ho
  have h0 := h.1
  refine ⟨by omega, upM_dvd _ _, hx, h.beyond ha hm hu, fun hs v hv => ?_⟩
  cases e : ovlB v.1 v.2 (upM (u.1 + u.2) a) size with
  | false => rfl
  | true =>
    rw [ovlB_iff] at e
    rcases List.mem_append.1 hv with hv | hv
    · have h1 := h.2.2.2.2 (by omega) v hv
      have h2 := hd v hv
      have : ovlB v.1 v.2 x size = true := by rw [ovlB_iff]; omega
      rw [h1] at this; cases this
    · simp at hv; subst hv; omega
theorem Pass.stuck {u : Int × Int} (h : Pass us done fr size a x) (ha : 0 < a) (hs : 0 ≤ size) (hm : u ∈ us) (hu : ovlB u.1 u.2 x size = true) (hx : 2147483647 < upM (u.1 + u.2) a) (y : Int) : ¬ Fits us fr size a y := fun hy => by
  have := h.beyond ha hm hu y hy
  have := hy.2.2.1
  omega
theorem Pass.found (h : Pass us done fr size a x) (hd : ∀ u ∈ us, u ∈ done) (hx : x + size ≤ 2147483647) : Fits us fr size a x ∧ ∀ y, Fits us fr size a y → x ≤ y :=
  ⟨⟨h.1, h.2.1, hx, fun u hu => h.2.2.2.2 hx u (hd u hu)⟩, h.2.2.2.1⟩
theorem Pass.full (h : Pass us done fr size a x) (hx : 2147483647 < x + size) (y : Int) : ¬ Fits us fr size a y := fun hy => by
  have := h.2.2.2.1 y hy
  have := hy.2.2.1
  omega

/-- The places that the reference tries. -/
def cand (us : List (Int × Int)) (fr : Int) (k : Nat) : Int := if k = 0 then fr else max fr ((us.getD (k - 1) (0, 0)).1 + (us.getD (k - 1) (0, 0)).2)
/-- Where an offset fits, it is one of the places, or the multiple below it fits too. -/
theorem cand_step (ha : 0 < a) (_ : ∀ u ∈ us, rightB u.1 u.2 = true) (hf : 0 ≤ fr) (_ : 0 ≤ size) (h : Fits us fr size a x) : (∃ k, k ≤ us.length ∧ x = upM (cand us fr k) a) ∨ Fits us fr size a (x - a) := by
  rcases Int.lt_or_le (x - a) fr with h1 | h1
  · exact .inl ⟨0, by omega, by show x = upM fr a; exact upM_eq ha h.2.1 h.1 (by omega)⟩
  · by_cases hA : ∀ u ∈ us, ovlB u.1 u.2 (x - a) size = false
    · exact .inr ⟨h1, Int.dvd_sub h.2.1 (Int.dvd_refl a), by have := h.2.2.1; omega, hA⟩
    · left
      have hA' : ∃ u, u ∈ us ∧ ovlB u.1 u.2 (x - a) size = true := by
        refine Classical.byContradiction fun hn => hA fun u hu => ?_
        cases e : ovlB u.1 u.2 (x - a) size with
        | false => rfl
        | true => exact absurd ⟨u, hu, e⟩ hn
      obtain ⟨u, hu, ho⟩ := hA'
      obtain ⟨k, hk, rfl⟩ := List.getElem_of_mem hu
      have h2 := h.2.2.2 _ hu
      have h3 := h.2.2.1
      have h4 := h.1
      rw [ovlB_iff] at ho
      have hend : us[k].1 + us[k].2 ≤ x := by
        rcases Int.lt_or_le x (us[k].1 + us[k].2) with hl | hl
        · have : ovlB us[k].1 us[k].2 x size = true := by rw [ovlB_iff]; omega
          rw [h2] at this; cases this
        · exact hl
      have hc : cand us fr (k + 1) = max fr (us[k].1 + us[k].2) := by
        simp [cand, List.getD_eq_getElem?_getD, List.getElem?_eq_getElem hk]
      refine ⟨k + 1, by omega, ?_⟩
      rw [hc]
      exact upM_eq ha h.2.1 (by omega) (by omega)
theorem cand_all (ha : 0 < a) (hr : ∀ u ∈ us, rightB u.1 u.2 = true) (hf : 0 ≤ fr) (hs : 0 ≤ size) : ∀ (n : Nat) (x : Int), (x - fr).toNat = n → Fits us fr size a x → ∃ k, k ≤ us.length ∧ upM (cand us fr k) a ≤ x ∧ Fits us fr size a (upM (cand us fr k) a) := by
  intro n
  induction n using Nat.strongRecOn with
  | _ n ih =>
    intro x hn h
    rcases cand_step ha hr hf hs h with ⟨k, hk, e⟩ | h'
    · exact ⟨k, hk, by omega, e ▸ h⟩
    · have h1 := h'.1
      obtain ⟨k, hk, hle, hF⟩ := ih (x - a - fr).toNat (by omega) (x - a) rfl h'
      exact ⟨k, hk, by omega, hF⟩

/-- What the reference's loop keeps. -/
def Best (us : List (Int × Int)) (fr size a : Int) (k : Nat) (b : Int) (f : Bool) : Prop :=
  (f = true → Fits us fr size a b) ∧ ∀ j, j < k → Fits us fr size a (upM (cand us fr j) a) → f = true ∧ b ≤ upM (cand us fr j) a
theorem Best.start : Best us fr size a 0 0 false := ⟨(fun h => by cases h), fun j hj => by omega⟩
theorem Best.skip {k : Nat} {b : Int} {f : Bool} (h : Best us fr size a k b f) (hn : ¬ Fits us fr size a (upM (cand us fr k) a)) : Best us fr size a (k + 1) b f :=
  ⟨h.1, fun j hj hF => by
    by_cases e : j = k
    · subst e; exact absurd hF hn
    · exact h.2 j (by omega) hF⟩
theorem Best.keep {k : Nat} {b : Int} {f : Bool} (h : Best us fr size a k b f) (hf : f = true) (hb : b ≤ upM (cand us fr k) a) : Best us fr size a (k + 1) b f :=
  ⟨h.1, fun j hj hF => by
    by_cases e : j = k
    · subst e; exact ⟨hf, hb⟩
    · exact h.2 j (by omega) hF⟩
theorem Best.take {k : Nat} {b : Int} {f : Bool} (h : Best us fr size a k b f) (hF : Fits us fr size a (upM (cand us fr k) a)) (hb : f = false ∨ upM (cand us fr k) a ≤ b) : Best us fr size a (k + 1) (upM (cand us fr k) a) true :=
  ⟨fun _ => hF, fun j hj hG => by
    by_cases e : j = k
    · subst e; exact ⟨rfl, Int.le_refl _⟩
    · obtain ⟨h1, h2⟩ := h.2 j (by omega) hG
      rcases hb with hb | hb
      · rw [h1] at hb; cases hb
      · exact ⟨rfl, by omega⟩⟩
theorem Best.end_ {b : Int} {f : Bool} (h : Best us fr size a (us.length + 1) b f) (ha : 0 < a) (hr : ∀ u ∈ us, rightB u.1 u.2 = true) (hf : 0 ≤ fr) (hs : 0 ≤ size) :
    (f = true → Fits us fr size a b ∧ ∀ x, Fits us fr size a x → b ≤ x) ∧ (f = false → ∀ x, ¬ Fits us fr size a x) := by
  constructor
  · intro e
    refine ⟨h.1 e, fun x hx => ?_⟩
    obtain ⟨k, hk, hle, hF⟩ := cand_all ha hr hf hs _ x rfl hx
    have := (h.2 k (by omega) hF).2
    omega
  · intro e x hx
    obtain ⟨k, hk, hle, hF⟩ := cand_all ha hr hf hs _ x rfl hx
    have := (h.2 k (by omega) hF).1
    rw [e] at this; cases this
end
end Go.Proofs.YtafegghdhdgioabGreat
end

section
/-
  Small words for the ends of walks. No function of the program is named here.
-/
namespace Go.Proofs.YtafegghdhdgioabGreat
open Go.RowKit

theorem ret_bool {a b : Bool} (h : a = b) : Ending.returned (.bool a) = .returned (.bool b) := by rw [h]
end Go.Proofs.YtafegghdhdgioabGreat
end

section
/-
  The contract of extent.Power; what a right slot is. Conditions: those of the types.
-/
namespace Go.Proofs.YtafegghdhdgioabGreat
open Go.RowKit

theorem ret_two {a b c d : Int} (h : a = b) (h' : c = d) : Ending.returned (.tuple #[.int .i64 a, .int .i64 c]) = .returned (.tuple #[.int .i64 b, .int .i64 d]) := by rw [h, h']
/-- An int. -/
def isI (n : Int) : Prop := -9223372036854775808 ≤ n ∧ n ≤ 9223372036854775807

theorem power_any (n : Int) (w : World) : Calls Tryz.prog 41 #[.int .i64 n] w fun e w' => e = .returned (.bool (powB n)) ∧ w = w' := by
  by_cases h0 : 1 ≤ n
  · by_cases h1 : n ≤ 16777216
    · have hb := bits_pow n h0 h1
      generalize powB n = b at hb ⊢
      go_enter Tryz.func41, Tryz.ntmps41
      go_wp2
      go_ret
      exact ⟨rfl, rfl⟩
    · have hp := hide (powB_out (n := n) (by omega))
      go_enter Tryz.func41, Tryz.ntmps41
      go_wp2
      go_ret
      exact ⟨ret_bool hp.out.symm, rfl⟩
  · have hp := hide (powB_out (n := n) (by omega))
    go_enter Tryz.func41, Tryz.ntmps41
    go_wp2
    go_ret
    exact ⟨ret_bool hp.out.symm, rfl⟩

/-- A size of a slot. -/
def szB (n : Int) : Bool := decide (n = 1 ∨ n = 2 ∨ n = 4 ∨ n = 8 ∨ n = 16)
/-- A slot is right. -/
def slotB (s a : Int) : Bool := szB s && powB a

end Go.Proofs.YtafegghdhdgioabGreat
end

section
/-
  What extent.Slots and Align give, as mathematics. No function of the program is named here.
-/
namespace Go.Proofs.YtafegghdhdgioabGreat
open Go.RowKit

/-- The error of a list of slots. -/
def slotsE (l : List (Int × Int)) : Int := if 512 < l.length then 3 else if l.any (fun u => !slotB u.1 u.2) then 5 else 0
theorem slotsE_many {l : List (Int × Int)} (h : 512 < l.length) : slotsE l = 3 := by simp [slotsE, h]
theorem slotsE_few {l : List (Int × Int)} (h : l.length ≤ 512) : slotsE l = if l.any (fun u => !slotB u.1 u.2) then 5 else 0 := by simp only [slotsE]; rw [if_neg (by omega)]
/-- The greatest alignment of the first k slots, at least 16. -/
def alM (l : List (Int × Int)) (k : Nat) : Int := (l.take k).foldl (fun m u => max m u.2) 16
theorem alM_zero (l : List (Int × Int)) : alM l 0 = 16 := rfl
theorem alM_succ (l : List (Int × Int)) (k : Nat) (hk : k < l.length) : alM l (k + 1) = max (alM l k) l[k].2 := by
  unfold alM
  rw [List.take_add_one, List.getElem?_eq_getElem hk, List.foldl_append]
  rfl
/-- What Align gives. -/
def alignV (l : List (Int × Int)) : Int := if slotsE l = 0 then alM l l.length else 16

theorem slotsE_cases (l : List (Int × Int)) : slotsE l = 0 ∨ slotsE l = 3 ∨ slotsE l = 5 := by unfold slotsE; split <;> (try split) <;> simp

theorem any_hit {l : List (Int × Int)} {p : Int × Int → Bool} {k : Nat} (hk : k < l.length) (h : p l[k] = true) : l.any p = true := List.any_eq_true.2 ⟨l[k], List.getElem_mem hk, h⟩
theorem any_miss {l : List (Int × Int)} {p : Int × Int → Bool} (h : ∀ j (hj : j < l.length), p l[j] = false) : l.any p = false := by
  rw [List.any_eq_false]
  intro x hx
  obtain ⟨j, hj, rfl⟩ := List.getElem_of_mem hx
  rw [h j hj]
  simp

end Go.Proofs.YtafegghdhdgioabGreat
end

section
/-
  The mathematics of source programs: instructions, functions, programs as lists; their errors, and when a change is noticed. Nothing here names the program.
-/
namespace Go.Proofs.YtafegghdhdgioabGreat
open Go.RowKit

/-- An instruction. -/
structure Ins where
  op : Int
  a : Int
  b : Int
  c : Int
  imm : Int
/-- A function. -/
structure Fn where
  params : Int
  slots : List (Int × Int)
  code : List Ins
/-- A program. -/
abbrev Pg := List Fn

/-- The first number that is not 0, or 0. -/
def firstE : List Int → Int
  | [] => 0
  | e :: r => if e = 0 then firstE r else e
theorem firstE_zero {l : List Int} : firstE l = 0 ↔ ∀ e ∈ l, e = 0 := by
  induction l with
  | nil => simp [firstE]
  | cons e r ih =>
    by_cases h : e = 0
    · simp [firstE, h, ih]
    · simp [firstE, h]
theorem firstE_hit {l : List Int} {k : Nat} {e : Int} (hk : l[k]? = some e) (he : e ≠ 0) (hb : ∀ j, j < k → l[j]? = some 0) : firstE l = e := by
  induction l generalizing k with
  | nil => simp at hk
  | cons x r ih =>
    cases k with
    | zero => simp at hk; subst hk; simp [firstE, he]
    | succ k =>
      have h0 := hb 0 (by omega)
      simp at h0
      subst h0
      simp only [firstE, if_true]
      exact ih (k := k) (by simpa using hk) fun j hj => by have := hb (j + 1) (by omega); simpa using this

/-- The kinds of the operands A, B, C of an operation: 0 unused, 1 a register, 2 a slot, 3 a function, 4 an argument, 5 a parameter, 6 a target; and whether Imm is used. -/
def shp : List (Int × Int × Int × Bool) :=
  [(1, 0, 0, true), (1, 1, 0, false), (1, 1, 1, false), (1, 1, 1, false), (1, 1, 1, false), (1, 1, 1, false), (1, 1, 1, false), (1, 1, 1, false), (1, 1, 1, false), (1, 1, 1, false), (1, 1, 1, false), (1, 1, 1, false),
   (1, 1, 0, false), (1, 0, 0, false), (1, 0, 0, false), (1, 2, 0, false), (2, 1, 0, false), (2, 2, 0, false), (4, 1, 0, false), (1, 5, 0, false), (6, 0, 0, false), (1, 6, 0, false), (3, 0, 0, false), (0, 0, 0, false), (0, 0, 0, true)]
def shpOf (op : Int) : Int × Int × Int × Bool := shp.getD op.toNat (0, 0, 0, false)

/-- How many numbers an operand of a kind may have. -/
def cntV (N : Nat) (f : Fn) (k : Int) : Int := if k = 1 then 8 else if k = 2 then f.slots.length else if k = 3 then N else if k = 4 then 8 else if k = 5 then f.params else if k = 6 then f.code.length else 1
def withB (n m : Int) : Bool := decide (0 ≤ n) && decide (n < m)
theorem withB_true {n m : Int} : withB n m = true ↔ 0 ≤ n ∧ n < m := by simp [withB]
theorem withB_false {n m : Int} : withB n m = false ↔ ¬(0 ≤ n ∧ n < m) := by rw [← withB_true]; simp
/-- The error of one operand. -/
def opndE (N : Nat) (f : Fn) (k n : Int) : Int := if withB n (cntV N f k) then 0 else if k = 0 then 2 else if k = 6 then 6 else 4
theorem opndE_cases (N : Nat) (f : Fn) (k n : Int) : opndE N f k n = 0 ∨ opndE N f k n = 2 ∨ opndE N f k n = 4 ∨ opndE N f k n = 6 := by unfold opndE; (repeat' split) <;> simp
theorem opndE_zero {N : Nat} {f : Fn} {k n : Int} : opndE N f k n = 0 ↔ withB n (cntV N f k) = true := by
  unfold opndE
  by_cases h : withB n (cntV N f k) = true
  · simp [h]
  · simp only [Bool.not_eq_true] at h
    simp only [h]
    (repeat' split) <;> simp_all
/-- The errors of three operands, in their order; the error of Imm behind them. -/
def foundE (e1 e2 e3 : Int) (m : Bool) (imm : Int) : List Int := [e1, e2, e3] ++ (if m = false ∧ imm ≠ 0 then [2] else [])
def opndsE (N : Nat) (f : Fn) (x : Ins) : List Int := foundE (opndE N f (shpOf x.op).1 x.a) (opndE N f (shpOf x.op).2.1 x.b) (opndE N f (shpOf x.op).2.2.1 x.c) (shpOf x.op).2.2.2 x.imm
/-- The first error in the document's order. -/
def rankE (l : List Int) (size : Bool) : Int := if l.contains 2 then 2 else if l.contains 4 then 4 else if size then 5 else if l.contains 6 then 6 else 0
theorem rankE_zero {e1 e2 e3 imm : Int} {m size : Bool} (c1 : e1 = 0 ∨ e1 = 2 ∨ e1 = 4 ∨ e1 = 6) (c2 : e2 = 0 ∨ e2 = 2 ∨ e2 = 4 ∨ e2 = 6) (c3 : e3 = 0 ∨ e3 = 2 ∨ e3 = 4 ∨ e3 = 6) :
    rankE (foundE e1 e2 e3 m imm) size = 0 ↔ e1 = 0 ∧ e2 = 0 ∧ e3 = 0 ∧ (m = true ∨ imm = 0) ∧ size = false := by
  have hi : (m = true ∨ imm = 0) ↔ ¬(m = false ∧ imm ≠ 0) := by cases m <;> simp
  rw [hi]
  unfold foundE
  by_cases h : m = false ∧ imm ≠ 0
  · rw [if_pos h]
    simp [rankE, h]
  · rw [if_neg h]
    clear hi
    cases size <;> rcases c1 with rfl | rfl | rfl | rfl <;> rcases c2 with rfl | rfl | rfl | rfl <;> rcases c3 with rfl | rfl | rfl | rfl <;> simp [rankE, h]
/-- The size of slot k. -/
def sizeAt (l : List (Int × Int)) (k : Int) : Int := (l.getD k.toNat (0, 0)).1
/-- A Move between slots of two sizes. -/
def moveBad (f : Fn) (x : Ins) : Bool := decide (x.op = 17) && !decide (sizeAt f.slots x.a = sizeAt f.slots x.b)
/-- The error of an instruction. -/
def insE (N : Nat) (f : Fn) (x : Ins) : Int := if withB x.op 25 = false then 4 else rankE (opndsE N f x) (moveBad f x)
def termB (op : Int) : Bool := op == 20 || op == 23 || op == 24
def closedB (l : List Ins) : Bool := match l.getLast? with
  | none => false
  | some x => termB x.op
/-- The error of a function. -/
def fnE (N : Nat) (f : Fn) : Int :=
  if 1024 < f.code.length then 3
  else if slotsE f.slots ≠ 0 then slotsE f.slots
  else if withB f.params 9 = false then 4
  else if firstE (f.code.map (insE N f)) ≠ 0 then firstE (f.code.map (insE N f))
  else if closedB f.code = false then 6 else 0
/-- The error of a program. -/
def pgE (F : Pg) : Int :=
  if 80 < F.length then 3
  else match F with
    | [] => 4
    | f :: _ => if f.params ≠ 0 then 7 else firstE (F.map (fnE F.length))

/-- What an instruction without an error is. -/
theorem insE_zero {N : Nat} {f : Fn} {x : Ins} : insE N f x = 0 ↔ (0 ≤ x.op ∧ x.op < 25) ∧ opndE N f (shpOf x.op).1 x.a = 0 ∧ opndE N f (shpOf x.op).2.1 x.b = 0 ∧ opndE N f (shpOf x.op).2.2.1 x.c = 0 ∧ ((shpOf x.op).2.2.2 = true ∨ x.imm = 0) ∧ moveBad f x = false := by
  unfold insE
  have h := rankE_zero (imm := x.imm) (m := (shpOf x.op).2.2.2) (size := moveBad f x) (opndE_cases N f (shpOf x.op).1 x.a) (opndE_cases N f (shpOf x.op).2.1 x.b) (opndE_cases N f (shpOf x.op).2.2.1 x.c)
  by_cases ho : withB x.op 25 = true
  · rw [if_neg (by simp [ho])]
    exact ⟨fun e => ⟨withB_true.1 ho, h.1 e⟩, fun e => h.2 e.2⟩
  · rw [if_pos (by simpa using ho)]
    exact ⟨(fun e => absurd e (by decide)), fun e => absurd (withB_true.2 e.1) ho⟩
theorem insE_op {N : Nat} {f : Fn} {x : Ins} (h : ¬(0 ≤ x.op ∧ x.op < 25)) : insE N f x = 4 := by
  unfold insE; rw [if_pos (withB_false.2 h)]
theorem cntV_le {N : Nat} {f : Fn} {k : Int} (hN : N ≤ 80) (hs : f.slots.length ≤ 512) (hp : f.params ≤ 8) (hc : f.code.length ≤ 1024) : cntV N f k ≤ 1024 := by
  unfold cntV; (repeat' split) <;> omega
theorem fnE_zero {N : Nat} {f : Fn} : fnE N f = 0 ↔ f.code.length ≤ 1024 ∧ slotsE f.slots = 0 ∧ (0 ≤ f.params ∧ f.params ≤ 8) ∧ (∀ x ∈ f.code, insE N f x = 0) ∧ closedB f.code = true := by
  unfold fnE
  have hf := @firstE_zero (f.code.map (insE N f))
  simp only [List.mem_map, forall_exists_index, and_imp, forall_apply_eq_imp_iff₂] at hf
  by_cases h1 : 1024 < f.code.length
  · rw [if_pos h1]; simp; omega
  · rw [if_neg h1]
    by_cases h2 : slotsE f.slots = 0
    · rw [if_neg (by simpa using h2)]
      by_cases h3 : withB f.params 9 = true
      · have h3' := withB_true.1 h3
        rw [if_neg (by simp [h3])]
        by_cases h4 : firstE (f.code.map (insE N f)) = 0
        · rw [if_neg (by simpa using h4)]
          have h4' := hf.1 h4
          by_cases h5 : closedB f.code = true
          · rw [if_neg (by simp [h5])]
            exact ⟨fun _ => ⟨by omega, h2, by omega, h4', h5⟩, fun _ => rfl⟩
          · rw [if_pos (by simpa using h5)]
            exact ⟨fun h => by simp at h, fun h => absurd h.2.2.2.2 h5⟩
        · rw [if_pos (by simpa using h4)]
          exact ⟨fun h => absurd h h4, fun h => absurd (hf.2 h.2.2.2.1) h4⟩
      · have h3' := withB_false.1 (by simpa using h3)
        rw [if_pos (by simpa using h3)]
        exact ⟨fun h => by simp at h, fun h => absurd ⟨h.2.2.1.1, by omega⟩ h3'⟩
    · rw [if_pos (by simpa using h2)]
      exact ⟨fun h => absurd h h2, fun h => absurd h.2.1 h2⟩
theorem pgE_zero {F : Pg} : pgE F = 0 ↔ F.length ≤ 80 ∧ (∃ f r, F = f :: r ∧ f.params = 0) ∧ ∀ f ∈ F, fnE F.length f = 0 := by
  unfold pgE
  have hf := @firstE_zero (F.map (fnE F.length))
  simp only [List.mem_map, forall_exists_index, and_imp, forall_apply_eq_imp_iff₂] at hf
  by_cases h1 : 80 < F.length
  · rw [if_pos h1]
    exact ⟨fun h => by simp at h, fun h => absurd h.1 (by omega)⟩
  · rw [if_neg h1]
    cases F with
    | nil => simp
    | cons f r =>
      simp only
      by_cases h2 : f.params = 0
      · rw [if_neg (by simpa using h2)]
        exact ⟨fun h => ⟨by omega, ⟨f, r, rfl, h2⟩, hf.1 h⟩, fun h => hf.2 h.2.2⟩
      · rw [if_pos h2]
        refine ⟨fun h => by simp at h, fun h => ?_⟩
        obtain ⟨_, ⟨g, s, he, hg⟩, _⟩ := h
        injection he with e1 e2
        subst e1
        exact absurd hg h2
theorem not_last {l : List Ins} {k : Nat} {x : Ins} (h : closedB l = true) (hx : l[k]? = some x) (ht : termB x.op = false) : k + 1 < l.length := by
  have hk := (List.getElem?_eq_some_iff.1 hx).1
  rcases Nat.lt_or_ge (k + 1) l.length with h1 | h1
  · exact h1
  · exfalso
    unfold closedB at h
    have : l.getLast? = some x := by rw [List.getLast?_eq_getElem?, show l.length - 1 = k by omega]; exact hx
    rw [this] at h
    dsimp only at h
    rw [h] at ht
    cases ht
theorem closed_some {l : List Ins} (h : closedB l = true) : 1 ≤ l.length := by
  cases l with
  | nil => cases h
  | cons a r => simp
end Go.Proofs.YtafegghdhdgioabGreat
end

section
/-
  Programs in memory: rows of instructions, rows of functions, what lies behind them; kept over what a call leaves. No function of the program is named here.
-/
namespace Go.Proofs.YtafegghdhdgioabGreat
open Go.RowKit

section
variable {α : Type} {f : α → List Value} {m : Nat}
theorem flat_len (hm : ∀ a, (f a).length = m) (l : List α) : (l.flatMap f).length = l.length * m := by
  induction l with
  | nil => simp
  | cons b r ih => simp only [List.flatMap_cons, List.length_append, List.length_cons, ih, hm b]; rw [Nat.add_mul]; omega
theorem flat_at (hm : ∀ a, (f a).length = m) (l : List α) (k : Nat) (a : α) (h : l[k]? = some a) (j : Nat) (hj : j < m) : (l.flatMap f)[k * m + j]? = (f a)[j]? := by
  induction l generalizing k with
  | nil => simp at h
  | cons b r ih =>
    rw [List.flatMap_cons]
    cases k with
    | zero =>
      simp at h; subst h
      rw [Nat.zero_mul, Nat.zero_add, List.getElem?_append_left (by rw [hm]; exact hj)]
    | succ k =>
      rw [List.getElem?_append_right (by rw [hm, Nat.add_mul]; omega), hm b, show (k + 1) * m + j - m = k * m + j by rw [Nat.add_mul]; omega]
      exact ih k (by simpa using h)
theorem flat_set (hm : ∀ a, (f a).length = m) (l : List α) (k : Nat) (a b : α) (h : l[k]? = some a) (j : Nat) (hj : j < m) (v : Value) (hb : f b = (f a).set j v) : (l.flatMap f).set (k * m + j) v = (l.set k b).flatMap f := by
  induction l generalizing k with
  | nil => simp at h
  | cons c r ih =>
    rw [List.flatMap_cons]
    cases k with
    | zero =>
      simp at h; subst h
      rw [Nat.zero_mul, Nat.zero_add, List.set_append_left _ _ (by rw [hm]; exact hj), List.set_cons_zero, List.flatMap_cons, hb]
    | succ k =>
      rw [List.set_append_right _ _ (by rw [hm, Nat.add_mul]; omega), hm c, show (k + 1) * m + j - m = k * m + j by rw [Nat.add_mul]; omega, List.set_cons_succ, List.flatMap_cons, ih k (by simpa using h)]
end

/-- An instruction, a function, a program by value. -/
abbrev iv (o a b c m : Int) : Value := .agg #[.int .i64 o, .int .i64 a, .int .i64 b, .int .i64 c, .int .u64 m]
abbrev fv (P : Int) (A1 : Option Addr) (n1 c1 : Nat) (A2 : Option Addr) (n2 c2 : Nat) : Value := .agg #[.int .i64 P, .slice A1 n1 c1, .slice A2 n2 c2]
abbrev gv (A : Option Addr) (n c : Nat) : Value := .agg #[.slice A n c]
/-- The cells of a list of instructions. -/
def icell (x : Ins) : List Value := [.int .i64 x.op, .int .i64 x.a, .int .i64 x.b, .int .i64 x.c, .int .u64 x.imm]
def icells (l : List Ins) : List Value := l.flatMap icell
theorem icell_len (x : Ins) : (icell x).length = 5 := rfl
theorem icells_length (l : List Ins) : (icells l).length = l.length * 5 := flat_len icell_len l
theorem icells_append (l m : List Ins) : icells (l ++ m) = icells l ++ icells m := by simp [icells]
theorem icells_one (x : Ins) : icells [x] = [.int .i64 x.op, .int .i64 x.a, .int .i64 x.b, .int .i64 x.c, .int .u64 x.imm] := rfl
theorem icells_oneCell (l : List Ins) : ∀ v ∈ icells l, v.oneCell' = true := by
  intro v hv
  simp only [icells, List.mem_flatMap] at hv
  obtain ⟨x, _, hv⟩ := hv
  simp [icell] at hv
  rcases hv with rfl | rfl | rfl | rfl | rfl <;> rfl
/-- A function's head: its parameters and its two slices. -/
structure Hd where
  p : Int
  a1 : Option Addr
  n1 : Nat
  c1 : Nat
  a2 : Option Addr
  n2 : Nat
  c2 : Nat
def hcell (h : Hd) : List Value := [.int .i64 h.p, .slice h.a1 h.n1 h.c1, .slice h.a2 h.n2 h.c2]
def hcells (l : List Hd) : List Value := l.flatMap hcell
theorem hcell_len (h : Hd) : (hcell h).length = 3 := rfl
theorem hcells_length (l : List Hd) : (hcells l).length = l.length * 3 := flat_len hcell_len l
theorem hcells_append (l m : List Hd) : hcells (l ++ m) = hcells l ++ hcells m := by simp [hcells]
theorem hcells_oneCell (l : List Hd) : ∀ v ∈ hcells l, v.oneCell' = true := by
  intro v hv
  simp only [hcells, List.mem_flatMap] at hv
  obtain ⟨x, _, hv⟩ := hv
  simp [hcell] at hv
  rcases hv with rfl | rfl | rfl <;> rfl

/-- An address is nil or lies from block lo on. -/
def Far (lo : Nat) (A : Option Addr) : Prop := ∀ a, A = some a → lo ≤ a.block
theorem Far.zero (A : Option Addr) : Far 0 A := fun _ _ => Nat.zero_le _
theorem Far.more {lo lo' : Nat} {A : Option Addr} (h : Far lo A) (hl : lo' ≤ lo) : Far lo' A := fun a e => Nat.le_trans hl (h a e)
theorem Far.none (lo : Nat) : Far lo none := fun _ e => by cases e
/-- What is seen, where all from lo on to B has been kept. -/
theorem Sees.keepF {w w' : World} {lo B : Nat} {A : Option Addr} {xs : List Value} (h : Sees w B A xs) (hf : Far lo A) (hk : ∀ p : Addr, lo ≤ p.block → p.block < B → w'.cell? p = w.cell? p) : Sees w' B A xs := fun k u hu => by
  obtain ⟨b, off, e, hb, hc⟩ := h k u hu
  have hl : lo ≤ b := hf _ e
  exact ⟨b, off, e, hb, (hk ⟨b, off + k, .none⟩ hl hb).trans hc⟩

/-- A slice's own bounds. -/
def Cap (A : Option Addr) (n c : Nat) : Prop := (A = none → c = 0) ∧ n ≤ c ∧ n ≤ 8796093022208
/-- The head h is function f: its slices lie from block lo on, below B. -/
structure HdAt (w : World) (lo B : Nat) (h : Hd) (f : Fn) : Prop where
  p : h.p = f.params
  l1 : f.slots.length = h.n1
  l2 : f.code.length = h.n2
  k1 : Cap h.a1 h.n1 h.c1
  k2 : Cap h.a2 h.n2 h.c2
  f1 : Far lo h.a1
  f2 : Far lo h.a2
  s1 : Sees w B h.a1 (pcells f.slots)
  s2 : Sees w B h.a2 (icells f.code)
/-- The heads hs are the program F. -/
structure Hds (w : World) (lo B : Nat) (hs : List Hd) (F : Pg) : Prop where
  len : hs.length = F.length
  at_ : ∀ (k : Nat) (h : Hd) (f : Fn), hs[k]? = some h → F[k]? = some f → HdAt w lo B h f
/-- At the slice A, n, c stands the program F. -/
structure PgAt (w : World) (lo B : Nat) (A : Option Addr) (n c : Nat) (hs : List Hd) (F : Pg) : Prop where
  len : F.length = n
  cap : Cap A n c
  far : Far lo A
  see : Sees w B A (hcells hs)
  hd : Hds w lo B hs F

section
variable {w w' : World} {lo lo' B B' : Nat} {h : Hd} {f : Fn} {hs : List Hd} {F : Pg} {A : Option Addr} {n c : Nat}
theorem HdAt.keep (H : HdAt w lo B h f) (hk : ∀ p : Addr, lo ≤ p.block → p.block < B → w'.cell? p = w.cell? p) : HdAt w' lo B h f := ⟨H.p, H.l1, H.l2, H.k1, H.k2, H.f1, H.f2, H.s1.keepF H.f1 hk, H.s2.keepF H.f2 hk⟩
theorem HdAt.more (H : HdAt w lo B h f) (hB : B ≤ B') (hl : lo' ≤ lo) : HdAt w lo' B' h f := ⟨H.p, H.l1, H.l2, H.k1, H.k2, H.f1.more hl, H.f2.more hl, H.s1.more hB, H.s2.more hB⟩
theorem Hds.keep (H : Hds w lo B hs F) (hk : ∀ p : Addr, lo ≤ p.block → p.block < B → w'.cell? p = w.cell? p) : Hds w' lo B hs F := ⟨H.len, fun k h f e1 e2 => (H.at_ k h f e1 e2).keep hk⟩
theorem Hds.more (H : Hds w lo B hs F) (hB : B ≤ B') (hl : lo' ≤ lo) : Hds w lo' B' hs F := ⟨H.len, fun k h f e1 e2 => (H.at_ k h f e1 e2).more hB hl⟩
theorem PgAt.keep (H : PgAt w lo B A n c hs F) (hk : ∀ p : Addr, lo ≤ p.block → p.block < B → w'.cell? p = w.cell? p) : PgAt w' lo B A n c hs F := ⟨H.len, H.cap, H.far, H.see.keepF H.far hk, H.hd.keep hk⟩
theorem PgAt.more (H : PgAt w lo B A n c hs F) (hB : B ≤ B') (hl : lo' ≤ lo) : PgAt w lo' B' A n c hs F := ⟨H.len, H.cap, H.far.more hl, H.see.more hB, H.hd.more hB hl⟩
theorem PgAt.below (H : PgAt w lo B A n c hs F) (hb : Below B w w') : PgAt w' lo B A n c hs F := H.keep fun _ _ hp => hb.cell hp
theorem PgAt.call (H : PgAt w lo w.heap.size A n c hs F) (hb : Below w.heap.size w w') : PgAt w' lo w'.heap.size A n c hs F := (H.below hb).more hb.size (Nat.le_refl _)
theorem PgAt.drewN (H : PgAt w lo B A n c hs F) (k : Nat) : PgAt (w.drewN k) lo B A n c hs F := H.keep fun _ _ _ => rfl
theorem PgAt.alloc (H : PgAt w lo w.heap.size A n c hs F) (o : Obj) : PgAt (w.alloc o) lo (w.alloc o).heap.size A n c hs F := H.call (below1 w o)
theorem PgAt.grown {g : Nat} (H : PgAt w lo B A n c hs F) (hg : w.grownBy w' (some g)) (hlo : g < lo) (hB : B ≤ w.heap.size) : PgAt w' lo B A n c hs F :=
  H.keep fun p h1 h2 => World.cell?_of_block (hg.block p.block (by omega) (fun e => by injection e with e; omega))
theorem HdAt.below (H : HdAt w lo B h f) (hb : Below B w w') : HdAt w' lo B h f := H.keep fun _ _ hp => hb.cell hp
theorem HdAt.grown {g : Nat} (H : HdAt w lo B h f) (hg : w.grownBy w' (some g)) (hlo : g < lo) (hB : B ≤ w.heap.size) : HdAt w' lo B h f :=
  H.keep fun p h1 h2 => World.cell?_of_block (hg.block p.block (by omega) (fun e => by injection e with e; omega))

/-- The instruction at place k, and where it stands. -/
theorem ins_at {l : List Ins} {k : Nat} (h : Sees w B A (icells l)) (hk : k < l.length) :
    ∃ b off, A = some ⟨b, off, none⟩ ∧ b < B ∧ w.cell? ⟨b, off + k * 5, none⟩ = some (.int .i64 l[k].op) ∧ w.cell? ⟨b, off + k * 5 + 1, none⟩ = some (.int .i64 l[k].a) ∧ w.cell? ⟨b, off + k * 5 + 2, none⟩ = some (.int .i64 l[k].b) ∧
      w.cell? ⟨b, off + k * 5 + 3, none⟩ = some (.int .i64 l[k].c) ∧ w.cell? ⟨b, off + k * 5 + 4, none⟩ = some (.int .u64 l[k].imm) := by
  have hx := List.getElem?_eq_getElem hk
  have g := fun j hj => flat_at icell_len l k _ hx j hj
  obtain ⟨b, off, e, hb, h0⟩ := h _ _ (g 0 (by omega))
  obtain ⟨b1, o1, e1, _, h1⟩ := h _ _ (g 1 (by omega))
  obtain ⟨b2, o2, e2, _, h2⟩ := h _ _ (g 2 (by omega))
  obtain ⟨b3, o3, e3, _, h3⟩ := h _ _ (g 3 (by omega))
  obtain ⟨b4, o4, e4, _, h4⟩ := h _ _ (g 4 (by omega))
  subst e
  injection e1 with e1; injection e1 with x1 y1; subst x1 y1
  injection e2 with e2; injection e2 with x2 y2; subst x2 y2
  injection e3 with e3; injection e3 with x3 y3; subst x3 y3
  injection e4 with e4; injection e4 with x4 y4; subst x4 y4
  exact ⟨b, off, rfl, hb, h0, h1, h2, h3, h4⟩
/-- The head at place k, and where it stands. -/
theorem hd_at {l : List Hd} {k : Nat} (h : Sees w B A (hcells l)) (hk : k < l.length) :
    ∃ b off, A = some ⟨b, off, none⟩ ∧ b < B ∧ w.cell? ⟨b, off + k * 3, none⟩ = some (.int .i64 l[k].p) ∧ w.cell? ⟨b, off + k * 3 + 1, none⟩ = some (.slice l[k].a1 l[k].n1 l[k].c1) ∧ w.cell? ⟨b, off + k * 3 + 2, none⟩ = some (.slice l[k].a2 l[k].n2 l[k].c2) := by
  have hx := List.getElem?_eq_getElem hk
  have g := fun j hj => flat_at hcell_len l k _ hx j hj
  obtain ⟨b, off, e, hb, h0⟩ := h _ _ (g 0 (by omega))
  obtain ⟨b1, o1, e1, _, h1⟩ := h _ _ (g 1 (by omega))
  obtain ⟨b2, o2, e2, _, h2⟩ := h _ _ (g 2 (by omega))
  subst e
  injection e1 with e1; injection e1 with x1 y1; subst x1 y1
  injection e2 with e2; injection e2 with x2 y2; subst x2 y2
  exact ⟨b, off, rfl, hb, h0, h1, h2⟩
/-- Function k of a program: where its head stands, and that it is it. -/
theorem fn_at {k : Nat} (H : PgAt w lo B A n c hs F) (hk : k < n) :
    ∃ (b off : Nat) (P : Int) (A1 : Option Addr) (n1 c1 : Nat) (A2 : Option Addr) (n2 c2 : Nat) (f : Fn), A = some ⟨b, off, none⟩ ∧ b < B ∧ F[k]? = some f ∧ hs[k]? = some ⟨P, A1, n1, c1, A2, n2, c2⟩ ∧ HdAt w lo B ⟨P, A1, n1, c1, A2, n2, c2⟩ f ∧
      w.cell? ⟨b, off + k * 3, none⟩ = some (.int .i64 P) ∧ w.cell? ⟨b, off + k * 3 + 1, none⟩ = some (.slice A1 n1 c1) ∧ w.cell? ⟨b, off + k * 3 + 2, none⟩ = some (.slice A2 n2 c2) := by
  have h1 : k < F.length := by rw [H.len]; exact hk
  have h2 : k < hs.length := by rw [H.hd.len]; exact h1
  obtain ⟨b, off, e, hb, c0, c1, c2⟩ := hd_at H.see h2
  exact ⟨b, off, _, _, _, _, _, _, _, F[k], e, hb, List.getElem?_eq_getElem h1, List.getElem?_eq_getElem h2, H.hd.at_ k _ _ (List.getElem?_eq_getElem h2) (List.getElem?_eq_getElem h1), c0, c1, c2⟩
end
theorem cap_le {A : Option Addr} {n c : Nat} (h : Cap A n c) : n ≤ 4611686018427387904 := by have := h.2.1; have := h.2.2; omega
theorem drewN_below {B : Nat} {a w : World} (h : Below B a w) (k : Nat) : Below B a (w.drewN k) := below_draws h k
/-- A truth value; what was in memory is as it was. -/
def BoolBelow (b : Bool) (w : World) (e : Ending) (w' : World) : Prop := e = .returned (.bool b) ∧ Below w.heap.size w w'
theorem heap_at (w : World) (o : Obj) {k : Nat} (h : k = w.heap.size) : (w.alloc o).heap[k]? = some o := by subst h; exact heap_alloc_new w o
end Go.Proofs.YtafegghdhdgioabGreat
end

section
/-
  Appends whose source is told by 'Sees' (nil let in), for elements of any size; rows of instructions that a loop fills. No function of the program is named here.
-/
namespace Go.Proofs.YtafegghdhdgioabGreat
open Go.RowKit

/-- append(v, x...), v nil or a row of the call's own, x any slice that 'Sees' tells. -/
theorem wpList_append_seesN {P : Program} {w : World} {ops : Array Oper} {rest : List Oper} {o : Oper} {a : Act} {Q : Exit → Act → World → Prop} (hgd : o.guard = none) (s x : Operand) (t : TypeId)
    (ho : o.op = .call { callee := .builtin .append, args := #[s, x], argTypes := #[t, t] })
    (base : Nat) (e : TypeId) (i : TypeInfo) (z : Value) (size bytes : Nat) (ht : P.underlying t = some (.slice e)) (hi : P.info? e = some i) (hz : i.zero = some z)
    (hsize : i.size = size) (hby : i.bytes = bytes) (hzs : z.cells.size = size) (hsz : 0 < size)
    (v : Value) (n : Nat) (xs : List Value) (hs : a.eval s = v) (hown : w.ownsRow base e size v n xs)
    (B : Nat) (A : Option Addr) (m c : Nat) (news : List Value) (hx : a.eval x = .slice A m c) (hA : Hid (A = none → c = 0)) (hl : Hid (news.length = m * size)) (hsee : Hid (Sees w B A news)) (hmc : Hid (m ≤ c)) (h1 : ∀ u ∈ news, u.oneCell' = true)
    (h63 : n + m ≤ maxLen) (hbytes : (n + m) * bytes ≤ 140737488355328) (hbase : base ≤ w.heap.size)
    (h : ∀ v' w', w'.ownsRow base e size v' (n + m) (xs ++ news) → w.grownBy w' v.ownBlock → wpList P ops Q rest (a.put o.dst v') w') : wpList P ops Q (o :: rest) a w := by
  have hl := hl.out
  have hmc := hmc.out
  rcases A with _ | ad
  · have hc := hA.out rfl
    have hm : m = 0 := by omega
    subst hm hc
    have hn : news = [] := List.eq_nil_of_length_eq_zero (by omega)
    subst hn
    exact wpList_append_own_none hgd s x t ho base e i size ht hi v n xs hs hown hx (h v w (by simpa using hown) (World.grownBy.refl w _))
  · refine wpList_append_own w hgd s x t ho base e i z size bytes ht hi hz hsize hby hzs hsz v n xs hs hown ad m c news hx hl (fun j u hu => ?_) h1 h63 hbytes hbase (fun v' w' h2 h3 _ => h v' w' h2 h3)
    rcases Nat.lt_or_ge 0 news.length with hp | hp
    · obtain ⟨ad', he, hc⟩ := hsee.out.src hp
      injection he with he
      subst he
      exact hc j u hu
    · have : news = [] := List.eq_nil_of_length_eq_zero (by omega)
      subst this
      simp at hu

section
variable {w w' : World} {base : Nat} {e : TypeId} {size n : Nat} {v : Value} {xs : List Value}
/-- An owned row's value, as a slice with its bounds, and what stands there. -/
theorem own_seen (h : w.ownsRow base e size v n xs) : ∃ A c, v = .slice A n c ∧ (A = none → c = 0) ∧ n ≤ c ∧ Far base A ∧ Sees w w.heap.size A xs := by
  obtain ⟨A, c, rfl, hA, hm⟩ := own_form h
  refine ⟨A, c, rfl, hA, ?_, ?_, Sees.ownN h⟩
  · rcases h.2 with ⟨he, h0⟩ | ⟨g, cap, cur, he, hg, hh, hc, _⟩
    · omega
    · injection he with _ _ hcc; omega
  · intro a ha
    subst ha
    rcases h.2 with ⟨he, h0⟩ | ⟨g, cap, cur, he, hg, hh, hc, _⟩
    · injection he with he; cases he
    · injection he with he
      injection he with he
      subst he
      exact hg
theorem own_far_block (h : w.ownsRow base e size v n xs) {g : Nat} (hg : g < base) : some g ≠ v.ownBlock := fun e => by
  have := (h.lt g e.symm).1
  omega
end

/-- The same, of the operation by itself. -/
theorem wp_append_seesN {P : Program} {w : World} {o : Oper} {a : Act} {K : Act → World → Prop} {Q : Exit → Act → World → Prop} (s x : Operand) (t : TypeId)
    (ho : o.op = .call { callee := .builtin .append, args := #[s, x], argTypes := #[t, t] })
    (base : Nat) (e : TypeId) (i : TypeInfo) (z : Value) (size bytes : Nat) (ht : P.underlying t = some (.slice e)) (hi : P.info? e = some i) (hz : i.zero = some z)
    (hsize : i.size = size) (hby : i.bytes = bytes) (hzs : z.cells.size = size) (hsz : 0 < size)
    (v : Value) (n : Nat) (xs : List Value) (hs : a.eval s = v) (hown : w.ownsRow base e size v n xs)
    (B : Nat) (A : Option Addr) (m c : Nat) (news : List Value) (hx : a.eval x = .slice A m c) (hA : Hid (A = none → c = 0)) (hl : Hid (news.length = m * size)) (hsee : Hid (Sees w B A news)) (hmc : Hid (m ≤ c)) (h1 : ∀ u ∈ news, u.oneCell' = true)
    (h63 : n + m ≤ maxLen) (hbytes : (n + m) * bytes ≤ 140737488355328) (hbase : base ≤ w.heap.size)
    (h : ∀ v' w', w'.ownsRow base e size v' (n + m) (xs ++ news) → w.grownBy w' v.ownBlock → K (a.put o.dst v') w') : o.wp P a w K Q := by
  have hl := hl.out
  have hmc := hmc.out
  rcases A with _ | ad
  · have hc := hA.out rfl
    have hm : m = 0 := by omega
    subst hm hc
    have hn : news = [] := List.eq_nil_of_length_eq_zero (by omega)
    subst hn
    have hrun := run_append_owned_none (P := P) (w := w) base t o.type e i size ht hi v n xs hown
    unfold Oper.wp
    simp [execOp, ho, resolve, invoke, builtin, hs, hx, hrun, Result.andThen]
    exact h v w (by simpa using hown) (World.grownBy.refl w _)
  · refine wp_append_own w s x t ho base e i z size bytes ht hi hz hsize hby hzs hsz v n xs hs hown ad m c news hx hl (fun j u hu => ?_) h1 h63 hbytes hbase (fun v' w' h2 h3 _ => h v' w' h2 h3)
    rcases Nat.lt_or_ge 0 news.length with hp | hp
    · obtain ⟨ad', he, hc⟩ := hsee.out.src hp
      injection he with he
      subst he
      exact hc j u hu
    · have : news = [] := List.eq_nil_of_length_eq_zero (by omega)
      subst this
      simp at hu
end Go.Proofs.YtafegghdhdgioabGreat
end

section
/-
  What a call may turn beside new blocks: one block, and one row that it grows. No function of the program is named here.
-/
namespace Go.Proofs.YtafegghdhdgioabGreat
open Go.RowKit

theorem grown_put1 (w : World) (g k : Nat) (u : Value) : w.grownBy (w.setCell ⟨g, k, none⟩ u) (some g) := ⟨rfl, rfl, rfl, by simp [World.setCell], fun i _ hi => Below.heap_setCell w ⟨g, k, none⟩ u i (fun e => hi (by rw [e]))⟩
/-- Only the block Bx, and the row v, may have turned; v' is the row now. -/
structure JKp (w w' : World) (Bx : Nat) (v v' : Value) : Prop where
  os : w'.os = w.os
  tape : w'.tape = w.tape
  output : w'.output = w.output
  size : w.heap.size ≤ w'.heap.size
  blk : ∀ k, k < w.heap.size → k ≠ Bx → v.ownBlock ≠ some k → w'.heap[k]? = w.heap[k]?
  own : ∀ k, v'.ownBlock = some k → v.ownBlock = some k ∨ w.heap.size ≤ k
section
variable {w w' w'' : World} {Bx : Nat} {v v' v'' : Value}
theorem JKp.refl (w : World) (Bx : Nat) (v : Value) : JKp w w Bx v v := ⟨rfl, rfl, rfl, Nat.le_refl _, fun _ _ _ _ => rfl, fun _ h => .inl h⟩
theorem JKp.trans (h : JKp w w' Bx v v') (h' : JKp w' w'' Bx v' v'') : JKp w w'' Bx v v'' :=
  ⟨h'.os.trans h.os, h'.tape.trans h.tape, h'.output.trans h.output, Nat.le_trans h.size h'.size, fun k hk h1 h2 => (h'.blk k (Nat.lt_of_lt_of_le hk h.size) h1 (fun e => by
    rcases h.own k e with e | e
    · exact h2 e
    · omega)).trans (h.blk k hk h1 h2), fun k hk => by
    rcases h'.own k hk with e | e
    · exact h.own k e
    · exact .inr (Nat.le_trans h.size e)⟩
theorem JKp.row {g t : Nat} {cs : List Value} (h : JKp w w' Bx v v') (r : Row w g t cs) (h1 : g ≠ Bx) (h2 : v.ownBlock ≠ some g) : Row w' g t cs := by
  unfold Row
  rw [h.blk g r.lt h1 h2]
  exact r
theorem JKp.below {B : Nat} (h : JKp w w' Bx v v') (hB : B ≤ w.heap.size) (h1 : B ≤ Bx) (h2 : ∀ k, v.ownBlock = some k → B ≤ k) : Below B w w' :=
  ⟨h.os, h.tape, h.output, h.size, fun k hk => h.blk k (by omega) (by omega) (fun e => by have := h2 k e; omega)⟩
theorem JKp.of_below (h : Below w.heap.size w w') (Bx : Nat) (v : Value) : JKp w w' Bx v v := ⟨h.os, h.tape, h.output, h.size, fun k hk _ _ => h.block k hk, fun _ e => .inl e⟩
theorem JKp.of_row (h : w.grownBy w' v.ownBlock) (ho : ∀ k, v'.ownBlock = some k → v.ownBlock = some k ∨ w.heap.size ≤ k) (Bx : Nat) : JKp w w' Bx v v' := ⟨h.os, h.tape, h.output, h.size, fun k hk _ h2 => h.block k hk (fun e => h2 e.symm), ho⟩
theorem JKp.set (w : World) (Bx k : Nat) (v u : Value) : JKp w (w.setCell ⟨Bx, k, none⟩ u) Bx v v :=
  have h := grown_put1 w Bx k u
  ⟨h.os, h.tape, h.output, h.size, fun j hj h1 _ => h.block j hj (fun e => h1 (by injection e)), fun _ e => .inl e⟩
end
end Go.Proofs.YtafegghdhdgioabGreat
end

section
/-
  Cells of values, rows of a call's own, numbers that are still to be read (chapters 8 and 12). No function of the program is named here.
-/
namespace Go.Proofs.YtafegghdhdgioabGreat
open Go.RowKit

/-- The cells of values. -/
def vcell (V : Nat) : List Value := [.int .u64 (lo V), .int .u64 (hi V)]
def vcells (l : List Nat) : List Value := l.flatMap vcell
theorem vcell_len (V : Nat) : (vcell V).length = 2 := rfl
theorem vcells_len (l : List Nat) : (vcells l).length = l.length * 2 := flat_len vcell_len l
theorem vcells_app (l m : List Nat) : vcells (l ++ m) = vcells l ++ vcells m := by simp [vcells]
theorem vcells_oneCell (l : List Nat) : ∀ v ∈ vcells l, v.oneCell' = true := by
  intro v hv
  simp only [vcells, List.mem_flatMap] at hv
  obtain ⟨x, _, hv⟩ := hv
  simp [vcell] at hv
  rcases hv with rfl | rfl <;> rfl
theorem vcells_at {l : List Nat} {k V : Nat} (h : l[k]? = some V) : (vcells l)[k * 2]? = some (.int .u64 (lo V)) ∧ (vcells l)[k * 2 + 1]? = some (.int .u64 (hi V)) :=
  ⟨flat_at vcell_len l k V h 0 (by omega), flat_at vcell_len l k V h 1 (by omega)⟩
/-- Numbers that are still to be read. -/
def ucells (l : List Nat) : List Value := l.map fun (v : Nat) => .int .u64 (v : Int)
def InAt (w : World) (B : Nat) (v : Value) (l : List Nat) : Prop :=
  ∃ A n c, v = .slice A n c ∧ l.length = n ∧ n ≤ c ∧ c ≤ 9223372036854775807 ∧ (A = none → c = 0) ∧ Sees w B A (ucells l)
section
variable {w w' : World} {base : Nat}
theorem InAt.below {B : Nat} {v : Value} {l : List Nat} (h : InAt w B v l) (hb : Below B w w') : InAt w' B v l := by
  obtain ⟨A, n, c, h1, h2, h3, h4, h5, h6⟩ := h
  exact ⟨A, n, c, h1, h2, h3, h4, h5, h6.below hb⟩
/-- A row of another type lies elsewhere. -/
theorem own_offT {base e size n : Nat} {v : Value} {xs : List Value} {g : Nat} {cs : Array Value} {t : TypeId} {fr : Nat × Nat} (h : w.ownsRow base e size v n xs) (hg : w.heap[g]? = some (.cells cs t fr)) (ht : t ≠ e) : v.ownBlock = none ∨ v.ownBlock ≠ some g := by
  rcases h.2 with ⟨rfl, _⟩ | ⟨g', cap, cur, rfl, _, hh, _⟩
  · exact .inl rfl
  · refine .inr fun he => ?_
    injection he with he
    simp only at he
    rw [he, hg] at hh
    injection hh with hh
    injection hh with _ e3
    exact ht e3
theorem own_shape {w : World} {e size n : Nat} {v : Value} {xs : List Value} (h : w.ownsRow base e size v n xs) : ∃ A c, v = .slice A n c := by
  rcases h.2 with ⟨rfl, rfl⟩ | ⟨k, cap, cur, rfl, _⟩
  · exact ⟨_, _, rfl⟩
  · exact ⟨_, _, rfl⟩
theorem InAt.more {w : World} {B B' : Nat} {v : Value} {l : List Nat} (h : InAt w B v l) (hB : B ≤ B') : InAt w B' v l := by
  obtain ⟨A, n, c, h1, h2, h3, h4, h5, h6⟩ := h
  exact ⟨A, n, c, h1, h2, h3, h4, h5, h6.more hB⟩
theorem own_zbase {w : World} {base base' : Nat} {e : TypeId} {size n : Nat} {v : Value} {xs : List Value} (h : w.ownsRow base e size v n xs) (hb : base' ≤ base) : w.ownsRow base' e size v n xs := by
  refine ⟨h.1, ?_⟩
  rcases h.2 with h2 | ⟨g, cap, cur, hv, hg, hh, hr⟩
  · exact .inl h2
  · exact .inr ⟨g, cap, cur, hv, by omega, hh, hr⟩
theorem own_oneCell {w : World} {base : Nat} {e : TypeId} {size n : Nat} {v : Value} {xs : List Value} (h : w.ownsRow base e size v n xs) : v.oneCell' = true := by
  rcases h.2 with ⟨rfl, _⟩ | ⟨k, cap, cur, rfl, _⟩ <;> rfl
theorem in_oneCell {w : World} {B : Nat} {v : Value} {l : List Nat} (h : InAt w B v l) : v.oneCell' = true := by
  obtain ⟨A, n, c, rfl, _⟩ := h; rfl
end
theorem own_shrink {w : World} {base e size k c : Nat} {A : Option Addr} {xs : List Value} (h : w.ownsRow base e size (.slice A (k + 1) c) (k + 1) xs) : w.ownsRow base e size (.slice A k c) k (xs.take (k * size)) := by
  have hl := h.1
  rcases h.2 with ⟨e1, h0⟩ | ⟨G, cap, cur, hv, hb, hh, hn, hm, hs, ht⟩
  · omega
  · injection hv with h1 h2 h3
    subst h1 h3
    refine ⟨by rw [List.length_take, hl, Nat.min_eq_left (Nat.mul_le_mul_right _ (by omega))], .inr ⟨G, c, cur, rfl, hb, hh, by omega, hm, hs, ?_⟩⟩
    rw [← ht, List.take_take, Nat.min_eq_left (Nat.mul_le_mul_right _ (by omega))]
theorem vcells_set (V : Nat) : ∀ (l : List Nat) (i : Nat), i < l.length → ((vcells l).set (i * 2) (.int .u64 (lo V))).set (i * 2 + 1) (.int .u64 (hi V)) = vcells (l.set i V)
  | [], i, h => by simp at h
  | U :: r, 0, _ => rfl
  | U :: r, i + 1, h => by
    have e : vcells (U :: r) = .int .u64 (lo U) :: .int .u64 (hi U) :: vcells r := rfl
    rw [e, show (i + 1) * 2 = i * 2 + 1 + 1 by omega, show i * 2 + 1 + 1 + 1 = (i * 2 + 1) + 1 + 1 by omega]
    simp only [List.set_cons_succ]
    rw [vcells_set V r i (by simpa using h)]
    rfl
theorem vcell_oneCell (V : Nat) : ∀ u ∈ vcell V, u.oneCell' = true := by
  intro u hu
  simp [vcell] at hu
  rcases hu with rfl | rfl <;> rfl
theorem lo_small {v : Int} (h : 0 ≤ v ∧ v ≤ 18446744073709551615) : v = lo v.toNat ∧ (0 : Int) = hi v.toNat := by
  unfold lo hi
  omega
theorem put_grown (w : World) (g k : Nat) (u : Value) : w.grownBy (w.setCell ⟨g, k, none⟩ u) (some g) := ⟨rfl, rfl, rfl, by simp [World.setCell], fun i _ hi => Below.heap_setCell w ⟨g, k, none⟩ u i (fun e => hi (by rw [e]))⟩
theorem put_grown2 (w : World) (g k k2 : Nat) (u u2 : Value) : w.grownBy ((w.setCell ⟨g, k, none⟩ u).setCell ⟨g, k2, none⟩ u2) (some g) := World.grownBy.trans (put_grown w g k u) (put_grown _ g k2 u2)
end Go.Proofs.YtafegghdhdgioabGreat
end

section
/-
  Plain mathematics of the reference for values: single bits, sums, products and quotients bit by bit. No function of the program is named here.
-/
namespace Go.Proofs.YtafegghdhdgioabGreat

/-- Bit k of X. -/
def bt (X k : Nat) : Nat := X / 2 ^ k % 2
theorem bt_le (X k : Nat) : bt X k ≤ 1 := by unfold bt; omega
theorem pow_cast (k : Nat) : (2 : Int) ^ k = ((2 ^ k : Nat) : Int) := by simp
theorem pow_lt64 {k : Nat} (h : k < 64) : 2 ^ k < 18446744073709551616 := by
  rw [show (18446744073709551616 : Nat) = 2 ^ 64 by decide]; exact Nat.pow_lt_pow_right (by omega) h
theorem lo_div (X k : Nat) (hk : k < 64) : X % 18446744073709551616 / 2 ^ k % 2 = X / 2 ^ k % 2 := by
  obtain ⟨j, hj⟩ : ∃ j, 64 = k + (j + 1) := ⟨63 - k, by omega⟩
  rw [show (18446744073709551616 : Nat) = 2 ^ 64 by decide, hj, Nat.pow_add, Nat.mod_mul_right_div_self, Nat.pow_succ, Nat.mul_comm, Nat.mod_mul_right_mod]
theorem hi_div (X k : Nat) (hX : X < two128) (hk : 64 ≤ k) : X / 18446744073709551616 % 18446744073709551616 / 2 ^ (k - 64) = X / 2 ^ k := by
  have e : X / 18446744073709551616 % 18446744073709551616 = X / 2 ^ 64 := by
    rw [show (2 : Nat) ^ 64 = 18446744073709551616 by decide]
    unfold two128 at hX; omega
  rw [e, Nat.div_div_eq_div_mul, ← Nat.pow_add, show 64 + (k - 64) = k by omega]
theorem bit_lo (X k : Nat) (hk : k < 64) : bits .and .u64 (lo X / 2 ^ k) 1 = ((bt X k : Nat) : Int) := by
  unfold bt
  have h := lo_b X
  have hb : 0 ≤ lo X / 2 ^ k ∧ lo X / 2 ^ k ≤ 18446744073709551615 := by
    unfold lo
    rw [pow_cast, ← Int.natCast_ediv]
    have := Nat.div_le_self (X % 18446744073709551616) (2 ^ k)
    generalize X % 18446744073709551616 / 2 ^ k = q at *
    omega
  rw [and_bit_u64 _ hb.1 hb.2]
  unfold lo
  rw [pow_cast, ← Int.natCast_ediv, ← lo_div X k hk]
  omega
theorem bit_hi (X k : Nat) (hX : X < two128) (hk : 64 ≤ k) : bits .and .u64 (hi X / 2 ^ (k - 64)) 1 = ((bt X k : Nat) : Int) := by
  unfold bt
  have h := hi_b X
  have hb : 0 ≤ hi X / 2 ^ (k - 64) ∧ hi X / 2 ^ (k - 64) ≤ 18446744073709551615 := by
    unfold hi
    rw [pow_cast, ← Int.natCast_ediv]
    have := Nat.div_le_self (X / 18446744073709551616 % 18446744073709551616) (2 ^ (k - 64))
    generalize X / 18446744073709551616 % 18446744073709551616 / 2 ^ (k - 64) = q at *
    omega
  rw [and_bit_u64 _ hb.1 hb.2]
  unfold hi
  rw [pow_cast, ← Int.natCast_ediv, hi_div X k hX hk]
  omega

/-- A bit that is not set. -/
theorem or_pow (a k : Nat) (h : a / 2 ^ k % 2 = 0) : a ||| 2 ^ k = a + 2 ^ k := by
  obtain ⟨q, hq⟩ : ∃ q, a / 2 ^ k = 2 * q := ⟨a / 2 ^ k / 2, by omega⟩
  have ha : a = 2 ^ k * (2 * q) + a % 2 ^ k := by rw [← hq]; exact (Nat.div_add_mod a (2 ^ k)).symm
  have hr := Nat.mod_lt a (Nat.two_pow_pos k)
  have e1 := Nat.two_pow_add_eq_or_of_lt hr (2 * q)
  have e2 := Nat.two_pow_add_eq_or_of_lt hr (2 * q + 1)
  have e3 : 2 ^ k * (2 * q) ||| 2 ^ k = 2 ^ k * (2 * q + 1) := by
    rw [← or_bit (2 * q) 1 (by omega) (by omega)]
    have := Nat.shiftLeft_or_distrib (a := 2 * q) (b := 1) (i := k)
    simp only [Nat.shiftLeft_eq, Nat.one_mul] at this
    rw [Nat.mul_comm (2 ^ k), Nat.mul_comm (2 ^ k)]
    exact this.symm
  calc a ||| 2 ^ k = (2 ^ k * (2 * q) ||| a % 2 ^ k) ||| 2 ^ k := by rw [← e1, ← ha]
    _ = (2 ^ k * (2 * q) ||| 2 ^ k) ||| a % 2 ^ k := by rw [Nat.or_assoc, Nat.or_comm (a % 2 ^ k), ← Nat.or_assoc]
    _ = 2 ^ k * (2 * q + 1) + a % 2 ^ k := by rw [e3, ← e2]
    _ = a + 2 ^ k := by rw [Nat.mul_add, Nat.mul_one]; omega
theorem wrap_pow {k : Nat} (hk : k < 64) : IntKind.u64.wrap (2 ^ k) = ((2 ^ k : Nat) : Int) := by
  have := pow_lt64 hk
  rw [pow_cast, IntKind.wrap_u64]
  generalize 2 ^ k = p at *
  omega
theorem low_bit_room (a k : Nat) (hk : k < 64) (h : a / 2 ^ k % 2 = 0) (ha : a < 18446744073709551616) : a + 2 ^ k < 18446744073709551616 := by
  have e := or_pow a k h
  have := Nat.or_lt_two_pow (n := 64) (x := a) (y := 2 ^ k) (by rw [show (2 : Nat) ^ 64 = 18446744073709551616 by decide]; exact ha) (by rw [show (2 : Nat) ^ 64 = 18446744073709551616 by decide]; exact pow_lt64 hk)
  rw [show (2 : Nat) ^ 64 = 18446744073709551616 by decide] at this
  omega
theorem set_lo (X k : Nat) (hk : k < 64) (h : X / 2 ^ k % 2 = 0) : bits .or .u64 (lo X) (IntKind.u64.wrap (2 ^ k)) = lo (X + 2 ^ k) ∧ hi X = hi (X + 2 ^ k) := by
  have h1 : X % 18446744073709551616 / 2 ^ k % 2 = 0 := by rw [lo_div X k hk]; exact h
  have h2 := low_bit_room (X % 18446744073709551616) k hk h1 (by omega)
  have h3 := pow_lt64 hk
  rw [wrap_pow hk]
  unfold lo hi
  rw [u64_or_nat _ _ (by omega) h3, or_pow _ k h1]
  generalize 2 ^ k = p at *
  constructor <;> omega
theorem set_hi (X k : Nat) (hX : X < two128) (hk : 64 ≤ k) (hk2 : k < 128) (h : X / 2 ^ k % 2 = 0) : bits .or .u64 (hi X) (IntKind.u64.wrap (2 ^ (k - 64))) = hi (X + 2 ^ k) ∧ lo X = lo (X + 2 ^ k) := by
  have h1 : X / 18446744073709551616 % 18446744073709551616 / 2 ^ (k - 64) % 2 = 0 := by rw [hi_div X k hX hk]; exact h
  have h2 := low_bit_room (X / 18446744073709551616 % 18446744073709551616) (k - 64) (by omega) h1 (by omega)
  have h3 := pow_lt64 (show k - 64 < 64 by omega)
  have e : 2 ^ k = 18446744073709551616 * 2 ^ (k - 64) := by
    rw [show (18446744073709551616 : Nat) = 2 ^ 64 by decide, ← Nat.pow_add, show 64 + (k - 64) = k by omega]
  rw [wrap_pow (show k - 64 < 64 by omega), e]
  unfold lo hi
  rw [u64_or_nat _ _ (by omega) h3, or_pow _ _ h1]
  generalize 2 ^ (k - 64) = p at *
  constructor <;> omega
/-- The sum of the lowest k bits, and what is carried. -/
def addOut (X Y k : Nat) : Nat := (X % 2 ^ k + Y % 2 ^ k) % 2 ^ k
def addCar (X Y k : Nat) : Nat := (X % 2 ^ k + Y % 2 ^ k) / 2 ^ k
theorem addCar_le (X Y k : Nat) : addCar X Y k ≤ 1 := by
  have h1 := Nat.mod_lt X (Nat.two_pow_pos k)
  have h2 := Nat.mod_lt Y (Nat.two_pow_pos k)
  unfold addCar
  have := Nat.div_lt_of_lt_mul (show X % 2 ^ k + Y % 2 ^ k < 2 ^ k * 2 by omega)
  omega
theorem addOut_lt (X Y k : Nat) : addOut X Y k < 2 ^ k := Nat.mod_lt _ (Nat.two_pow_pos k)
theorem addOut_128 (X Y k : Nat) (hk : k < 128) : addOut X Y k < two128 := by
  have h := addOut_lt X Y k
  have h2 : 2 ^ k < 2 ^ 128 := Nat.pow_lt_pow_right (by omega) hk
  rw [two128_eq]; omega
theorem addOut_bit (X Y k : Nat) : bt (addOut X Y k) k = 0 := by
  unfold bt
  rw [Nat.div_eq_of_lt (addOut_lt X Y k)]
theorem add_step (X Y k : Nat) : addOut X Y (k + 1) = addOut X Y k + 2 ^ k * ((bt X k + bt Y k + addCar X Y k) % 2) ∧ addCar X Y (k + 1) = (bt X k + bt Y k + addCar X Y k) / 2 := by
  have hd := Nat.div_add_mod (X % 2 ^ k + Y % 2 ^ k) (2 ^ k)
  have hlt := addOut_lt X Y k
  have e : X % 2 ^ (k + 1) + Y % 2 ^ (k + 1) = (addOut X Y k + 2 ^ k * ((bt X k + bt Y k + addCar X Y k) % 2)) + 2 ^ (k + 1) * ((bt X k + bt Y k + addCar X Y k) / 2) := by
    have hs := Nat.div_add_mod (bt X k + bt Y k + addCar X Y k) 2
    rw [Nat.mod_pow_succ, Nat.mod_pow_succ, Nat.pow_succ, Nat.mul_assoc (2 ^ k) 2]
    have e2 : addOut X Y k + 2 ^ k * ((bt X k + bt Y k + addCar X Y k) % 2) + 2 ^ k * (2 * ((bt X k + bt Y k + addCar X Y k) / 2)) = addOut X Y k + 2 ^ k * (bt X k + bt Y k + addCar X Y k) := by
      rw [Nat.add_assoc, ← Nat.mul_add]; congr 2; omega
    rw [e2, Nat.mul_add, Nat.mul_add]
    unfold bt
    unfold addOut addCar at *
    omega
  have hb : addOut X Y k + 2 ^ k * ((bt X k + bt Y k + addCar X Y k) % 2) < 2 ^ (k + 1) := by
    rw [Nat.pow_succ]
    have : (bt X k + bt Y k + addCar X Y k) % 2 = 0 ∨ (bt X k + bt Y k + addCar X Y k) % 2 = 1 := by omega
    rcases this with h | h <;> rw [h] <;> omega
  have hh := div_uniq hb e.symm
  exact ⟨hh.2, hh.1⟩
theorem add_zero (X Y : Nat) : addOut X Y 0 = 0 ∧ addCar X Y 0 = 0 := by unfold addOut addCar; simp [Nat.mod_one]
theorem add_all (X Y : Nat) : addOut X Y 128 % two128 = (X + Y) % two128 := by
  unfold addOut
  rw [← two128_eq, Nat.mod_mod, ← Nat.add_mod]

/-- The product so far: the bits of Y from k on. -/
def mulOut (X Y k : Nat) : Nat := X * (Y / 2 ^ k) % two128
theorem mulOut_lt (X Y k : Nat) : mulOut X Y k < two128 := Nat.mod_lt _ two128_pos
theorem mul_step0 (X Y k : Nat) (h : bt Y k = 0) : 2 * mulOut X Y (k + 1) % two128 = mulOut X Y k % two128 := by
  unfold mulOut bt at *
  rw [Nat.mul_mod_mod, Nat.mod_mod, half_pow Y k, h, Nat.mul_left_comm]; rfl
theorem mul_step1 (X Y k : Nat) (h : bt Y k = 1) : (2 * mulOut X Y (k + 1) + X) % two128 = mulOut X Y k % two128 := by
  unfold mulOut bt at *
  rw [Nat.mod_mod, half_pow Y k, h, Nat.mul_add, Nat.mul_one, Nat.mul_left_comm, Nat.add_mod, Nat.mul_mod_mod, ← Nat.add_mod]
theorem mul_zero' (X Y : Nat) (hY : Y < two128) : mulOut X Y 128 = 0 := by
  unfold mulOut
  rw [Nat.div_eq_of_lt (by rw [← two128_eq]; exact hY)]; simp
theorem mul_all (X Y : Nat) : mulOut X Y 0 = X * Y % two128 := by unfold mulOut; simp

/-- The quotient so far, from bit k on, and the rest. -/
def divOut (X Y k : Nat) : Nat := 2 ^ k * (X / 2 ^ k / Y)
def divRest (X Y k : Nat) : Nat := X / 2 ^ k % Y
theorem divRest_lt (X Y k : Nat) (hY : 0 < Y) : divRest X Y k < Y := Nat.mod_lt _ hY
theorem div_zero' (X Y : Nat) (hX : X < two128) : divOut X Y 128 = 0 ∧ divRest X Y 128 = 0 := by
  have e : X / 2 ^ 128 = 0 := Nat.div_eq_of_lt (by rw [← two128_eq]; exact hX)
  unfold divOut divRest
  rw [e]; simp
theorem div_all (X Y : Nat) : divOut X Y 0 = X / Y := by unfold divOut; simp
theorem divOut_le (X Y k : Nat) : divOut X Y k ≤ X := by
  unfold divOut
  exact Nat.le_trans (Nat.mul_le_mul_left _ (Nat.div_le_self _ _)) (Nat.mul_div_le X (2 ^ k))
theorem divOut_bit (X Y k : Nat) : bt (divOut X Y (k + 1)) k = 0 := by
  unfold bt divOut
  rw [Nat.pow_succ, Nat.mul_assoc, Nat.mul_div_cancel_left _ (Nat.two_pow_pos k)]
  omega
/-- One step of the reference's division. -/
theorem rdiv_step (X Y k : Nat) (hY : 0 < Y) :
    (2 * divRest X Y (k + 1) + bt X k < Y → divOut X Y (k + 1) = divOut X Y k ∧ 2 * divRest X Y (k + 1) + bt X k = divRest X Y k) ∧
    (Y ≤ 2 * divRest X Y (k + 1) + bt X k → divOut X Y (k + 1) + 2 ^ k = divOut X Y k ∧ 2 * divRest X Y (k + 1) + bt X k - Y = divRest X Y k) := by
  have hh := half_pow X k
  constructor
  · intro h
    have h1 := div_less (X / 2 ^ (k + 1)) (bt X k) Y h
    unfold divOut divRest bt at *
    rw [← hh] at h1
    rw [h1.1, h1.2, Nat.pow_succ, Nat.mul_assoc]
    exact ⟨rfl, rfl⟩
  · intro h
    have h1 := div_more (X / 2 ^ (k + 1)) (bt X k) Y (bt_le X k) hY h
    unfold divOut divRest bt at *
    rw [← hh] at h1
    rw [h1.1, h1.2, Nat.pow_succ, Nat.mul_assoc, Nat.mul_add, Nat.mul_one]
    exact ⟨rfl, rfl⟩
/-- The highest bit. -/
theorem top_of (R : Nat) (hR : R < two128) : (R < 170141183460469231731687303715884105728 → (hi R / 9223372036854775808 == 1) = false) ∧ (170141183460469231731687303715884105728 ≤ R → (hi R / 9223372036854775808 == 1) = true) := by
  unfold two128 at hR
  constructor
  · intro h
    rw [beq_eq_false_iff_ne]
    unfold hi
    omega
  · intro h
    rw [beq_iff_eq]
    unfold hi
    omega
theorem or_even (R b : Nat) (hb : b ≤ 1) : bits .or .u64 (lo (2 * R)) (b : Int) = lo (2 * R + b) := by
  have h := lo_b (2 * R)
  rw [or_bit_u64 _ _ h.1 h.2 (by unfold lo; omega) (by omega) (by omega)]
  unfold lo; omega
theorem hi_even (R b : Nat) (hb : b ≤ 1) : hi (2 * R) = hi (2 * R + b) := by unfold hi; omega
theorem sub_over (N Y : Nat) (h : Y ≤ N) (hY : Y < two128) : (N % two128 + two128 - Y) % two128 % two128 = (N - Y) % two128 := by
  unfold two128 at *; omega
end Go.Proofs.YtafegghdhdgioabGreat
end

section
/-
  Plain mathematics of the bytes of values: the bytes of a number, the number of bytes, sizes of slots. No function of the program is named here.
-/
namespace Go.Proofs.YtafegghdhdgioabGreat
open Go.RowKit

/-- The size, or 0 if it is none. -/
def szN (n : Int) : Nat := if szB n then n.toNat else 0
theorem szN_le (n : Int) : szN n ≤ 16 := by
  unfold szN szB
  split
  · rename_i h; have := of_decide_eq_true h; omega
  · omega
theorem szN_yes {n : Int} (h : szB n = true) : (szN n : Int) = n := by
  unfold szN; rw [if_pos h]; unfold szB at h; have := of_decide_eq_true h; omega
theorem szN_no {n : Int} (h : szB n = false) : szN n = 0 := by unfold szN; rw [h]; rfl

/-- Byte k of X; the lowest n bytes; the number of bytes. -/
def byteOf (X k : Nat) : Nat := X / 2 ^ (8 * k) % 256
theorem byteOf_lt (X k : Nat) : byteOf X k < 256 := by unfold byteOf; omega
def bytesV (X : Nat) : Nat → List Int
  | 0 => []
  | n + 1 => bytesV X n ++ [(byteOf X n : Int)]
theorem bytesV_length (X n : Nat) : (bytesV X n).length = n := by
  induction n with
  | zero => rfl
  | succ n ih => simp [bytesV, ih]
theorem bytesV_mem (X n : Nat) : ∀ z ∈ bytesV X n, 0 ≤ z ∧ z ≤ 255 := by
  induction n with
  | zero => intro z h; cases h
  | succ n ih =>
    intro z h
    simp only [bytesV, List.mem_append, List.mem_singleton] at h
    rcases h with h | rfl
    · exact ih z h
    · have := byteOf_lt X n; omega

def valOf : List Int → Nat
  | [] => 0
  | z :: zs => z.toNat + 256 * valOf zs
theorem valOf_snoc (zs : List Int) (z : Int) : valOf (zs ++ [z]) = valOf zs + z.toNat * 2 ^ (8 * zs.length) := by
  induction zs with
  | nil => simp [valOf]
  | cons y ys ih =>
    simp only [List.cons_append, valOf, ih, List.length_cons]
    rw [show 8 * (ys.length + 1) = 8 * ys.length + 8 by omega, Nat.pow_add, Nat.mul_add, show (2 : Nat) ^ 8 = 256 by decide]
    rw [show 256 * (z.toNat * 2 ^ (8 * ys.length)) = z.toNat * (2 ^ (8 * ys.length) * 256) by rw [Nat.mul_comm 256, Nat.mul_assoc]]
    omega
theorem valOf_lt (zs : List Int) (h : ∀ z ∈ zs, 0 ≤ z ∧ z ≤ 255) : valOf zs < 2 ^ (8 * zs.length) := by
  induction zs with
  | nil => simp [valOf]
  | cons y ys ih =>
    have h1 := ih fun z hz => h z (List.mem_cons_of_mem _ hz)
    have h2 := h y List.mem_cons_self
    simp only [valOf, List.length_cons]
    rw [show 8 * (ys.length + 1) = 8 * ys.length + 8 by omega, Nat.pow_add, show (2 : Nat) ^ 8 = 256 by decide]
    omega
theorem valOf_bytesV (X n : Nat) : valOf (bytesV X n) = X % 2 ^ (8 * n) := by
  induction n with
  | zero => simp [bytesV, valOf, Nat.mod_one]
  | succ n ih =>
    rw [bytesV, valOf_snoc, ih, bytesV_length, show 8 * (n + 1) = 8 * n + 8 by omega, Nat.pow_add, Nat.mod_mul, show (2 : Nat) ^ 8 = 256 by decide, Int.toNat_natCast, Nat.mul_comm (byteOf X n)]
    rfl
theorem pow8_le {n : Nat} (h : n ≤ 16) : 2 ^ (8 * n) ≤ two128 := by
  rw [two128_eq]; exact Nat.pow_le_pow_right (by omega) (by omega)
theorem valOf_128 (zs : List Int) (h : ∀ z ∈ zs, 0 ≤ z ∧ z ≤ 255) (hl : zs.length ≤ 16) : valOf zs < two128 :=
  Nat.lt_of_lt_of_le (valOf_lt zs h) (pow8_le hl)
theorem trunc_lt (X n : Nat) (hn : n ≤ 16) : X % 2 ^ (8 * n) < two128 := Nat.lt_of_lt_of_le (Nat.mod_lt _ (Nat.two_pow_pos _)) (pow8_le hn)
theorem trunc_16 (X : Nat) (hX : X < two128) : X % 2 ^ (8 * 16) = X := Nat.mod_eq_of_lt (by rw [← show two128 = 2 ^ (8 * 16) by decide]; exact hX)

theorem mod_mod_pow (X a b : Nat) (h : a ≤ b) : X % 2 ^ b % 2 ^ a = X % 2 ^ a := Nat.mod_mod_of_dvd _ (Nat.pow_dvd_pow 2 h)
theorem byte_lo (X k : Nat) (hk : k < 8) : lo X / 2 ^ (8 * k) % 256 = (byteOf X k : Int) := by
  unfold lo byteOf
  rw [pow_cast, ← Int.natCast_ediv]
  have e : X % 18446744073709551616 / 2 ^ (8 * k) % 256 = X / 2 ^ (8 * k) % 256 := by
    rw [show (18446744073709551616 : Nat) = 2 ^ (8 * k) * 2 ^ (64 - 8 * k) by rw [← Nat.pow_add, show 8 * k + (64 - 8 * k) = 64 by omega], Nat.mod_mul_right_div_self, show (256 : Nat) = 2 ^ 8 by decide, mod_mod_pow _ _ _ (by omega)]
  rw [← e]
  generalize X % 18446744073709551616 / 2 ^ (8 * k) = q
  omega
theorem byte_hi (X k : Nat) (hX : X < two128) (hk : 8 ≤ k) : hi X / 2 ^ (8 * (k - 8)) % 256 = (byteOf X k : Int) := by
  unfold hi byteOf
  have e := hi_div X (8 * k) hX (by omega)
  rw [show 8 * k - 64 = 8 * (k - 8) by omega] at e
  rw [pow_cast, ← Int.natCast_ediv, e]
  generalize X / 2 ^ (8 * k) = q
  omega

/-- One byte more, in the low word. -/
theorem put_lo (V : Nat) (z : Int) (k : Nat) (hk : k < 8) (hV : V < 2 ^ (8 * k)) (z0 : 0 ≤ z) (z1 : z ≤ 255) :
    bits .or .u64 (lo V) (IntKind.u64.wrap (z * 2 ^ (8 * k))) = lo (V + z.toNat * 2 ^ (8 * k)) ∧ hi V = hi (V + z.toNat * 2 ^ (8 * k)) := by
  obtain ⟨c, rfl⟩ := Int.eq_ofNat_of_zero_le z0
  have hp : 2 ^ (8 * k) * 256 ≤ 18446744073709551616 := by
    rw [show (18446744073709551616 : Nat) = 2 ^ 64 by decide, show (256 : Nat) = 2 ^ 8 by decide, ← Nat.pow_add]
    exact Nat.pow_le_pow_right (by omega) (by omega)
  have hm : c * 2 ^ (8 * k) ≤ 255 * 2 ^ (8 * k) := Nat.mul_le_mul_right _ (by omega)
  have hor := Nat.two_pow_add_eq_or_of_lt hV c
  rw [Nat.mul_comm] at hor
  rw [pow_cast, ← Int.natCast_mul, IntKind.wrap_u64, Int.toNat_natCast]
  have e1 : ((c * 2 ^ (8 * k) : Nat) : Int) % 18446744073709551616 = ((c * 2 ^ (8 * k) : Nat) : Int) := by omega
  rw [e1]
  generalize c * 2 ^ (8 * k) = s at *
  generalize 2 ^ (8 * k) = p at *
  unfold lo hi
  rw [u64_or_nat _ _ (by omega) (by omega), show V % 18446744073709551616 = V by omega, Nat.or_comm, ← hor]
  constructor <;> omega
/-- One byte more, in the high word. -/
theorem put_hi (V : Nat) (z : Int) (k : Nat) (hk : 8 ≤ k) (hk2 : k < 16) (hV : V < 2 ^ (8 * k)) (z0 : 0 ≤ z) (z1 : z ≤ 255) :
    bits .or .u64 (hi V) (IntKind.u64.wrap (z * 2 ^ (8 * (k - 8)))) = hi (V + z.toNat * 2 ^ (8 * k)) ∧ lo V = lo (V + z.toNat * 2 ^ (8 * k)) := by
  obtain ⟨c, rfl⟩ := Int.eq_ofNat_of_zero_le z0
  obtain ⟨j, rfl⟩ : ∃ j, k = j + 8 := ⟨k - 8, by omega⟩
  have e8 : 2 ^ (8 * (j + 8)) = 18446744073709551616 * 2 ^ (8 * j) := by
    rw [show (18446744073709551616 : Nat) = 2 ^ 64 by decide, ← Nat.pow_add]; congr 1; omega
  have hp : 2 ^ (8 * j) * 256 ≤ 18446744073709551616 := by
    rw [show (18446744073709551616 : Nat) = 2 ^ 64 by decide, show (256 : Nat) = 2 ^ 8 by decide, ← Nat.pow_add]
    exact Nat.pow_le_pow_right (by omega) (by omega)
  have hm : c * 2 ^ (8 * j) ≤ 255 * 2 ^ (8 * j) := Nat.mul_le_mul_right _ (by omega)
  rw [e8] at hV ⊢
  have hV' : V / 18446744073709551616 < 2 ^ (8 * j) := by omega
  have hor := Nat.two_pow_add_eq_or_of_lt hV' c
  rw [Nat.mul_comm] at hor
  rw [show j + 8 - 8 = j by omega, pow_cast, ← Int.natCast_mul, IntKind.wrap_u64, Int.toNat_natCast, show c * (18446744073709551616 * 2 ^ (8 * j)) = 18446744073709551616 * (c * 2 ^ (8 * j)) by rw [Nat.mul_left_comm]]
  have e1 : ((c * 2 ^ (8 * j) : Nat) : Int) % 18446744073709551616 = ((c * 2 ^ (8 * j) : Nat) : Int) := by omega
  rw [e1]
  generalize c * 2 ^ (8 * j) = s at *
  generalize 2 ^ (8 * j) = p at *
  unfold lo hi
  rw [u64_or_nat _ _ (by omega) (by omega), show V / 18446744073709551616 % 18446744073709551616 = V / 18446744073709551616 by omega, Nat.or_comm, ← hor]
  constructor <;> omega

/-- The number of the first k bytes, at most 16. -/
theorem valOf_take (zs : List Int) (k : Nat) (z : Int) (h : zs[k]? = some z) : valOf (zs.take (k + 1)) = valOf (zs.take k) + z.toNat * 2 ^ (8 * k) := by
  have hk : k < zs.length := by
    rcases Nat.lt_or_ge k zs.length with h1 | h1
    · exact h1
    · rw [List.getElem?_eq_none h1] at h; simp at h
  rw [take_more h, valOf_snoc, List.length_take, Nat.min_eq_left (by omega)]
theorem valOf_take_lt (zs : List Int) (k : Nat) (hk : k ≤ zs.length) (h : ∀ z ∈ zs, 0 ≤ z ∧ z ≤ 255) : valOf (zs.take k) < 2 ^ (8 * k) := by
  have := valOf_lt (zs.take k) fun z hz => h z (List.mem_of_mem_take hz)
  rwa [List.length_take, Nat.min_eq_left hk] at this

/-- The mask of the lowest bytes. -/
theorem mask_lo (X m : Nat) (hm : m ≤ 64) (M : Int) (hM : M = ((2 ^ m - 1 : Nat) : Int)) : bits .and .u64 (lo X) M = lo (X % 2 ^ m) ∧ hi (X % 2 ^ m) = 0 := by
  have hp : 2 ^ m ≤ 18446744073709551616 := by
    rw [show (18446744073709551616 : Nat) = 2 ^ 64 by decide]; exact Nat.pow_le_pow_right (by omega) hm
  have hlt := Nat.mod_lt X (Nat.two_pow_pos m)
  have hpos := Nat.two_pow_pos m
  have e2 : X % 18446744073709551616 % 2 ^ m = X % 2 ^ m := by rw [show (18446744073709551616 : Nat) = 2 ^ 64 by decide]; exact mod_mod_pow X m 64 hm
  subst hM
  unfold lo hi
  rw [u64_and_nat _ _ (by omega) (by omega), Nat.and_two_pow_sub_one_eq_mod, e2]
  generalize X % 2 ^ m = q at *
  generalize 2 ^ m = p at *
  constructor <;> omega
end Go.Proofs.YtafegghdhdgioabGreat
end

section
/-
  Plain mathematics of truncation, pairs and high words. No function of the program is named here.
-/
namespace Go.Proofs.YtafegghdhdgioabGreat
open Go.RowKit

/-- The low words of two numbers; the high word of a number. -/
def pairV (X Y : Nat) : Nat := X % 18446744073709551616 + 18446744073709551616 * (Y % 18446744073709551616)
def highV (X : Nat) : Nat := X / 18446744073709551616 % 18446744073709551616
theorem pair_lo (X Y : Nat) : lo X = lo (pairV X Y) := by unfold lo pairV; omega
theorem pair_hi (X Y : Nat) : lo Y = hi (pairV X Y) := by unfold lo hi pairV; omega
theorem high_lo (X : Nat) : hi X = lo (highV X) := by unfold lo hi highV; omega
theorem high_hi (X : Nat) : hi (highV X) = 0 := by unfold hi highV; omega
theorem pair_high (X : Nat) (hX : X < two128) : pairV X (highV X) = X := by unfold pairV highV; unfold two128 at hX; omega

/-- The lowest bytes of a number. -/
def truncV (X : Nat) (n : Int) : Nat := X % 2 ^ (8 * szN n)
theorem truncV_lt (X : Nat) (n : Int) : truncV X n < two128 := trunc_lt X _ (szN_le n)
end Go.Proofs.YtafegghdhdgioabGreat
end
