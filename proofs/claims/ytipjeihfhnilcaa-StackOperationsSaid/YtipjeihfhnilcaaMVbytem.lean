import Derived.Test.YtipjeihfhnilcaaMVbits
import Derived.Test.YtipjeihfhnilcaaMOwn
import Derived.Test.YtipjeihfhnilcaaMEpow
set_option linter.unusedVariables false
set_option linter.unusedSimpArgs false
section
/-
  Plain mathematics of the bytes of values: the bytes of a number, the number of bytes, sizes of slots. No function of the program is named here.
-/
namespace Go.Proofs.Ytipjeihfhnilcaa
open Go.RowKit

/-- The size, or 0 if it is none. -/
def szN (n : Int) : Nat := if szB n then n.toNat else 0
theorem szN_le (n : Int) : szN n ≤ 16 := by
  unfold szN szB
  split
  · rename_i h; have := of_decide_eq_true h; omega
  · omega
theorem szN_yes {n : Int} (h : szB n = true) : (szN n : Int) = n := by
  unfold szN; rw [if_pos h]; unfold szB at h; have := of_decide_eq_true h; omega
theorem szN_no {n : Int} (h : szB n = false) : szN n = 0 := by unfold szN; rw [h]; rfl

/-- Byte k of X; the lowest n bytes; the number of bytes. -/
def byteOf (X k : Nat) : Nat := X / 2 ^ (8 * k) % 256
theorem byteOf_lt (X k : Nat) : byteOf X k < 256 := by unfold byteOf; omega
def bytesV (X : Nat) : Nat → List Int
  | 0 => []
  | n + 1 => bytesV X n ++ [(byteOf X n : Int)]
theorem bytesV_length (X n : Nat) : (bytesV X n).length = n := by
  induction n with
  | zero => rfl
  | succ n ih => simp [bytesV, ih]
theorem bytesV_mem (X n : Nat) : ∀ z ∈ bytesV X n, 0 ≤ z ∧ z ≤ 255 := by
  induction n with
  | zero => intro z h; cases h
  | succ n ih =>
    intro z h
    simp only [bytesV, List.mem_append, List.mem_singleton] at h
    rcases h with h | rfl
    · exact ih z h
    · have := byteOf_lt X n; omega

def valOf : List Int → Nat
  | [] => 0
  | z :: zs => z.toNat + 256 * valOf zs
theorem valOf_snoc (zs : List Int) (z : Int) : valOf (zs ++ [z]) = valOf zs + z.toNat * 2 ^ (8 * zs.length) := by
  induction zs with
  | nil => simp [valOf]
  | cons y ys ih =>
    simp only [List.cons_append, valOf, ih, List.length_cons]
    rw [show 8 * (ys.length + 1) = 8 * ys.length + 8 by omega, Nat.pow_add, Nat.mul_add, show (2 : Nat) ^ 8 = 256 by decide]
    rw [show 256 * (z.toNat * 2 ^ (8 * ys.length)) = z.toNat * (2 ^ (8 * ys.length) * 256) by rw [Nat.mul_comm 256, Nat.mul_assoc]]
    omega
theorem valOf_lt (zs : List Int) (h : ∀ z ∈ zs, 0 ≤ z ∧ z ≤ 255) : valOf zs < 2 ^ (8 * zs.length) := by
  induction zs with
  | nil => simp [valOf]
  | cons y ys ih =>
    have h1 := ih fun z hz => h z (List.mem_cons_of_mem _ hz)
    have h2 := h y List.mem_cons_self
    simp only [valOf, List.length_cons]
    rw [show 8 * (ys.length + 1) = 8 * ys.length + 8 by omega, Nat.pow_add, show (2 : Nat) ^ 8 = 256 by decide]
    omega
theorem valOf_bytesV (X n : Nat) : valOf (bytesV X n) = X % 2 ^ (8 * n) := by
  induction n with
  | zero => simp [bytesV, valOf, Nat.mod_one]
  | succ n ih =>
    rw [bytesV, valOf_snoc, ih, bytesV_length, show 8 * (n + 1) = 8 * n + 8 by omega, Nat.pow_add, Nat.mod_mul, show (2 : Nat) ^ 8 = 256 by decide, Int.toNat_natCast, Nat.mul_comm (byteOf X n)]
    rfl
theorem pow8_le {n : Nat} (h : n ≤ 16) : 2 ^ (8 * n) ≤ two128 := by
  rw [two128_eq]; exact Nat.pow_le_pow_right (by omega) (by omega)
theorem valOf_128 (zs : List Int) (h : ∀ z ∈ zs, 0 ≤ z ∧ z ≤ 255) (hl : zs.length ≤ 16) : valOf zs < two128 :=
  Nat.lt_of_lt_of_le (valOf_lt zs h) (pow8_le hl)
theorem trunc_lt (X n : Nat) (hn : n ≤ 16) : X % 2 ^ (8 * n) < two128 := Nat.lt_of_lt_of_le (Nat.mod_lt _ (Nat.two_pow_pos _)) (pow8_le hn)
theorem trunc_16 (X : Nat) (hX : X < two128) : X % 2 ^ (8 * 16) = X := Nat.mod_eq_of_lt (by rw [← show two128 = 2 ^ (8 * 16) by decide]; exact hX)

theorem mod_mod_pow (X a b : Nat) (h : a ≤ b) : X % 2 ^ b % 2 ^ a = X % 2 ^ a := Nat.mod_mod_of_dvd _ (Nat.pow_dvd_pow 2 h)
theorem byte_lo (X k : Nat) (hk : k < 8) : lo X / 2 ^ (8 * k) % 256 = (byteOf X k : Int) := by
  unfold lo byteOf
  rw [pow_cast, ← Int.natCast_ediv]
  have e : X % 18446744073709551616 / 2 ^ (8 * k) % 256 = X / 2 ^ (8 * k) % 256 := by
    rw [show (18446744073709551616 : Nat) = 2 ^ (8 * k) * 2 ^ (64 - 8 * k) by rw [← Nat.pow_add, show 8 * k + (64 - 8 * k) = 64 by omega], Nat.mod_mul_right_div_self, show (256 : Nat) = 2 ^ 8 by decide, mod_mod_pow _ _ _ (by omega)]
  rw [← e]
  generalize X % 18446744073709551616 / 2 ^ (8 * k) = q
  omega
theorem byte_hi (X k : Nat) (hX : X < two128) (hk : 8 ≤ k) : hi X / 2 ^ (8 * (k - 8)) % 256 = (byteOf X k : Int) := by
  unfold hi byteOf
  have e := hi_div X (8 * k) hX (by omega)
  rw [show 8 * k - 64 = 8 * (k - 8) by omega] at e
  rw [pow_cast, ← Int.natCast_ediv, e]
  generalize X / 2 ^ (8 * k) = q
  omega

/-- One byte more, in the low word. -/
theorem put_lo (V : Nat) (z : Int) (k : Nat) (hk : k < 8) (hV : V < 2 ^ (8 * k)) (z0 : 0 ≤ z) (z1 : z ≤ 255) :
    bits .or .u64 (lo V) (IntKind.u64.wrap (z * 2 ^ (8 * k))) = lo (V + z.toNat * 2 ^ (8 * k)) ∧ hi V = hi (V + z.toNat * 2 ^ (8 * k)) := by
  obtain ⟨c, rfl⟩ := Int.eq_ofNat_of_zero_le z0
  have hp : 2 ^ (8 * k) * 256 ≤ 18446744073709551616 := by
    rw [show (18446744073709551616 : Nat) = 2 ^ 64 by decide, show (256 : Nat) = 2 ^ 8 by decide, ← Nat.pow_add]
    exact Nat.pow_le_pow_right (by omega) (by omega)
  have hm : c * 2 ^ (8 * k) ≤ 255 * 2 ^ (8 * k) := Nat.mul_le_mul_right _ (by omega)
  have hor := Nat.two_pow_add_eq_or_of_lt hV c
  rw [Nat.mul_comm] at hor
  rw [pow_cast, ← Int.natCast_mul, IntKind.wrap_u64, Int.toNat_natCast]
  have e1 : ((c * 2 ^ (8 * k) : Nat) : Int) % 18446744073709551616 = ((c * 2 ^ (8 * k) : Nat) : Int) := by omega
  rw [e1]
  generalize c * 2 ^ (8 * k) = s at *
  generalize 2 ^ (8 * k) = p at *
  unfold lo hi
  rw [u64_or_nat _ _ (by omega) (by omega), show V % 18446744073709551616 = V by omega, Nat.or_comm, ← hor]
  constructor <;> omega
/-- One byte more, in the high word. -/
theorem put_hi (V : Nat) (z : Int) (k : Nat) (hk : 8 ≤ k) (hk2 : k < 16) (hV : V < 2 ^ (8 * k)) (z0 : 0 ≤ z) (z1 : z ≤ 255) :
    bits .or .u64 (hi V) (IntKind.u64.wrap (z * 2 ^ (8 * (k - 8)))) = hi (V + z.toNat * 2 ^ (8 * k)) ∧ lo V = lo (V + z.toNat * 2 ^ (8 * k)) := by
  obtain ⟨c, rfl⟩ := Int.eq_ofNat_of_zero_le z0
  obtain ⟨j, rfl⟩ : ∃ j, k = j + 8 := ⟨k - 8, by omega⟩
  have e8 : 2 ^ (8 * (j + 8)) = 18446744073709551616 * 2 ^ (8 * j) := by
    rw [show (18446744073709551616 : Nat) = 2 ^ 64 by decide, ← Nat.pow_add]; congr 1; omega
  have hp : 2 ^ (8 * j) * 256 ≤ 18446744073709551616 := by
    rw [show (18446744073709551616 : Nat) = 2 ^ 64 by decide, show (256 : Nat) = 2 ^ 8 by decide, ← Nat.pow_add]
    exact Nat.pow_le_pow_right (by omega) (by omega)
  have hm : c * 2 ^ (8 * j) ≤ 255 * 2 ^ (8 * j) := Nat.mul_le_mul_right _ (by omega)
  rw [e8] at hV ⊢
  have hV' : V / 18446744073709551616 < 2 ^ (8 * j) := by omega
  have hor := Nat.two_pow_add_eq_or_of_lt hV' c
  rw [Nat.mul_comm] at hor
  rw [show j + 8 - 8 = j by omega, pow_cast, ← Int.natCast_mul, IntKind.wrap_u64, Int.toNat_natCast, show c * (18446744073709551616 * 2 ^ (8 * j)) = 18446744073709551616 * (c * 2 ^ (8 * j)) by rw [Nat.mul_left_comm]]
  have e1 : ((c * 2 ^ (8 * j) : Nat) : Int) % 18446744073709551616 = ((c * 2 ^ (8 * j) : Nat) : Int) := by omega
  rw [e1]
  generalize c * 2 ^ (8 * j) = s at *
  generalize 2 ^ (8 * j) = p at *
  unfold lo hi
  rw [u64_or_nat _ _ (by omega) (by omega), show V / 18446744073709551616 % 18446744073709551616 = V / 18446744073709551616 by omega, Nat.or_comm, ← hor]
  constructor <;> omega

/-- The number of the first k bytes, at most 16. -/
theorem valOf_take (zs : List Int) (k : Nat) (z : Int) (h : zs[k]? = some z) : valOf (zs.take (k + 1)) = valOf (zs.take k) + z.toNat * 2 ^ (8 * k) := by
  have hk : k < zs.length := by
    rcases Nat.lt_or_ge k zs.length with h1 | h1
    · exact h1
    · rw [List.getElem?_eq_none h1] at h; simp at h
  rw [take_more h, valOf_snoc, List.length_take, Nat.min_eq_left (by omega)]
theorem valOf_take_lt (zs : List Int) (k : Nat) (hk : k ≤ zs.length) (h : ∀ z ∈ zs, 0 ≤ z ∧ z ≤ 255) : valOf (zs.take k) < 2 ^ (8 * k) := by
  have := valOf_lt (zs.take k) fun z hz => h z (List.mem_of_mem_take hz)
  rwa [List.length_take, Nat.min_eq_left hk] at this

/-- The mask of the lowest bytes. -/
theorem mask_lo (X m : Nat) (hm : m ≤ 64) (M : Int) (hM : M = ((2 ^ m - 1 : Nat) : Int)) : bits .and .u64 (lo X) M = lo (X % 2 ^ m) ∧ hi (X % 2 ^ m) = 0 := by
  have hp : 2 ^ m ≤ 18446744073709551616 := by
    rw [show (18446744073709551616 : Nat) = 2 ^ 64 by decide]; exact Nat.pow_le_pow_right (by omega) hm
  have hlt := Nat.mod_lt X (Nat.two_pow_pos m)
  have hpos := Nat.two_pow_pos m
  have e2 : X % 18446744073709551616 % 2 ^ m = X % 2 ^ m := by rw [show (18446744073709551616 : Nat) = 2 ^ 64 by decide]; exact mod_mod_pow X m 64 hm
  subst hM
  unfold lo hi
  rw [u64_and_nat _ _ (by omega) (by omega), Nat.and_two_pow_sub_one_eq_mod, e2]
  generalize X % 2 ^ m = q at *
  generalize 2 ^ m = p at *
  constructor <;> omega
end Go.Proofs.Ytipjeihfhnilcaa
end

section
/-
  Plain mathematics of the stack (chapter 9): its bytes, which of them are used, its SP; what each operation does. No function of the program is named here.
-/
namespace Go.Proofs.Ytipjeihfhnilcaa
open Go.RowKit

/-- A stack. -/
structure Sk where
  bs : List Int
  us : List Bool
  sp : Nat
/-- .. for which Check is true. -/
structure Sk.Ok (S : Sk) : Prop where
  len : S.us.length = S.bs.length
  most : S.bs.length ≤ 1048576
  sp : S.sp ≤ S.bs.length
  byt : ∀ z ∈ S.bs, 0 ≤ z ∧ z ≤ 255

/-- The errors of Push and Pop; an access lies on the stack. -/
def pushE (S : Sk) (n : Int) : Int := if n < 0 then 4 else if (S.sp : Int) < n then 9 else 0
def popE (S : Sk) (n : Int) : Int := if n < 0 ∨ (S.bs.length : Int) - S.sp < n then 4 else 0
def fitB (S : Sk) (off n : Int) : Bool := szB n && decide (0 ≤ off ∧ off + n ≤ (S.bs.length : Int) - S.sp)
/-- The stack behind each. -/
def pushS (S : Sk) (n : Nat) : Sk := ⟨S.bs, splice S.us (S.sp - n) (List.replicate n false), S.sp - n⟩
def popS (S : Sk) (n : Nat) : Sk := ⟨S.bs, S.us, S.sp + n⟩
def usedB (S : Sk) (at_ n : Nat) : Bool := ((S.us.drop at_).take n).all id
def cutS (S : Sk) (at_ n : Nat) : List Int := (S.bs.drop at_).take n
def putS (S : Sk) (at_ : Nat) (zs : List Int) : Sk := ⟨splice S.bs at_ zs, splice S.us at_ (List.replicate zs.length true), S.sp⟩
def storeS (S : Sk) (at_ n X : Nat) : Sk := putS S at_ (bytesV X n)
def newS (n sp : Nat) : Sk := ⟨List.replicate n 0, List.replicate n false, sp⟩

theorem splice_at {α : Type} (L : List α) (off : Nat) (cs : List α) (h : off + cs.length ≤ L.length) (k : Nat) :
    (splice L off cs)[k]? = if k < off then L[k]? else if k < off + cs.length then cs[k - off]? else L[k]? := by
  unfold splice
  have h1 : (L.take off).length = off := by simp; omega
  split
  · rename_i hk
    rw [List.getElem?_append_left (by omega), List.getElem?_take, if_pos hk]
  · rename_i hk
    rw [List.getElem?_append_right (by omega), h1]
    split
    · rename_i h2
      rw [List.getElem?_append_left (by omega)]
    · rename_i h2
      rw [List.getElem?_append_right (by omega), List.getElem?_drop]
      congr 1; omega
theorem splice_map {α β : Type} (f : α → β) (L : List α) (off : Nat) (cs : List α) : (splice L off cs).map f = splice (L.map f) off (cs.map f) := by
  simp [splice, List.map_take, List.map_drop]
theorem splice_mem {α : Type} {L cs : List α} {off : Nat} {P : α → Prop} (h1 : ∀ z ∈ L, P z) (h2 : ∀ z ∈ cs, P z) : ∀ z ∈ splice L off cs, P z := by
  intro z hz
  simp only [splice, List.mem_append] at hz
  rcases hz with hz | hz | hz
  · exact h1 z (List.mem_of_mem_take hz)
  · exact h2 z hz
  · exact h1 z (List.mem_of_mem_drop hz)
/-- One element more of those that go over. -/
theorem splice_step {α : Type} (L cs : List α) (off k : Nat) (z : α) (h : off + cs.length ≤ L.length) (hz : cs[k]? = some z) : (splice L off (cs.take k)).set (off + k) z = splice L off (cs.take (k + 1)) := by
  have hk : k < cs.length := by
    rcases Nat.lt_or_ge k cs.length with h1 | h1
    · exact h1
    · rw [List.getElem?_eq_none h1] at hz; simp at hz
  apply List.ext_getElem?
  intro j
  rw [List.getElem?_set, splice_at _ _ _ (by simp; omega), splice_at _ _ _ (by simp; omega), length_splice _ _ _ (by simp; omega)]
  simp only [List.length_take, List.getElem?_take]
  by_cases e : off + k = j
  · subst e
    rw [if_pos rfl, if_pos (by omega), if_neg (by omega), if_pos (by omega), if_pos (by omega), show off + k - off = k by omega, hz]
  · rw [if_neg e]
    by_cases h1 : j < off
    · rw [if_pos h1, if_pos h1]
    · rw [if_neg h1, if_neg h1]
      by_cases h2 : j < off + min k cs.length
      · rw [if_pos h2, if_pos (by omega), if_pos (by omega), if_pos (by omega)]
      · rw [if_neg h2, if_neg (by omega)]
theorem splice_none {α : Type} (L : List α) (off : Nat) (h : off ≤ L.length) : splice L off [] = L := by simp [splice]
/-- What was put is there. -/
theorem splice_cut {α : Type} (L : List α) (off : Nat) (cs : List α) (h : off + cs.length ≤ L.length) : ((splice L off cs).drop off).take cs.length = cs := by
  unfold splice
  have h1 : (L.take off).length = off := by simp; omega
  rw [List.drop_append_of_le_length (by omega), List.drop_eq_nil_of_le (by omega), List.nil_append, List.take_left]
theorem splice_behind {α : Type} (L : List α) (off : Nat) (cs : List α) (n : Nat) (hn : off + cs.length ≤ n) (h : off + cs.length ≤ L.length) : (splice L off cs).drop n = L.drop n := by
  apply List.ext_getElem?
  intro j
  rw [List.getElem?_drop, List.getElem?_drop, splice_at _ _ _ h, if_neg (by omega), if_neg (by omega)]

section
variable {S : Sk}
theorem fitB_iff {off n : Int} : fitB S off n = true ↔ szB n = true ∧ 0 ≤ off ∧ off + n ≤ (S.bs.length : Int) - S.sp := by simp [fitB]
theorem Sk.Ok.push (h : S.Ok) {n : Nat} (hn : n ≤ S.sp) : (pushS S n).Ok := by
  have := h.len; have := h.sp
  refine ⟨?_, h.most, by show S.sp - n ≤ _; have := h.sp; show S.sp - n ≤ S.bs.length; omega, h.byt⟩
  show (splice _ _ _).length = S.bs.length
  rw [length_splice _ _ _ (by simp; omega), h.len]
theorem Sk.Ok.pop (h : S.Ok) {n : Nat} (hn : S.sp + n ≤ S.bs.length) : (popS S n).Ok := ⟨h.len, h.most, hn, h.byt⟩
theorem Sk.Ok.put (h : S.Ok) {a : Nat} {zs : List Int} (ha : a + zs.length ≤ S.bs.length) (hz : ∀ z ∈ zs, 0 ≤ z ∧ z ≤ 255) : (putS S a zs).Ok := by
  have := h.len
  refine ⟨?_, ?_, ?_, splice_mem h.byt hz⟩
  · show (splice _ _ _).length = (splice _ _ _).length
    rw [length_splice _ _ _ (by simp; omega), length_splice _ _ _ ha, h.len]
  · show (splice _ _ _).length ≤ _
    rw [length_splice _ _ _ ha]; exact h.most
  · show S.sp ≤ (splice _ _ _).length
    rw [length_splice _ _ _ ha]; exact h.sp
theorem Sk.Ok.store (h : S.Ok) {a n X : Nat} (ha : a + n ≤ S.bs.length) : (storeS S a n X).Ok := h.put (by rw [bytesV_length]; exact ha) (bytesV_mem X n)
theorem put_len {a : Nat} {zs : List Int} (ha : a + zs.length ≤ S.bs.length) : (putS S a zs).bs.length = S.bs.length := length_splice _ _ _ ha
theorem newS_ok {n sp : Nat} (hn : n ≤ 1048576) (hs : sp ≤ n) : (newS n sp).Ok := ⟨by simp [newS], by simp [newS]; exact hn, by simp [newS]; exact hs, fun z hz => by rw [List.eq_of_mem_replicate (show z ∈ List.replicate n 0 from hz)]; omega⟩
theorem used_iff {a n : Nat} (h : a + n ≤ S.us.length) : usedB S a n = true ↔ ∀ k, k < n → S.us[a + k]? = some true := by
  unfold usedB
  rw [List.all_eq_true]
  constructor
  · intro h1 k hk
    have hl : a + k < S.us.length := by omega
    rw [List.getElem?_eq_getElem hl]
    congr 1
    refine h1 _ (List.mem_of_getElem? (i := k) ?_)
    rw [List.getElem?_take, if_pos hk, List.getElem?_drop, List.getElem?_eq_getElem hl]
  · intro h1 b hb
    obtain ⟨k, hk, e⟩ := List.getElem_of_mem hb
    have hk' : k < n := by simp at hk; omega
    have := h1 k hk'
    rw [← e]
    simp only [List.getElem_take, List.getElem_drop, id]
    rw [List.getElem?_eq_getElem (by omega)] at this
    injection this
/-- The bytes that were put are used. -/
theorem used_put {a : Nat} {zs : List Int} (h : a + zs.length ≤ S.us.length) : usedB (putS S a zs) a zs.length = true := by
  unfold usedB putS
  have := splice_cut S.us a (List.replicate zs.length true) (by simpa using h)
  rw [List.length_replicate] at this
  rw [this]
  simp
theorem cut_put {a : Nat} {zs : List Int} (h : a + zs.length ≤ S.bs.length) : cutS (putS S a zs) a zs.length = zs := splice_cut S.bs a zs h
theorem cut_len {a n : Nat} (h : a + n ≤ S.bs.length) : (cutS S a n).length = n := by simp [cutS]; omega
theorem cut_byt (h : S.Ok) (a n : Nat) : ∀ z ∈ cutS S a n, 0 ≤ z ∧ z ≤ 255 := fun z hz => h.byt z (List.mem_of_mem_drop (List.mem_of_mem_take hz))
/-- Bytes are the bytes of their number. -/
theorem bytesV_valOf (zs : List Int) (h : ∀ z ∈ zs, 0 ≤ z ∧ z ≤ 255) : ∀ n, n ≤ zs.length → bytesV (valOf zs) n = zs.take n := by
  intro n
  induction n with
  | zero => intro _; simp [bytesV]
  | succ n ih =>
    intro hn
    rw [bytesV, ih (by omega), take_more (List.getElem?_eq_getElem (show n < zs.length by omega))]
    congr 2
    have hb := h zs[n] (List.getElem_mem _)
    have hs : valOf zs = valOf (zs.take n) + zs[n].toNat * 2 ^ (8 * n) + valOf (zs.drop (n + 1)) * 2 ^ (8 * (n + 1)) := by
      have hap : ∀ (xs ys : List Int), valOf (xs ++ ys) = valOf xs + valOf ys * 2 ^ (8 * xs.length) := by
        intro xs ys
        induction xs with
        | nil => simp [valOf]
        | cons y r ih =>
          simp only [List.cons_append, valOf, ih, List.length_cons]
          rw [show 8 * (r.length + 1) = 8 * r.length + 8 by omega, Nat.pow_add, Nat.mul_add, show (2 : Nat) ^ 8 = 256 by decide]
          rw [show 256 * (valOf ys * 2 ^ (8 * r.length)) = valOf ys * (2 ^ (8 * r.length) * 256) by rw [Nat.mul_comm 256, Nat.mul_assoc]]
          omega
      conv => lhs; rw [← List.take_append_drop (n + 1) zs]
      rw [hap, valOf_take zs n _ (List.getElem?_eq_getElem (show n < zs.length by omega)), List.length_take, Nat.min_eq_left (by omega)]
    have ht := valOf_take_lt zs n (by omega) h
    unfold byteOf
    rw [hs, show 8 * (n + 1) = 8 * n + 8 by omega, Nat.pow_add, show (2 : Nat) ^ 8 = 256 by decide]
    generalize valOf (zs.take n) = x at *
    generalize valOf (zs.drop (n + 1)) = y at *
    generalize 2 ^ (8 * n) = p at *
    have hp : 0 < p := by omega
    rw [show x + zs[n].toNat * p + y * (p * 256) = x + (zs[n].toNat + y * 256) * p by rw [Nat.add_mul, Nat.mul_assoc y 256 p, Nat.mul_comm 256 p]; omega]
    rw [Nat.add_mul_div_right _ _ hp, Nat.div_eq_of_lt ht, Nat.zero_add]
    omega
/-- A move is a load and a store. -/
theorem move_eq (h : S.Ok) {dst from_ n : Nat} (hf : from_ + n ≤ S.bs.length) : storeS S dst n (valOf ((cutS S from_ n).take 16)) = putS S dst (cutS S from_ n) ∨ 16 < n := by
  rcases Nat.lt_or_ge 16 n with h16 | h16
  · exact .inr h16
  · left
    have hl := cut_len hf
    rw [List.take_of_length_le (by omega)]
    unfold storeS
    rw [bytesV_valOf _ (cut_byt h _ _) n (by omega), List.take_of_length_le (by omega)]
end
end Go.Proofs.Ytipjeihfhnilcaa
end
