import Derived.Test.YtafegghdhdgioaaDoorMKit
set_option linter.unusedVariables false
set_option linter.unusedSimpArgs false
section
/-
  Plain mathematics of the operations on bits that the program uses, and of zigzag numbers; no function of the program is named here.
-/
namespace Go.Proofs.YtafegghdhdgioaaDoor
open Go.RowKit

theorem or_one (x : Nat) : x ||| 1 = 2 * (x / 2) + 1 := by
  apply Nat.eq_of_testBit_eq
  intro i
  rw [Nat.testBit_or]
  cases i with
  | zero => rw [Nat.testBit_zero, Nat.testBit_zero, Nat.testBit_zero, show (2 * (x / 2) + 1) % 2 = 1 by omega]; simp
  | succ i => rw [Nat.testBit_succ, Nat.testBit_succ, Nat.testBit_succ, show 1 / 2 = 0 by decide, show (2 * (x / 2) + 1) / 2 = x / 2 by omega]; simp

theorem or_one_u64 (v : Int) (h0 : 0 ≤ v) (hv : v ≤ 18446744073709551615) : bits .or .u64 v 1 = 2 * (v / 2) + 1 := by
  rw [u64_or v 1 h0 (by omega) (by omega) (by omega), show (1 : Int).toNat = 1 from rfl, or_one]
  omega

theorem and_one_u64 (v : Int) (h0 : 0 ≤ v) (hv : v ≤ 18446744073709551615) : bits .and .u64 v 1 = v % 2 := by
  obtain ⟨n, rfl⟩ := Int.eq_ofNat_of_zero_le h0
  rw [show (1 : Int) = ((1 : Nat) : Int) from rfl, u64_and_nat n 1 (by omega) (by omega), Nat.and_one_is_mod]
  omega

theorem not_u64 (a : Int) (h0 : 0 ≤ a) (h1 : a ≤ 18446744073709551615) : bits .xor .u64 18446744073709551615 a = 18446744073709551615 - a := by
  obtain ⟨n, rfl⟩ := Int.eq_ofNat_of_zero_le h0
  show IntKind.u64.wrap ((BitVec.ofInt 64 18446744073709551615 ^^^ BitVec.ofInt 64 (n : Int)).toNat : Int) = _
  have e : BitVec.ofInt 64 18446744073709551615 = BitVec.allOnes 64 := by decide
  rw [e, BitVec.allOnes_xor, BitVec.toNat_not, ofInt_u64 n (by omega), IntKind.wrap_u64]
  omega

theorem xor_ones_u64 (a : Int) (h0 : 0 ≤ a) (h1 : a ≤ 18446744073709551615) : bits .xor .u64 a 18446744073709551615 = 18446744073709551615 - a := by
  obtain ⟨n, rfl⟩ := Int.eq_ofNat_of_zero_le h0
  show IntKind.u64.wrap ((BitVec.ofInt 64 (n : Int) ^^^ BitVec.ofInt 64 18446744073709551615).toNat : Int) = _
  have e : BitVec.ofInt 64 18446744073709551615 = BitVec.allOnes 64 := by decide
  rw [e, BitVec.xor_allOnes, BitVec.toNat_not, ofInt_u64 n (by omega), IntKind.wrap_u64]
  omega

theorem xor_zero_u64 (a : Int) (h0 : 0 ≤ a) (h1 : a ≤ 18446744073709551615) : bits .xor .u64 a 0 = a := by
  obtain ⟨n, rfl⟩ := Int.eq_ofNat_of_zero_le h0
  rw [show (0 : Int) = ((0 : Nat) : Int) from rfl, u64_xor_nat n 0 (by omega) (by omega), Nat.xor_zero]

theorem wrap_i64_in (a : Int) (h0 : -9223372036854775808 ≤ a) (h1 : a ≤ 9223372036854775807) : IntKind.i64.wrap a = a := by
  simp [IntKind.wrap, IntKind.bits, IntKind.signed]; omega

theorem not_i64 (a : Int) (h0 : 0 ≤ a) (h1 : a ≤ 9223372036854775807) : bits .xor .i64 (-1) a = -1 - a := by
  obtain ⟨n, rfl⟩ := Int.eq_ofNat_of_zero_le h0
  show IntKind.i64.wrap ((BitVec.ofInt 64 (-1) ^^^ BitVec.ofInt 64 (n : Int)).toNat : Int) = _
  have e : BitVec.ofInt 64 (-1) = BitVec.allOnes 64 := by decide
  rw [e, BitVec.allOnes_xor, BitVec.toNat_not, ofInt_u64 n (by omega)]
  simp [IntKind.wrap, IntKind.bits, IntKind.signed]
  omega

theorem xor_ones_i64 (a : Int) (h0 : 0 ≤ a) (h1 : a ≤ 9223372036854775807) : bits .xor .i64 a (-1) = -1 - a := by
  obtain ⟨n, rfl⟩ := Int.eq_ofNat_of_zero_le h0
  show IntKind.i64.wrap ((BitVec.ofInt 64 (n : Int) ^^^ BitVec.ofInt 64 (-1)).toNat : Int) = _
  have e : BitVec.ofInt 64 (-1) = BitVec.allOnes 64 := by decide
  rw [e, BitVec.xor_allOnes, BitVec.toNat_not, ofInt_u64 n (by omega)]
  simp [IntKind.wrap, IntKind.bits, IntKind.signed]
  omega

theorem xor_zero_i64 (a : Int) (h0 : 0 ≤ a) (h1 : a ≤ 9223372036854775807) : bits .xor .i64 a 0 = a := by
  obtain ⟨n, rfl⟩ := Int.eq_ofNat_of_zero_le h0
  show IntKind.i64.wrap ((BitVec.ofInt 64 (n : Int) ^^^ BitVec.ofInt 64 0).toNat : Int) = _
  have e : BitVec.ofInt 64 0 = 0#64 := by decide
  rw [e, BitVec.xor_zero, ofInt_u64 n (by omega)]
  exact wrap_i64_in _ (by omega) (by omega)

/-- The zigzag number. -/
def zz (n : Int) : Int := if n < 0 then -2 * n - 1 else 2 * n
/-- .. and back. -/
def unzz (z : Int) : Int := if z % 2 = 1 then -1 - z / 2 else z / 2
theorem zz_lo (n : Int) : 0 ≤ zz n := by unfold zz; split <;> omega
theorem zz_hi (n : Int) (h0 : -9223372036854775808 ≤ n) (h1 : n ≤ 9223372036854775807) : zz n ≤ 18446744073709551615 := by unfold zz; split <;> omega
theorem unzz_zz (n : Int) : unzz (zz n) = n := by unfold unzz zz; split <;> split <;> omega
theorem unzz_lo (z : Int) (h0 : 0 ≤ z) (h1 : z ≤ 18446744073709551615) : -9223372036854775808 ≤ unzz z := by unfold unzz; split <;> omega
theorem unzz_hi (z : Int) (h0 : 0 ≤ z) (h1 : z ≤ 18446744073709551615) : unzz z ≤ 9223372036854775807 := by unfold unzz; split <;> omega

theorem zz_neg (v : Int) (h0 : -9223372036854775808 ≤ v) (h1 : v < 0) :
    bits .xor .u64 IntKind.u64.max (IntKind.u64.wrap (IntKind.u64.wrap v * 2)) = zz v := by
  rw [show IntKind.u64.max = 18446744073709551615 by decide, IntKind.wrap_u64, IntKind.wrap_u64, not_u64 _ (by omega) (by omega)]
  unfold zz
  split <;> omega

theorem zz_ref (v : Int) (h0 : -9223372036854775808 ≤ v) (h1 : v ≤ 9223372036854775807) :
    bits .xor .u64 (IntKind.u64.wrap (IntKind.u64.wrap v * 2)) (IntKind.u64.wrap (v / 9223372036854775808)) = zz v := by
  simp only [IntKind.wrap_u64]
  rcases Int.lt_or_le v 0 with h | h
  · rw [show v / 9223372036854775808 % 18446744073709551616 = 18446744073709551615 by omega, xor_ones_u64 _ (by omega) (by omega)]
    unfold zz
    split <;> omega
  · rw [show v / 9223372036854775808 % 18446744073709551616 = 0 by omega, xor_zero_u64 _ (by omega) (by omega)]
    unfold zz
    split <;> omega

theorem mod_fact (x n : Int) (hn : 1 ≤ n) (hn2 : n ≤ 100000) : (wrap64 (x.tmod n + n)).tmod n = x % n := by
  have hp : 0 < n := by omega
  have h1 : -n < x.tmod n := by have := Int.lt_tmod_of_pos x hp; omega
  have h2 : x.tmod n < n := Int.tmod_lt_of_pos x hp
  rw [IntWalk.wrap64_in _ ⟨by omega, by omega⟩, Int.tmod_eq_emod_of_nonneg (by omega), Int.add_emod_right]
  have e : x.tmod n = x - n * x.tdiv n := by have := Int.mul_tdiv_add_tmod x n; omega
  rw [e, Int.sub_mul_emod_self_left]
end Go.Proofs.YtafegghdhdgioaaDoor
end

section
/-
  The contract of varint.Len, for every argument of its type.
-/
namespace Go.Proofs.YtafegghdhdgioaaDoor
open Go.RowKit

set_option maxRecDepth 100000 in
set_option maxHeartbeats 400000 in
theorem len_any (v : Int) (w : World) (h0 : 0 ≤ v) (hv : v ≤ 18446744073709551615) : Calls Tryd.prog 91 #[.int .u64 v] w fun e w' => e = .returned (.int .i64 (lenv v.toNat)) ∧ w = w' := by
  go_enter Tryd.func91, Tryd.ntmps91
  go_wp2_with fail
  rw [or_one_u64 v h0 hv]
  refine (len64_any (2 * (v / 2) + 1) _ (by omega) (by omega)).mono ?_
  rintro e w' ⟨L, rfl, hL, hL64, rfl⟩
  have HL := hide (lenv_of_bits v.toNat (2 * (v / 2) + 1).toNat L (by omega) hL)
  clear hL
  go_wp2
  go_ret
  exact ⟨by simp; rw [← HL.out]; omega, rfl⟩
end Go.Proofs.YtafegghdhdgioaaDoor
end

section
/-
  The contracts of varint.PutUint, PutInt and of the reference's PutUint, PutInt: the bytes given, then the digits of v. Conditions: at most 2^40 bytes come in; v is a uint64 (n an int).
-/
namespace Go.Proofs.YtafegghdhdgioaaDoor
open Go.RowKit

theorem Tryd.info5 : (Tryd.prog.info? 5).map (fun i => (i.zero, i.size, i.bytes)) = some (some (.int .u8 0), 1, 1) := by kernel_rfl

/-- The digits as integers. -/
def digsI (v : Nat) : List Int := (digs v).map fun d : Nat => (d : Int)
theorem digsI_small {v : Nat} (h : v < 128) : digsI v = [(v : Int)] := by simp [digsI, digs_small h]
theorem digsI_great {v : Nat} (h : 128 ≤ v) : digsI v = ((v % 128 + 128 : Nat) : Int) :: digsI (v / 128) := by simp [digsI, digs_great h]
theorem digsI_length (v : Nat) : (digsI v).length = lenv v := by simp [digsI, lenv]

theorem or_128 (u : Int) (h : 0 ≤ u) : bits .or .u8 (u % 256) 128 = u % 128 + 128 := by
  rw [show (128 : Int) = ((128 : Nat) : Int) from rfl, show u % 256 = ((u.toNat % 256 : Nat) : Int) by omega, u8_or_nat _ _ (by omega) (by omega)]
  have e : ∀ n : Fin 256, n.val ||| 128 = n.val % 128 + 128 := by decide +kernel
  have := e ⟨u.toNat % 256, by omega⟩
  simp only at this
  rw [this]
  omega

/-- k zero bytes, behind a name. -/
def zeros (k : Nat) : List Value := List.replicate k (.int .u8 0)

theorem make_zeros {P : Program} {t e : TypeId} {i : TypeInfo} (ht : P.underlying t = some (.slice e)) (hi : P.info? e = some i) (hz : i.zero = some (.int .u8 0)) (hs : i.size = 1) (hb : i.bytes = 1)
    (n L : Nat) (hm : n + L ≤ 140737488355328) (W : World) :
    (Instr.makeSlice t (.int .i64 (n : Int)) (.int .i64 ((n : Int) + (L : Int)))).run P W = .ok (.slice (some ⟨W.heap.size, 0, none⟩) n (n + L)) (W.alloc (.cells (zeros (n + L)).toArray e)) := by
  have h := run_make W t e i _ ht hi hz .i64 .i64 (n : Int) ((n : Int) + (L : Int)) (by omega) (by omega) (by rw [hb]; omega) (by omega)
  rw [h, show ((n : Int)).toNat = n by omega, show ((n : Int) + (L : Int)).toNat = n + L by omega, hs, Nat.mul_one]
  rw [show (Value.int IntKind.u8 0).cells = #[Value.int IntKind.u8 0] from rfl, madeCells_list]
  rfl

theorem Tryd.one5 : (Tryd.prog.info? 5).map (·.size) = some 1 := by kernel_rfl
theorem one_u8 (zs : List Int) : ∀ u ∈ cellsU8 zs, u.oneCell' = true := by
  intro u hu
  simp only [cellsU8, List.mem_map] at hu
  obtain ⟨x, _, rfl⟩ := hu
  rfl
theorem one_byte (x : Int) : ∀ u ∈ [Value.int .u8 x], u.oneCell' = true := by
  intro u hu
  simp only [List.mem_singleton] at hu
  subst hu
  rfl

/-- The relation of the loops that append digits. -/
def PutRel (w0 : World) (e : TypeId) (n : Nat) (zs : List Int) (v : Nat) (a out : Value) (wr : World) : Prop :=
  ∃ (u : Int) (j : Nat) (ds : List Int), 0 ≤ u ∧ u ≤ 18446744073709551615 ∧ j ≤ 10 ∧ a = .int .u64 u ∧ wr.ownsRow w0.heap.size e 1 out (n + j) (cellsU8 (zs ++ ds)) ∧ Below w0.heap.size w0 wr ∧
    j + lenv u.toNat = lenv v ∧ digsI v = ds ++ digsI u.toNat

theorem PutRel.more {w0 : World} {e : TypeId} {n : Nat} {zs : List Int} {v : Nat} {u : Int} {j : Nat} {ds : List Int} {out : Value} {wr : World} (h0 : 128 ≤ u) (h1 : u ≤ 18446744073709551615) (hj : j ≤ 9)
    (ho : wr.ownsRow w0.heap.size e 1 out (n + j + 1) (cellsU8 (zs ++ ds) ++ [.int .u8 (u % 128 + 128)])) (hb : Below w0.heap.size w0 wr) (hl : j + lenv u.toNat = lenv v) (hd : digsI v = ds ++ digsI u.toNat) :
    PutRel w0 e n zs v (.int .u64 (u / 128)) out wr := by
  refine ⟨u / 128, j + 1, ds ++ [u % 128 + 128], by omega, by omega, by omega, rfl, ?_, hb, ?_, ?_⟩
  · rw [← Nat.add_assoc]
    have e : cellsU8 (zs ++ (ds ++ [u % 128 + 128])) = cellsU8 (zs ++ ds) ++ [.int .u8 (u % 128 + 128)] := by simp [cellsU8]
    rw [e]; exact ho
  · have := lenv_great (v := u.toNat) (by omega)
    rw [show (u / 128).toNat = u.toNat / 128 by omega]
    omega
  · rw [hd, digsI_great (by omega), show (u / 128).toNat = u.toNat / 128 by omega, show (((u.toNat % 128 + 128 : Nat)) : Int) = u % 128 + 128 by omega]
    simp

theorem PutRel.last {b : Nat} {e : TypeId} {n : Nat} {zs : List Int} {v : Nat} {u : Int} {j : Nat} {ds : List Int} {out : Value} {wr : World} (h0 : 0 ≤ u ∧ u < 128)
    (ho : wr.ownsRow b e 1 out (n + j + 1) (cellsU8 (zs ++ ds) ++ [.int .u8 u])) (hl : j + lenv u.toNat = lenv v) (hd : digsI v = ds ++ digsI u.toNat) :
    wr.ownsRow b e 1 out (n + lenv v) (cellsU8 (zs ++ digsI v)) := by
  have h1 := lenv_small (v := u.toNat) (by omega)
  rw [hd, digsI_small (by omega), show ((u.toNat : Nat) : Int) = u by omega, show n + lenv v = n + j + 1 by omega]
  have e : cellsU8 (zs ++ (ds ++ [u])) = cellsU8 (zs ++ ds) ++ [.int .u8 u] := by simp [cellsU8]
  rw [e]; exact ho

set_option maxRecDepth 100000 in
set_option maxHeartbeats 800000 in
theorem put_any (A : Option Addr) (n c : Nat) (zs : List Int) (v : Int) (B : Nat) (w : World) (hn : Hid (zs.length = n)) (hm : n ≤ 1099511627776) (hs : Sees w B A (cellsU8 zs)) (hB : Hid (B ≤ w.heap.size)) (h0 : 0 ≤ v) (hv : v ≤ 18446744073709551615) :
    Calls Tryd.prog 63 #[.slice A n c, .int .u64 v] w fun e w' => ∃ r, e = .returned r ∧ w'.ownsRow w.heap.size 5 1 r (n + lenv v.toNat) (cellsU8 (zs ++ digsI v.toNat)) ∧ Below w.heap.size w w' := by
  obtain ⟨i0, hi, hz0, hz1, hz2⟩ := info_parts Tryd.info5
  have hl10 := lenv_le v.toNat (by omega)
  have hmk := make_zeros (P := Tryd.prog) Tryd.underlying22 hi hz0 hz1 hz2 n (lenv v.toNat) (by omega)
  go_enter Tryd.func63, Tryd.ntmps63
  go_wp2_with fail
  refine (len_any v _ h0 hv).mono ?_
  rintro e w' ⟨rfl, rfl⟩
  go_wp2_with (with_reducible refine wpList_copy_splice rfl (.tmp 14) (.tmp 15) 22 22 rfl 5 Tryd.underlying22 Tryd.one5 _ _ _ _ _ _ rfl rfl w.heap.size 0 (zeros (n + lenv v.toNat)) 5 (heap_alloc_new w _) (cellsU8 zs) (by have := hn.out; simp [cellsU8]; omega) (fun hp => ⟨rfl, (hs.alloc hB.out _).src hp⟩) (by have := hn.out; simp [zeros, cellsU8]; omega) (one_u8 zs) w.heap.size w ((Below.refl _ _).alloc (Nat.le_refl _) _) (Nat.le_refl _) ?_)
  intro w1 hg1 hb1
  have hown1 := own_filled (w := w1) (base := w.heap.size) (cs := cellsU8 zs) (by simpa [cellsU8] using hn.out) hg1.out (Nat.le_refl _) (by unfold maxLen; omega)
  clear hg1 hmk hs hB
  go_wp2_with fail
  go_loopw [1, 5] (fun a out wr => PutRel w 5 n zs v.toNat a out wr) (fun a _ _ => (intOf a).toNat)
  case atStart => exact ⟨v, 0, [], h0, hv, by omega, rfl, by simpa using hown1, hb1, by omega, by simp⟩
  case round =>
    obtain ⟨u, j, ds, hu0, hu1, hj, rfl, hown, hb, hl', hd'⟩ := hrel
    have hl := hide hl'
    have hd := hide hd'
    have hp := lenv_pos u.toNat
    have hj9 : j ≤ 9 := by omega
    have hbs : w.heap.size ≤ wr.heap.size := hb.size
    clear hl' hd' hp
    by_cases hlt : 128 ≤ u
    · have hor := or_128 u hu0
      go_wp2_with (at_builtin; refine wpList_append_own _ rfl (.tmp 19) (.tmp 23) 22 rfl w.heap.size 5 i0 (.int .u8 0) 1 1 Tryd.underlying22 hi hz0 hz1 hz2 rfl (by decide) _ (n + j) (cellsU8 (zs ++ ds)) rfl (hown.alloc _) ⟨wr.heap.size, 0, none⟩ 1 1 [.int .u8 (u % 128 + 128)] rfl rfl (one_new _ _ _) (one_byte _) (by unfold maxLen; omega) (by omega) (by simp; omega) ?_)
      intro v' w' hown' hg' _
      have hb' := below_append (hb.alloc hbs _) (hown.alloc _) (Nat.le_refl _) hg' (by simp; omega)
      have hR := PutRel.more hlt hu1 hj9 hown' hb' hl.out hd.out
      clear hown' hb' hor hown hb
      go_wp2
      go_roundw
      case rel => exact hR
      case measure => simp [intOf]; omega
    · have hor : u % 256 = u := by omega
      go_wp2_with (at_builtin; refine wpList_append_own _ rfl (.tmp 27) (.tmp 30) 22 rfl w.heap.size 5 i0 (.int .u8 0) 1 1 Tryd.underlying22 hi hz0 hz1 hz2 rfl (by decide) _ (n + j) (cellsU8 (zs ++ ds)) rfl (hown.alloc _) ⟨wr.heap.size, 0, none⟩ 1 1 [.int .u8 u] rfl rfl (one_new _ _ _) (one_byte _) (by unfold maxLen; omega) (by omega) (by simp; omega) ?_)
      intro v' w' hown' hg' _
      have hb' := below_append (hb.alloc hbs _) (hown.alloc _) (Nat.le_refl _) hg' (by simp; omega)
      have hF := PutRel.last (by omega) hown' hl.out hd.out
      clear hown' hor hown hb
      go_wp2
      go_ret
      exact ⟨_, rfl, hF, hb'⟩
end Go.Proofs.YtafegghdhdgioaaDoor
end
