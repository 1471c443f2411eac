import Derived.Test.YtgcjckbndkddmaaDoorMGa
import Derived.Lib.BitFns
import Derived.Lib.Walk
import Derived.Lib.Small
set_option linter.unusedVariables false
set_option linter.unusedSimpArgs false
section
/-
  The contracts of math/bits.Len64, varint.Len and spillframeref01.Len: the number of bits of x, the number of digits in base 128 of v. For every value of uint64.
-/
namespace Go.Proofs.YtgcjckbndkddmaaDoor
open Go.RowKit

def SomeBits (x : Nat) (w : World) (e : Ending) (w' : World) : Prop := ∃ L : Nat, e = .returned (.int .i64 L) ∧ Bits x L ∧ L ≤ 64 ∧ w = w'

theorem tab_all : ∀ n : Fin 256, (Lib.len8tab[n.val]'(by rw [Lib.len8tab_size]; exact n.isLt)).toNat = bitsOfByte n.val := by decide +kernel

/-- The table's byte at y = x / 2^s, added to s, is the number of bits of x. -/
theorem close_bits (x y t : Int) (s : Nat) (w : World) (h0 : 0 ≤ y) (h1 : y < 256) (hb : y.toNat < Lib.len8tab.size) (hy : y.toNat = x.toNat / 2 ^ s) (hs : s = 0 ∨ 1 ≤ y) (hs2 : s ≤ 56)
    (ht : t = wrap64 (s + wrap64 (Lib.len8tab[y.toNat].toNat : Int))) : SomeBits x.toNat w (.returned (.int .i64 t)) w := by
  have h := tab_all ⟨y.toNat, by omega⟩
  simp only at h
  rw [h] at ht
  have hB := bits_of_byte y.toNat (by omega)
  have h8 : bitsOfByte y.toNat ≤ 8 := by unfold bitsOfByte; repeat' split
                                         all_goals omega
  refine ⟨s + bitsOfByte y.toNat, ?_, ?_, by omega, rfl⟩
  · rw [ht]
    have e1 : wrap64 (bitsOfByte y.toNat : Int) = bitsOfByte y.toNat := IntWalk.wrap64_in _ ⟨by omega, by omega⟩
    rw [e1, IntWalk.wrap64_in _ ⟨by omega, by omega⟩]
    rfl
  · rcases hs with hs | hs
    · subst hs
      simpa [hy] using hB
    · rw [hy] at hB ⊢
      exact bits_shift _ _ _ (bits_pos _ _ (by omega) hB) hB

set_option maxRecDepth 100000 in
set_option maxHeartbeats 4000000 in
theorem len64_any (x : Int) (w : World) (h0 : 0 ≤ x) (hx : x ≤ 18446744073709551615) : Calls Tryd.prog 106 #[.int .u64 x] w (SomeBits x.toNat w) := by
  have hsz := Lib.len8tab_size
  go_enter Tryd.func106, Tryd.ntmps106
  go_wp2
  all_goals go_ret
  all_goals first
    | exact close_bits x (x / 4294967296 / 65536 / 256) _ 56 w (by omega) (by omega) (by omega) (by omega) (by omega) (by omega) rfl
    | exact close_bits x (x / 4294967296 / 65536) _ 48 w (by omega) (by omega) (by omega) (by omega) (by omega) (by omega) rfl
    | exact close_bits x (x / 4294967296 / 256) _ 40 w (by omega) (by omega) (by omega) (by omega) (by omega) (by omega) rfl
    | exact close_bits x (x / 4294967296) _ 32 w (by omega) (by omega) (by omega) (by omega) (by omega) (by omega) rfl
    | exact close_bits x (x / 65536 / 256) _ 24 w (by omega) (by omega) (by omega) (by omega) (by omega) (by omega) rfl
    | exact close_bits x (x / 65536) _ 16 w (by omega) (by omega) (by omega) (by omega) (by omega) (by omega) rfl
    | exact close_bits x (x / 256) _ 8 w (by omega) (by omega) (by omega) (by omega) (by omega) (by omega) rfl
    | exact close_bits x x _ 0 w (by omega) (by omega) (by omega) (by omega) (by omega) (by omega) (by simp)
    | trace_state
end Go.Proofs.YtgcjckbndkddmaaDoor
end

section
/-
  The contract of varint.Len, for every argument of its type.
-/
namespace Go.Proofs.YtgcjckbndkddmaaDoor
open Go.RowKit

set_option maxRecDepth 100000 in
set_option maxHeartbeats 400000 in
theorem len_any (v : Int) (w : World) (h0 : 0 ≤ v) (hv : v ≤ 18446744073709551615) : Calls Tryd.prog 95 #[.int .u64 v] w fun e w' => e = .returned (.int .i64 (lenv v.toNat)) ∧ w = w' := by
  go_enter Tryd.func95, Tryd.ntmps95
  go_wp2_with fail
  rw [or_one_u64 v h0 hv]
  refine (len64_any (2 * (v / 2) + 1) _ (by omega) (by omega)).mono ?_
  rintro e w' ⟨L, rfl, hL, hL64, rfl⟩
  have HL := hide (lenv_of_bits v.toNat (2 * (v / 2) + 1).toNat L (by omega) hL)
  clear hL
  go_wp2
  go_ret
  exact ⟨by simp; rw [← HL.out]; omega, rfl⟩
end Go.Proofs.YtgcjckbndkddmaaDoor
end

section
/-
  The contracts of varint.PutUint, PutInt and of the reference's PutUint, PutInt: the bytes given, then the digits of v. Conditions: at most 2^40 bytes come in; v is a uint64 (n an int).
-/
namespace Go.Proofs.YtgcjckbndkddmaaDoor
open Go.RowKit

theorem Tryd.info5 : (Tryd.prog.info? 5).map (fun i => (i.zero, i.size, i.bytes)) = some (some (.int .u8 0), 1, 1) := by kernel_rfl

/-- The digits as integers. -/
def digsI (v : Nat) : List Int := (digs v).map fun d : Nat => (d : Int)
theorem digsI_small {v : Nat} (h : v < 128) : digsI v = [(v : Int)] := by simp [digsI, digs_small h]
theorem digsI_great {v : Nat} (h : 128 ≤ v) : digsI v = ((v % 128 + 128 : Nat) : Int) :: digsI (v / 128) := by simp [digsI, digs_great h]
theorem digsI_length (v : Nat) : (digsI v).length = lenv v := by simp [digsI, lenv]

theorem or_128 (u : Int) (h : 0 ≤ u) : bits .or .u8 (u % 256) 128 = u % 128 + 128 := by
  rw [show (128 : Int) = ((128 : Nat) : Int) from rfl, show u % 256 = ((u.toNat % 256 : Nat) : Int) by omega, u8_or_nat _ _ (by omega) (by omega)]
  have e : ∀ n : Fin 256, n.val ||| 128 = n.val % 128 + 128 := by decide +kernel
  have := e ⟨u.toNat % 256, by omega⟩
  simp only at this
  rw [this]
  omega

/-- k zero bytes, behind a name. -/
def zeros (k : Nat) : List Value := List.replicate k (.int .u8 0)

theorem make_zeros {P : Program} {t e : TypeId} {i : TypeInfo} (ht : P.underlying t = some (.slice e)) (hi : P.info? e = some i) (hz : i.zero = some (.int .u8 0)) (hs : i.size = 1) (hb : i.bytes = 1)
    (n L : Nat) (hm : n + L ≤ 140737488355328) (W : World) :
    (Instr.makeSlice t (.int .i64 (n : Int)) (.int .i64 ((n : Int) + (L : Int)))).run P W = .ok (.slice (some ⟨W.heap.size, 0, none⟩) n (n + L)) (W.alloc (.cells (zeros (n + L)).toArray e)) := by
  have h := run_make W t e i _ ht hi hz .i64 .i64 (n : Int) ((n : Int) + (L : Int)) (by omega) (by omega) (by rw [hb]; omega) (by omega)
  rw [h, show ((n : Int)).toNat = n by omega, show ((n : Int) + (L : Int)).toNat = n + L by omega, hs, Nat.mul_one]
  rw [show (Value.int IntKind.u8 0).cells = #[Value.int IntKind.u8 0] from rfl, madeCells_list]
  rfl

theorem Tryd.one5 : (Tryd.prog.info? 5).map (·.size) = some 1 := by kernel_rfl
theorem one_u8 (zs : List Int) : ∀ u ∈ cellsU8 zs, u.oneCell' = true := by
  intro u hu
  simp only [cellsU8, List.mem_map] at hu
  obtain ⟨x, _, rfl⟩ := hu
  rfl
theorem one_byte (x : Int) : ∀ u ∈ [Value.int .u8 x], u.oneCell' = true := by
  intro u hu
  simp only [List.mem_singleton] at hu
  subst hu
  rfl

/-- The relation of the loops that append digits. -/
def PutRel (w0 : World) (e : TypeId) (n : Nat) (zs : List Int) (v : Nat) (a out : Value) (wr : World) : Prop :=
  ∃ (u : Int) (j : Nat) (ds : List Int), 0 ≤ u ∧ u ≤ 18446744073709551615 ∧ j ≤ 10 ∧ a = .int .u64 u ∧ wr.ownsRow w0.heap.size e 1 out (n + j) (cellsU8 (zs ++ ds)) ∧ Below w0.heap.size w0 wr ∧
    j + lenv u.toNat = lenv v ∧ digsI v = ds ++ digsI u.toNat

theorem PutRel.more {w0 : World} {e : TypeId} {n : Nat} {zs : List Int} {v : Nat} {u : Int} {j : Nat} {ds : List Int} {out : Value} {wr : World} (h0 : 128 ≤ u) (h1 : u ≤ 18446744073709551615) (hj : j ≤ 9)
    (ho : wr.ownsRow w0.heap.size e 1 out (n + j + 1) (cellsU8 (zs ++ ds) ++ [.int .u8 (u % 128 + 128)])) (hb : Below w0.heap.size w0 wr) (hl : j + lenv u.toNat = lenv v) (hd : digsI v = ds ++ digsI u.toNat) :
    PutRel w0 e n zs v (.int .u64 (u / 128)) out wr := by
  refine ⟨u / 128, j + 1, ds ++ [u % 128 + 128], by omega, by omega, by omega, rfl, ?_, hb, ?_, ?_⟩
  · rw [← Nat.add_assoc]
    have e : cellsU8 (zs ++ (ds ++ [u % 128 + 128])) = cellsU8 (zs ++ ds) ++ [.int .u8 (u % 128 + 128)] := by simp [cellsU8]
    rw [e]; exact ho
  · have := lenv_great (v := u.toNat) (by omega)
    rw [show (u / 128).toNat = u.toNat / 128 by omega]
    omega
  · rw [hd, digsI_great (by omega), show (u / 128).toNat = u.toNat / 128 by omega, show (((u.toNat % 128 + 128 : Nat)) : Int) = u % 128 + 128 by omega]
    simp

theorem PutRel.last {b : Nat} {e : TypeId} {n : Nat} {zs : List Int} {v : Nat} {u : Int} {j : Nat} {ds : List Int} {out : Value} {wr : World} (h0 : 0 ≤ u ∧ u < 128)
    (ho : wr.ownsRow b e 1 out (n + j + 1) (cellsU8 (zs ++ ds) ++ [.int .u8 u])) (hl : j + lenv u.toNat = lenv v) (hd : digsI v = ds ++ digsI u.toNat) :
    wr.ownsRow b e 1 out (n + lenv v) (cellsU8 (zs ++ digsI v)) := by
  have h1 := lenv_small (v := u.toNat) (by omega)
  rw [hd, digsI_small (by omega), show ((u.toNat : Nat) : Int) = u by omega, show n + lenv v = n + j + 1 by omega]
  have e : cellsU8 (zs ++ (ds ++ [u])) = cellsU8 (zs ++ ds) ++ [.int .u8 u] := by simp [cellsU8]
  rw [e]; exact ho

set_option maxRecDepth 100000 in
set_option maxHeartbeats 800000 in
theorem put_any (A : Option Addr) (n c : Nat) (zs : List Int) (v : Int) (B : Nat) (w : World) (hn : Hid (zs.length = n)) (hm : n ≤ 1099511627776) (hs : Sees w B A (cellsU8 zs)) (hB : Hid (B ≤ w.heap.size)) (h0 : 0 ≤ v) (hv : v ≤ 18446744073709551615) :
    Calls Tryd.prog 76 #[.slice A n c, .int .u64 v] w fun e w' => ∃ r, e = .returned r ∧ w'.ownsRow w.heap.size 5 1 r (n + lenv v.toNat) (cellsU8 (zs ++ digsI v.toNat)) ∧ Below w.heap.size w w' := by
  obtain ⟨i0, hi, hz0, hz1, hz2⟩ := info_parts Tryd.info5
  have hl10 := lenv_le v.toNat (by omega)
  have hmk := make_zeros (P := Tryd.prog) Tryd.underlying22 hi hz0 hz1 hz2 n (lenv v.toNat) (by omega)
  go_enter Tryd.func76, Tryd.ntmps76
  go_wp2_with fail
  refine (len_any v _ h0 hv).mono ?_
  rintro e w' ⟨rfl, rfl⟩
  go_wp2_with (with_reducible refine wpList_copy_splice rfl (.tmp 14) (.tmp 15) 22 22 rfl 5 Tryd.underlying22 Tryd.one5 _ _ _ _ _ _ rfl rfl w.heap.size 0 (zeros (n + lenv v.toNat)) 5 (heap_alloc_new w _) (cellsU8 zs) (by have := hn.out; simp [cellsU8]; omega) (fun hp => ⟨rfl, (hs.alloc hB.out _).src hp⟩) (by have := hn.out; simp [zeros, cellsU8]; omega) (one_u8 zs) w.heap.size w ((Below.refl _ _).alloc (Nat.le_refl _) _) (Nat.le_refl _) ?_)
  intro w1 hg1 hb1
  have hown1 := own_filled (w := w1) (base := w.heap.size) (cs := cellsU8 zs) (by simpa [cellsU8] using hn.out) hg1.out (Nat.le_refl _) (by unfold maxLen; omega)
  clear hg1 hmk hs hB
  go_wp2_with fail
  go_loopw [1, 5] (fun a out wr => PutRel w 5 n zs v.toNat a out wr) (fun a _ _ => (intOf a).toNat)
  case atStart => exact ⟨v, 0, [], h0, hv, by omega, rfl, by simpa using hown1, hb1, by omega, by simp⟩
  case round =>
    obtain ⟨u, j, ds, hu0, hu1, hj, rfl, hown, hb, hl', hd'⟩ := hrel
    have hl := hide hl'
    have hd := hide hd'
    have hp := lenv_pos u.toNat
    have hj9 : j ≤ 9 := by omega
    have hbs : w.heap.size ≤ wr.heap.size := hb.size
    clear hl' hd' hp
    by_cases hlt : 128 ≤ u
    · have hor := or_128 u hu0
      go_wp2_with (at_builtin; refine wpList_append_own _ rfl (.tmp 19) (.tmp 23) 22 rfl w.heap.size 5 i0 (.int .u8 0) 1 1 Tryd.underlying22 hi hz0 hz1 hz2 rfl (by decide) _ (n + j) (cellsU8 (zs ++ ds)) rfl (hown.alloc _) ⟨wr.heap.size, 0, none⟩ 1 1 [.int .u8 (u % 128 + 128)] rfl rfl (one_new _ _ _) (one_byte _) (by unfold maxLen; omega) (by omega) (by simp; omega) ?_)
      intro v' w' hown' hg' _
      have hb' := below_append (hb.alloc hbs _) (hown.alloc _) (Nat.le_refl _) hg' (by simp; omega)
      have hR := PutRel.more hlt hu1 hj9 hown' hb' hl.out hd.out
      clear hown' hb' hor hown hb
      go_wp2
      go_roundw
      case rel => exact hR
      case measure => simp [intOf]; omega
    · have hor : u % 256 = u := by omega
      go_wp2_with (at_builtin; refine wpList_append_own _ rfl (.tmp 27) (.tmp 30) 22 rfl w.heap.size 5 i0 (.int .u8 0) 1 1 Tryd.underlying22 hi hz0 hz1 hz2 rfl (by decide) _ (n + j) (cellsU8 (zs ++ ds)) rfl (hown.alloc _) ⟨wr.heap.size, 0, none⟩ 1 1 [.int .u8 u] rfl rfl (one_new _ _ _) (one_byte _) (by unfold maxLen; omega) (by omega) (by simp; omega) ?_)
      intro v' w' hown' hg' _
      have hb' := below_append (hb.alloc hbs _) (hown.alloc _) (Nat.le_refl _) hg' (by simp; omega)
      have hF := PutRel.last (by omega) hown' hl.out hd.out
      clear hown' hor hown hb
      go_wp2
      go_ret
      exact ⟨_, rfl, hF, hb'⟩
end Go.Proofs.YtgcjckbndkddmaaDoor
end

section
/-
  Plain mathematics of reading a varint: 'scan' is what both readers compute; it inverts 'digsI', and what it accepts is 'digsI' of its value. No function of the program is named here.
-/
namespace Go.Proofs.YtgcjckbndkddmaaDoor
open Go.RowKit

/-- (the value, how many bytes, the error) of the varint at the head of the list, where i bytes of value v have been read. -/
def scan : List Int → Nat → Nat → Nat × Nat × Nat
  | [], _, _ => (0, 0, 1)
  | z :: r, i, v => if i = 9 ∧ 1 < z then (0, 0, 2) else if 128 ≤ z then scan r (i + 1) (v + (z.toNat - 128) * 128 ^ i) else if z = 0 ∧ 0 < i then (0, 0, 2) else (v + z.toNat * 128 ^ i, i + 1, 0)

theorem scan_fmt9 {z : Int} {r : List Int} {v : Nat} (h : 1 < z) : scan (z :: r) 9 v = (0, 0, 2) := by rw [scan, if_pos ⟨rfl, h⟩]
theorem scan_more {z : Int} {r : List Int} {i v : Nat} (hi : i < 9) (h : 128 ≤ z) : scan (z :: r) i v = scan r (i + 1) (v + (z.toNat - 128) * 128 ^ i) := by
  rw [scan, if_neg (by omega), if_pos h]
theorem scan_zero {r : List Int} {i v : Nat} (hi : 0 < i) : scan (0 :: r) i v = (0, 0, 2) := by
  rw [scan, if_neg (by omega), if_neg (by omega), if_pos ⟨rfl, hi⟩]
theorem scan_last {z : Int} {r : List Int} {i v : Nat} (h9 : i = 9 → z ≤ 1) (h : z < 128) (h0 : z = 0 → i = 0) : scan (z :: r) i v = (v + z.toNat * 128 ^ i, i + 1, 0) := by
  rw [scan, if_neg (by omega), if_neg (by omega), if_neg (by omega)]

theorem pow128 {i : Nat} (h : i ≤ 9) : 128 ^ i ≤ 9223372036854775808 := by
  have := Nat.pow_le_pow_right (n := 128) (by omega) h
  have e : 128 ^ 9 = 9223372036854775808 := by decide
  omega
theorem pow128_succ (i : Nat) : 128 ^ (i + 1) = 128 ^ i * 128 := Nat.pow_succ ..
theorem pow128_pos (i : Nat) : 0 < 128 ^ i := Nat.pow_pos (by omega)
theorem pow128_8 {i : Nat} (h : i ≤ 8) : 128 ^ i * 128 ≤ 9223372036854775808 := by rw [← pow128_succ]; exact pow128 (by omega)
theorem digit_lt {v d p : Nat} (hv : v < p) (hd : d ≤ 127) : v + d * p < p * 128 := by
  have : d * p ≤ 127 * p := Nat.mul_le_mul_right _ hd
  omega

theorem scan_le : ∀ (l : List Int) (i v : Nat), (∀ z ∈ l, 0 ≤ z ∧ z ≤ 255) → i ≤ 9 → v < 128 ^ i → (scan l i v).1 ≤ 18446744073709551615
  | [], _, _, _, _, _ => by simp [scan]
  | z :: r, i, v, hz, hi, hv => by
    have h := hz z List.mem_cons_self
    have hp := pow128 hi
    rw [scan]
    split
    · simp
    · split
      · rename_i h1 h2
        have h8 : i ≤ 8 := by omega
        exact scan_le r (i + 1) _ (fun y hy => hz y (List.mem_cons_of_mem _ hy)) (by omega) (by rw [pow128_succ]; exact digit_lt hv (by omega))
      · split
        · simp
        · rename_i h1 h2 h3
          show v + z.toNat * 128 ^ i ≤ _
          rcases Nat.lt_or_ge i 9 with h9 | h9
          · have := digit_lt (d := z.toNat) hv (by omega)
            have := pow128_8 (i := i) (by omega)
            omega
          · obtain rfl : i = 9 := by omega
            have hz1 : z.toNat ≤ 1 := by omega
            have : z.toNat * 128 ^ 9 ≤ 1 * 128 ^ 9 := Nat.mul_le_mul_right _ hz1
            omega

theorem scan_digs (u : Nat) : ∀ (i v : Nat) (rest : List Int), i ≤ 9 → u * 128 ^ i < 18446744073709551616 → (i = 0 ∨ 1 ≤ u) → scan (digsI u ++ rest) i v = (v + u * 128 ^ i, i + lenv u, 0) := by
  induction u using Nat.strongRecOn with
  | _ u ih =>
    intro i v rest hi hu h0
    have hu9 : i = 9 → u ≤ 1 := by
      rintro rfl
      have e : 128 ^ 9 = 9223372036854775808 := by decide
      omega
    rcases Nat.lt_or_ge u 128 with h | h
    · rw [digsI_small h, lenv_small h]
      show scan ((u : Int) :: rest) i v = _
      rw [scan_last (by omega) (by omega) (by omega)]
      rfl
    · rw [digsI_great h, lenv_great h]
      show scan (((u % 128 + 128 : Nat) : Int) :: (digsI (u / 128) ++ rest)) i v = _
      have h8 : i < 9 := by omega
      have hm : u / 128 * 128 ^ (i + 1) + u % 128 * 128 ^ i = u * 128 ^ i := by
        have e : u = u / 128 * 128 + u % 128 := by omega
        calc u / 128 * 128 ^ (i + 1) + u % 128 * 128 ^ i = (u / 128 * 128 + u % 128) * 128 ^ i := by
              rw [pow128_succ, Nat.add_mul, Nat.mul_assoc, Nat.mul_comm (128 ^ i) 128]
          _ = u * 128 ^ i := by rw [← e]
      rw [scan_more h8 (by omega), ih (u / 128) (by omega) (i + 1) _ rest (by omega) (by omega) (by omega)]
      rw [show ((u % 128 + 128 : Nat) : Int).toNat - 128 = u % 128 by omega]
      simp only [Prod.mk.injEq, and_true]
      exact ⟨by omega, by omega⟩

theorem scan_ok : ∀ (l : List Int) (i v x e : Nat), (∀ z ∈ l, 0 ≤ z ∧ z ≤ 255) → scan l i v = (x, e, 0) → ∃ u, x = v + u * 128 ^ i ∧ e = i + lenv u ∧ l.take (lenv u) = digsI u ∧ lenv u ≤ l.length ∧ (i = 0 ∨ 1 ≤ u)
  | [], _, _, _, _, _, h => by simp [scan] at h
  | z :: r, i, v, x, e, hz, h => by
    have hb := hz z List.mem_cons_self
    rw [scan] at h
    split at h
    · simp at h
    · split at h
      · rename_i h1 h2
        obtain ⟨u, hx, he, ht, hl, hu⟩ := scan_ok r (i + 1) _ x e (fun y hy => hz y (List.mem_cons_of_mem _ hy)) h
        have hu1 : 1 ≤ u := by omega
        have hd : (z.toNat - 128 + u * 128) / 128 = u := by omega
        have hq : (z.toNat - 128 + u * 128) % 128 = z.toNat - 128 := by omega
        refine ⟨z.toNat - 128 + u * 128, ?_, ?_, ?_, ?_, by omega⟩
        · rw [hx, Nat.add_mul, pow128_succ, Nat.mul_assoc u 128, Nat.mul_comm 128 (128 ^ i)]; omega
        · rw [lenv_great (by omega), hd]; omega
        · rw [lenv_great (by omega), digsI_great (by omega), hd, hq, List.take_succ_cons, ht, show ((z.toNat - 128 + 128 : Nat) : Int) = z by omega]
        · rw [lenv_great (by omega), hd]; simp; omega
      · split at h
        · simp at h
        · rename_i h1 h2 h3
          simp only [Prod.mk.injEq, and_true] at h
          refine ⟨z.toNat, by omega, ?_, ?_, ?_, by omega⟩
          · rw [lenv_small (by omega)]; omega
          · rw [lenv_small (by omega), digsI_small (by omega), show ((z.toNat : Nat) : Int) = z by omega]; simp
          · rw [lenv_small (by omega)]; simp

/-- What Uint returns. -/
def uintAt (zs : List Int) (a : Int) : Int × Int × Int :=
  if a < 0 ∨ (zs.length : Int) < a then (0, 0, 1)
  else if (scan (zs.drop a.toNat) 0 0).2.2 = 0 then ((scan (zs.drop a.toNat) 0 0).1, a + (scan (zs.drop a.toNat) 0 0).2.1, 0) else (0, 0, (scan (zs.drop a.toNat) 0 0).2.2)
def uintVal (r : Int × Int × Int) : Value := .tuple #[.int .u64 r.1, .int .i64 r.2.1, .int .i64 r.2.2]

theorem uintAt_out {zs : List Int} {a : Int} (h : a < 0 ∨ (zs.length : Int) < a) : uintAt zs a = (0, 0, 1) := by rw [uintAt, if_pos h]
theorem uintAt_err {zs : List Int} {a e : Nat} (h : a ≤ zs.length) (hs : scan (zs.drop a) 0 0 = (0, 0, e)) (he : e ≠ 0) : uintAt zs a = (0, 0, (e : Int)) := by
  rw [uintAt, if_neg (by omega), Int.toNat_natCast, hs]
  simp [he]
theorem uintAt_ok {zs : List Int} {a v e : Nat} (h : a ≤ zs.length) (hs : scan (zs.drop a) 0 0 = (v, e, 0)) : uintAt zs a = ((v : Int), (a : Int) + e, 0) := by
  rw [uintAt, if_neg (by omega), Int.toNat_natCast, hs]
  simp

theorem drop_head {zs : List Int} {k : Nat} {z : Int} (h : zs[k]? = some z) : zs.drop k = z :: zs.drop (k + 1) := by
  obtain ⟨hk, rfl⟩ := List.getElem?_eq_some_iff.1 h
  exact List.drop_eq_getElem_cons hk

/-- The digit d comes behind v. -/
theorem or_digit (v j : Nat) (d : Int) (hv : v < 128 ^ j) (h0 : 0 ≤ d) (hd : d ≤ 127) (hj : j ≤ 8) : bits BinOp.or IntKind.u64 (v : Int) (IntKind.u64.wrap (d * 2 ^ (j * 7))) = ((v + d.toNat * 128 ^ j : Nat) : Int) := by
  obtain ⟨k, rfl⟩ := Int.eq_ofNat_of_zero_le h0
  have e2 : 2 ^ (j * 7) = 128 ^ j := by rw [Nat.mul_comm, Nat.pow_mul]
  have e3 : ((k : Int) * 2 ^ (j * 7)) = ((k * 128 ^ j : Nat) : Int) := by rw [← e2]; simp
  have hlt := digit_lt (d := k) hv (by omega)
  have h8 := pow128_8 hj
  rw [e3, IntKind.wrap_u64, show (((k * 128 ^ j : Nat) : Int) % 18446744073709551616) = ((k * 128 ^ j : Nat) : Int) by omega, u64_or_nat _ _ (by omega) (by omega), Int.toNat_natCast]
  have := Nat.two_pow_add_eq_or_of_lt (i := j * 7) (b := v) (by rw [e2]; exact hv) k
  rw [e2] at this
  rw [Nat.or_comm, Nat.mul_comm k, ← this, Nat.add_comm]
/-- The tenth byte is 1. -/
theorem or_tenth (v : Nat) (hv : v < 9223372036854775808) : bits BinOp.or IntKind.u64 (v : Int) 9223372036854775808 = ((v + 9223372036854775808 : Nat) : Int) := by
  rw [show (9223372036854775808 : Int) = ((9223372036854775808 : Nat) : Int) from rfl, u64_or_nat _ _ (by omega) (by omega)]
  have := Nat.two_pow_add_eq_or_of_lt (i := 63) (b := v) (by simpa using hv) 1
  rw [show 2 ^ 63 * 1 = 9223372036854775808 by decide] at this
  rw [Nat.or_comm, ← this, Nat.add_comm]
end Go.Proofs.YtgcjckbndkddmaaDoor
end

section
/-
  The contract of varint.Uint: it returns what 'uintAt' says, for every offset, and leaves memory alone. Condition: at most 2^62 bytes.
-/
namespace Go.Proofs.YtgcjckbndkddmaaDoor
open Go.RowKit

def UintPost (zs : List Int) (a : Int) (w : World) (e : Ending) (w' : World) : Prop := e = .returned (uintVal (uintAt zs a)) ∧ w = w'

set_option maxRecDepth 100000 in
set_option maxHeartbeats 800000 in
theorem uint_out (A : Option Addr) (n c : Nat) (zs : List Int) (a : Int) (w : World) (hn : Hid (zs.length = n)) (hm : n ≤ 4611686018427387904) (h : a < 0 ∨ (n : Int) < a) :
    Calls Tryd.prog 99 #[.slice A n c, .int .i64 a] w (UintPost zs a w) := by
  have H := hide (uintAt_out (zs := zs) (a := a) (by have := hn.out; omega))
  rcases h with h | h
  · go_enter Tryd.func99, Tryd.ntmps99
    go_wp2
    go_ret3
    exact ⟨by rw [H.out]; rfl, rfl⟩
  · have h0 : ¬ a < 0 := by omega
    go_enter Tryd.func99, Tryd.ntmps99
    go_wp2
    go_ret3
    exact ⟨by rw [H.out]; rfl, rfl⟩

set_option maxRecDepth 100000 in
set_option maxHeartbeats 1600000 in
theorem uint_in (A : Option Addr) (n c : Nat) (zs : List Int) (a : Nat) (B : Nat) (w : World) (hA : Hid (A = none → c = 0)) (hn : Hid (zs.length = n)) (hm : n ≤ 4611686018427387904) (hnc : n ≤ c) (hs : Sees w B A (cellsU8 zs)) (hz : Hid (∀ z ∈ zs, 0 ≤ z ∧ z ≤ 255))
    (han : a ≤ n) :
    Calls Tryd.prog 99 #[.slice A n c, .int .i64 a] w (UintPost zs a w) := by
  by_cases hca : c = a
  · obtain rfl : a = n := by omega
    subst hca
    have H := hide (uintAt_err (zs := zs) (a := c) (e := 1) (by have := hn.out; omega) (by rw [List.drop_eq_nil_of_le (by have := hn.out; omega)]; rfl) (by decide))
    clear hA hs hz
    go_enter Tryd.func99, Tryd.ntmps99
    go_wp2
    go_loop [7, 22] (fun _ k => k = .int .i64 0) (fun _ _ => 0)
    case atStart => exact rfl
    case round =>
      subst hrel
      go_wp2
      go_ret3
      exact ⟨by rw [H.out]; rfl, rfl⟩
  · rcases A with _ | ad
    · exact absurd (hA.out rfl) (by omega)
    · clear hA
      go_enter Tryd.func99, Tryd.ntmps99
      go_wp2
      go_loop [4, 5, 6, 7, 22] (fun x y z a' k => ∃ (v : Nat) (j : Nat), v ≤ 9223372036854775807 ∧ j ≤ 9 ∧ j ≤ n - a ∧ x = .int .u64 0 ∧ y = .int .i64 0 ∧ z = .int .i64 0 ∧ a' = .int .u64 v ∧ k = .int .i64 j ∧ Hid (v < 128 ^ j) ∧ Hid (scan (zs.drop a) 0 0 = scan (zs.drop (a + j)) j v)) (fun _ _ _ _ k => n - (intOf k).toNat)
      case atStart => exact ⟨0, 0, by omega, by omega, by omega, rfl, rfl, rfl, rfl, rfl, by show _ < _; decide, rfl⟩
      case round =>
        obtain ⟨v, j, hv, hj, hjn, rfl, rfl, rfl, rfl, rfl, hvj, hsc⟩ := hrel
        by_cases hlt : j < n - a
        · obtain ⟨b, off, z, he, _, hc, z0, z1, hzk⟩ := byte_at (zs := zs) (k := a + j) hs (by have := hn.out; omega) hz.out
          injection he with he
          subst he
          have hc' : w.cell? ⟨b, off + a + j, none⟩ = some (.int .u8 z) := by rw [Nat.add_assoc]; exact hc
          have hd := hide (drop_head hzk.out)
          have hal := hide (show a ≤ zs.length by have := hn.out; omega)
          clear hs hc
          by_cases hj9 : j = 9
          · subst hj9
            by_cases hz1 : 1 < z
            · have H := hide (uintAt_err hal.out (by rw [hsc.out, hd.out]; exact scan_fmt9 hz1) (by decide))
              clear hsc
              go_wp2
              go_ret3
              exact ⟨by rw [H.out]; rfl, rfl⟩
            · by_cases hz0 : z = 0
              · subst hz0
                have H := hide (uintAt_err hal.out (by rw [hsc.out, hd.out]; exact scan_zero (by decide)) (by decide))
                clear hsc
                go_wp2
                go_ret3
                exact ⟨by rw [H.out]; rfl, rfl⟩
              · obtain rfl : z = 1 := by omega
                have H := hide (uintAt_ok hal.out (by rw [hsc.out, hd.out]; exact scan_last (by omega) (by omega) (by omega)))
                have ho := or_tenth v (by omega)
                clear hsc
                go_wp2
                go_ret3
                exact ⟨by rw [H.out]; rfl, rfl⟩
          · have hj8 : j ≤ 8 := by omega
            have hb9 : ((j : Int) == 9) = false := by rw [beq_eq_false_iff_ne]; omega
            by_cases hz128 : 128 ≤ z
            · have H := hide (show scan (zs.drop a) 0 0 = _ by rw [hsc.out, hd.out, scan_more (by omega) hz128])
              have ho := or_digit v j (z - 128) hvj.out (by omega) (by omega) hj8
              have hlt' := digit_lt (d := (z - 128).toNat) hvj.out (by omega)
              have h8 := pow128_8 hj8
              obtain ⟨v', hv'⟩ : ∃ v' : Nat, v' = v + (z - 128).toNat * 128 ^ j := ⟨_, rfl⟩
              rw [← hv'] at ho hlt'
              have hb' : v' ≤ 9223372036854775807 := by omega
              have hvj' := hide (show v' < 128 ^ (j + 1) by rw [pow128_succ]; exact hlt')
              rw [show z.toNat - 128 = (z - 128).toNat by omega, ← hv'] at H
              clear hsc hvj hlt' h8 hv'
              go_wp2
              go_round
              case rel => exact ⟨v', j + 1, hb', by omega, by omega, rfl, rfl, rfl, rfl, by go_num, hvj', H⟩
              case measure => simp [intOf]; omega
            · by_cases hzz : z = 0 ∧ 0 < j
              · obtain ⟨rfl, hj0⟩ := hzz
                have H := hide (uintAt_err hal.out (by rw [hsc.out, hd.out]; exact scan_zero hj0) (by decide))
                clear hsc hvj
                go_wp2
                go_ret3
                exact ⟨by rw [H.out]; rfl, rfl⟩
              · have H := hide (uintAt_ok hal.out (by rw [hsc.out, hd.out]; exact scan_last (by omega) (by omega) (by omega)))
                have ho := or_digit v j z hvj.out (by omega) (by omega) hj8
                obtain ⟨v', hv'⟩ : ∃ v' : Nat, v' = v + z.toNat * 128 ^ j := ⟨_, rfl⟩
                rw [← hv'] at ho H
                have hv0 : z = 0 → v' = v := by rintro rfl; simp [hv']
                have hvz := hide (show j = 0 → v < 1 by rintro rfl; exact hvj.out)
                clear hsc hvj hv'
                by_cases hz00 : z = 0
                · subst hz00
                  obtain rfl : j = 0 := by omega
                  obtain rfl : v = 0 := by have h := hvz.out; omega
                  obtain rfl := hv0 rfl
                  have ho2 : bits BinOp.or IntKind.u64 0 0 = 0 := by decide
                  rw [Nat.add_zero] at hc'
                  clear ho hv0
                  go_wp2
                  go_ret3
                  exact ⟨by rw [H.out]; rfl, rfl⟩
                · have hb0 : (z == 0) = false := by rw [beq_eq_false_iff_ne]; exact hz00
                  go_wp2
                  go_ret3
                  exact ⟨by rw [H.out]; rfl, rfl⟩
        · have H := hide (uintAt_err (zs := zs) (a := a) (e := 1) (by have := hn.out; omega) (by rw [hsc.out, List.drop_eq_nil_of_le (by have := hn.out; omega)]; rfl) (by decide))
          clear hs hsc
          go_wp2
          go_ret3
          exact ⟨by rw [H.out]; rfl, rfl⟩
end Go.Proofs.YtgcjckbndkddmaaDoor
end

section
/-
  The contract of the reference's Uint: it returns what 'uintAt' says, for every offset, and leaves memory alone. Condition: at most 2^62 bytes.
-/
namespace Go.Proofs.YtgcjckbndkddmaaDoor
open Go.RowKit

theorem and_127 (z : Int) (h0 : 0 ≤ z) (h1 : z ≤ 255) : bits BinOp.and IntKind.u8 z 127 = z % 128 := by
  obtain ⟨k, rfl⟩ := Int.eq_ofNat_of_zero_le h0
  rw [show (127 : Int) = ((127 : Nat) : Int) from rfl, u8_and_nat k 127 (by omega) (by omega), show k &&& 127 = k % 128 from Nat.and_two_pow_sub_one_eq_mod k 7]
  omega

set_option maxRecDepth 100000 in
set_option maxHeartbeats 800000 in
theorem refuint_out (A : Option Addr) (n c : Nat) (zs : List Int) (a : Int) (w : World) (hn : Hid (zs.length = n)) (hm : n ≤ 4611686018427387904) (h : a < 0 ∨ (n : Int) < a) :
    Calls Tryd.prog 108 #[.slice A n c, .int .i64 a] w (UintPost zs a w) := by
  have H := hide (uintAt_out (zs := zs) (a := a) (by have := hn.out; omega))
  rcases h with h | h
  · go_enter Tryd.func108, Tryd.ntmps108
    go_wp2
    go_ret3
    exact ⟨by rw [H.out]; rfl, rfl⟩
  · have h0 : ¬ a < 0 := by omega
    go_enter Tryd.func108, Tryd.ntmps108
    go_wp2
    go_ret3
    exact ⟨by rw [H.out]; rfl, rfl⟩

set_option maxRecDepth 100000 in
set_option maxHeartbeats 1600000 in
theorem refuint_in (A : Option Addr) (n c : Nat) (zs : List Int) (a : Nat) (B : Nat) (w : World) (hn : Hid (zs.length = n)) (hm : n ≤ 4611686018427387904) (hs : Sees w B A (cellsU8 zs)) (hz : Hid (∀ z ∈ zs, 0 ≤ z ∧ z ≤ 255))
    (han : a ≤ n) :
    Calls Tryd.prog 108 #[.slice A n c, .int .i64 a] w (UintPost zs a w) := by
  go_enter Tryd.func108, Tryd.ntmps108
  go_wp2
  go_loop [4, 5, 6, 7, 8] (fun x y z a' k => ∃ (v : Nat) (j : Nat), v ≤ 9223372036854775807 ∧ j ≤ 9 ∧ j ≤ n - a ∧ x = .int .u64 0 ∧ y = .int .i64 0 ∧ z = .int .i64 0 ∧ a' = .int .u64 v ∧ k = .int .i64 j ∧ Hid (v < 128 ^ j) ∧ Hid (scan (zs.drop a) 0 0 = scan (zs.drop (a + j)) j v)) (fun _ _ _ _ k => 10 - (intOf k).toNat)
  case atStart => exact ⟨0, 0, by omega, by omega, by omega, rfl, rfl, rfl, rfl, rfl, by show _ < _; decide, rfl⟩
  case round =>
    obtain ⟨v, j, hv, hj, hjn, rfl, rfl, rfl, rfl, rfl, hvj, hsc⟩ := hrel
    by_cases hlt : j < n - a
    · obtain ⟨b, off, z, he, _, hc, z0, z1, hzk⟩ := byte_at (zs := zs) (k := a + j) hs (by have := hn.out; omega) hz.out
      subst he
      have hd := hide (drop_head hzk.out)
      have hal := hide (show a ≤ zs.length by have := hn.out; omega)
      have han127 := and_127 z z0 z1
      clear hs
      by_cases hj9 : j = 9
      · subst hj9
        by_cases hz1 : 1 < z
        · have H := hide (uintAt_err hal.out (by rw [hsc.out, hd.out]; exact scan_fmt9 hz1) (by decide))
          clear hsc han127
          go_wp2
          go_ret3
          exact ⟨by rw [H.out]; rfl, rfl⟩
        · by_cases hz0 : z = 0
          · subst hz0
            have H := hide (uintAt_err hal.out (by rw [hsc.out, hd.out]; exact scan_zero (by decide)) (by decide))
            clear hsc
            go_wp2
            go_ret3
            exact ⟨by rw [H.out]; rfl, rfl⟩
          · obtain rfl : z = 1 := by omega
            have H := hide (uintAt_ok hal.out (by rw [hsc.out, hd.out]; exact scan_last (by omega) (by omega) (by omega)))
            have ho := or_tenth v (by omega)
            clear hsc
            go_wp2
            go_ret3
            exact ⟨by rw [H.out]; rfl, rfl⟩
      · have hj8 : j ≤ 8 := by omega
        have hb9 : ((j : Int) == 9) = false := by rw [beq_eq_false_iff_ne]; omega
        by_cases hz128 : 128 ≤ z
        · have H := hide (show scan (zs.drop a) 0 0 = _ by rw [hsc.out, hd.out, scan_more (by omega) hz128])
          have ho := or_digit v j (z - 128) hvj.out (by omega) (by omega) hj8
          rw [Nat.mul_comm j 7] at ho
          have hlt' := digit_lt (d := (z - 128).toNat) hvj.out (by omega)
          have h8 := pow128_8 hj8
          obtain ⟨v', hv'⟩ : ∃ v' : Nat, v' = v + (z - 128).toNat * 128 ^ j := ⟨_, rfl⟩
          rw [← hv'] at ho hlt'
          have hb' : v' ≤ 9223372036854775807 := by omega
          have hvj' := hide (show v' < 128 ^ (j + 1) by rw [pow128_succ]; exact hlt')
          rw [show z.toNat - 128 = (z - 128).toNat by omega, ← hv'] at H
          rw [show z % 128 = z - 128 by omega] at han127
          clear hsc hvj hlt' h8 hv'
          go_wp2
          go_round
          case rel => exact ⟨v', j + 1, hb', by omega, by omega, rfl, rfl, rfl, rfl, by go_num, hvj', H⟩
          case measure => simp [intOf]; omega
        · rw [show z % 128 = z by omega] at han127
          by_cases hzz : z = 0 ∧ 0 < j
          · obtain ⟨rfl, hj0⟩ := hzz
            have H := hide (uintAt_err hal.out (by rw [hsc.out, hd.out]; exact scan_zero hj0) (by decide))
            clear hsc hvj
            go_wp2
            go_ret3
            exact ⟨by rw [H.out]; rfl, rfl⟩
          · have H := hide (uintAt_ok hal.out (by rw [hsc.out, hd.out]; exact scan_last (by omega) (by omega) (by omega)))
            have ho := or_digit v j z hvj.out (by omega) (by omega) hj8
            rw [Nat.mul_comm j 7] at ho
            obtain ⟨v', hv'⟩ : ∃ v' : Nat, v' = v + z.toNat * 128 ^ j := ⟨_, rfl⟩
            rw [← hv'] at ho H
            have hv0 : z = 0 → v' = v := by rintro rfl; simp [hv']
            have hvz := hide (show j = 0 → v < 1 by rintro rfl; exact hvj.out)
            clear hsc hvj hv'
            by_cases hz00 : z = 0
            · subst hz00
              obtain rfl : j = 0 := by omega
              obtain rfl : v = 0 := by have h := hvz.out; omega
              obtain rfl := hv0 rfl
              have ho2 : bits BinOp.or IntKind.u64 0 0 = 0 := by decide
              rw [Nat.add_zero] at hc
              clear ho hv0
              go_wp2
              go_ret3
              exact ⟨by rw [H.out]; rfl, rfl⟩
            · have hb0 : (z == 0) = false := by rw [beq_eq_false_iff_ne]; exact hz00
              clear hv0
              go_wp2
              all_goals (go_ret3; exact ⟨by rw [H.out]; rfl, rfl⟩)
    · have H := hide (uintAt_err (zs := zs) (a := a) (e := 1) (by have := hn.out; omega) (by rw [hsc.out, List.drop_eq_nil_of_le (by have := hn.out; omega)]; rfl) (by decide))
      clear hs hsc
      go_wp2
      go_ret3
      exact ⟨by rw [H.out]; rfl, rfl⟩
end Go.Proofs.YtgcjckbndkddmaaDoor
end

section
/-
  The contract of the reference's PutUint: the bytes given, then the digits. Conditions: at most 2^40 bytes come in; v is a uint64.
-/
namespace Go.Proofs.YtgcjckbndkddmaaDoor
open Go.RowKit

set_option maxRecDepth 100000 in
set_option maxHeartbeats 800000 in
theorem refput_any (A : Option Addr) (n c : Nat) (zs : List Int) (v : Int) (B : Nat) (w : World) (hA : Hid (A = none → c = 0)) (hn : Hid (zs.length = n)) (hm : n ≤ 1099511627776) (hs : Sees w B A (cellsU8 zs)) (h0 : 0 ≤ v) (hv : v ≤ 18446744073709551615) :
    Calls Tryd.prog 34 #[.slice A n c, .int .u64 v] w fun e w' => ∃ r, e = .returned r ∧ w'.ownsRow w.heap.size 5 1 r (n + lenv v.toNat) (cellsU8 (zs ++ digsI v.toNat)) ∧ Below w.heap.size w w' := by
  obtain ⟨i0, hi, hz0, hz1, hz2⟩ := info_parts Tryd.info5
  have hl10 := lenv_le v.toNat (by omega)
  go_enter Tryd.func34, Tryd.ntmps34
  go_wp2_with (at_builtin; refine wpList_append_sees rfl (.const (.slice none 0 0)) (.tmp 6) 22 rfl w.heap.size 5 i0 (.int .u8 0) 1 Tryd.underlying22 hi hz0 hz1 hz2 rfl _ 0 [] rfl (World.ownsRow_nil _ _ _ _) B A n c (cellsU8 zs) rfl hA (by simpa [cellsU8] using hn.out) hs (one_u8 zs) (by unfold maxLen; omega) (by omega) (Nat.le_refl _) ?_)
  intro out1 w1 hown1 hg1
  have hb1 : Below w.heap.size w w1 := below_append (Below.refl _ _) (World.ownsRow_nil w w.heap.size 5 1) (Nat.le_refl _) hg1 (Nat.le_refl _)
  clear hg1 hs hA
  go_wp2_with fail
  go_loopw [1, 5] (fun a out wr => PutRel w 5 n zs v.toNat a out wr) (fun a _ _ => (intOf a).toNat)
  case atStart => exact ⟨v, 0, [], h0, hv, by omega, rfl, by simpa using hown1, hb1, by omega, by simp⟩
  case round =>
    obtain ⟨u, j, ds, hu0, hu1, hj, rfl, hown, hb, hl', hd'⟩ := hrel
    have hl := hide hl'
    have hd := hide hd'
    have hp := lenv_pos u.toNat
    have hj9 : j ≤ 9 := by omega
    have hbs : w.heap.size ≤ wr.heap.size := hb.size
    clear hl' hd' hp
    by_cases hlt : 128 ≤ u
    · have hor := or_128 u hu0
      go_wp2_with (at_builtin; refine wpList_append_own _ rfl (.tmp 10) (.tmp 14) 22 rfl w.heap.size 5 i0 (.int .u8 0) 1 1 Tryd.underlying22 hi hz0 hz1 hz2 rfl (by decide) _ (n + j) (cellsU8 (zs ++ ds)) rfl (hown.alloc _) ⟨wr.heap.size, 0, none⟩ 1 1 [.int .u8 (u % 128 + 128)] rfl rfl (one_new _ _ _) (one_byte _) (by unfold maxLen; omega) (by omega) (by simp; omega) ?_)
      intro v' w' hown' hg' _
      have hb' := below_append (hb.alloc hbs _) (hown.alloc _) (Nat.le_refl _) hg' (by simp; omega)
      have hR := PutRel.more hlt hu1 hj9 hown' hb' hl.out hd.out
      clear hown' hb' hor hown hb
      go_wp2
      go_roundw
      case rel => exact hR
      case measure => simp [intOf]; omega
    · have hor : u % 256 = u := by omega
      go_wp2_with (at_builtin; refine wpList_append_own _ rfl (.tmp 18) (.tmp 21) 22 rfl w.heap.size 5 i0 (.int .u8 0) 1 1 Tryd.underlying22 hi hz0 hz1 hz2 rfl (by decide) _ (n + j) (cellsU8 (zs ++ ds)) rfl (hown.alloc _) ⟨wr.heap.size, 0, none⟩ 1 1 [.int .u8 u] rfl rfl (one_new _ _ _) (one_byte _) (by unfold maxLen; omega) (by omega) (by simp; omega) ?_)
      intro v' w' hown' hg' _
      have hb' := below_append (hb.alloc hbs _) (hown.alloc _) (Nat.le_refl _) hg' (by simp; omega)
      have hF := PutRel.last (by omega) hown' hl.out hd.out
      clear hown' hor hown hb
      go_wp2
      go_ret
      exact ⟨_, rfl, hF, hb'⟩
end Go.Proofs.YtgcjckbndkddmaaDoor
end

section
/-
  The contracts of varint.Crc and of the reference's Crc.
-/
namespace Go.Proofs.YtgcjckbndkddmaaDoor
open Go.RowKit

theorem crc_bit_go (n : Nat) (h : n ≤ 4294967295) : bits BinOp.xor IntKind.u32 ((n : Int) / 2) (bits BinOp.and IntKind.u32 (n : Int) 1 * 3988292384 % 4294967296) = (crcBit n : Nat) := by
  have ha : bits BinOp.and IntKind.u32 (n : Int) 1 = ((n % 2 : Nat) : Int) := by
    rw [show (1 : Int) = ((1 : Nat) : Int) from rfl, u32_and_nat n 1 (by omega) (by omega), Nat.and_one_is_mod]
  rw [ha, show (n : Int) / 2 = ((n / 2 : Nat) : Int) by omega, show (((n % 2 : Nat) : Int) * 3988292384 % 4294967296) = (((n % 2) * 3988292384 : Nat) : Int) by omega, u32_xor_nat _ _ (by omega) (by omega)]
  rfl
theorem xor_u32 (s : Nat) (z : Int) (hs : s ≤ 4294967295) (h0 : 0 ≤ z) (h1 : z ≤ 255) : bits BinOp.xor IntKind.u32 (s : Int) z = ((s ^^^ z.toNat : Nat) : Int) := by
  obtain ⟨k, rfl⟩ := Int.eq_ofNat_of_zero_le h0
  rw [u32_xor_nat _ _ (by omega) (by omega)]
  rfl
theorem not_u32 (s : Nat) (hs : s ≤ 4294967295) : bits BinOp.xor IntKind.u32 IntKind.u32.max (s : Int) = ((4294967295 - s : Nat) : Int) := by
  show IntKind.u32.wrap ((BitVec.ofInt 32 IntKind.u32.max ^^^ BitVec.ofInt 32 (s : Int)).toNat : Int) = _
  have e : BitVec.ofInt 32 IntKind.u32.max = BitVec.allOnes 32 := by decide
  rw [e, BitVec.allOnes_xor, BitVec.toNat_not, ofInt_u32 s (by omega), IntKind.wrap_u32']
  omega

set_option maxRecDepth 100000 in
set_option maxHeartbeats 400000 in
theorem shift_any (c : Int) (w : World) (h0 : 0 ≤ c) (h1 : c ≤ 4294967295) :
    Calls Tryd.prog 80 #[.int .u32 c] w fun e w' => e = .returned (.int .u32 (crcBits 8 c.toNat)) ∧ w = w' := by
  go_enter Tryd.func80, Tryd.ntmps80
  go_wp2
  go_loop [0, 3] (fun a k => ∃ (n : Nat) (j : Nat), n ≤ 4294967295 ∧ j ≤ 8 ∧ a = .int .u32 n ∧ k = .int .i64 j ∧ Hid (n = crcBits j c.toNat)) (fun _ k => 8 - (intOf k).toNat)
  case atStart => exact ⟨c.toNat, 0, by omega, by omega, by rw [Int.toNat_of_nonneg h0], rfl, rfl⟩
  case round =>
    obtain ⟨n, j, hn, hj, rfl, rfl, hr⟩ := hrel
    by_cases hlt : j < 8
    · go_wp2
      go_round
      case rel =>
        have hb := crcBit_lt (c := n) (by omega)
        exact ⟨crcBit n, j + 1, by omega, by omega, by rw [crc_bit_go n hn], by go_num, by have := hr.out; subst this; rfl⟩
      case measure => simp [intOf]; omega
    · go_wp2
      go_ret
      obtain rfl : j = 8 := by omega
      exact ⟨ret_int (by have h := hr.out; omega), rfl⟩

set_option maxRecDepth 100000 in
set_option maxHeartbeats 400000 in
theorem crc_any (A : Option Addr) (n c : Nat) (zs : List Int) (B : Nat) (w : World) (hn : Hid (zs.length = n)) (hm : n ≤ 4611686018427387904) (hs : Sees w B A (cellsU8 zs)) (hz : Hid (∀ z ∈ zs, 0 ≤ z ∧ z ≤ 255)) :
    Calls Tryd.prog 52 #[.slice A n c] w fun e w' => e = .returned (.int .u32 ((4294967295 - crcAll 4294967295 zs : Nat) : Int)) ∧ w = w' := by
  go_enter Tryd.func52, Tryd.ntmps52
  go_wp2
  go_loop [3, 8] (fun a k => ∃ (s : Nat) (j : Nat), s ≤ 4294967295 ∧ j ≤ n ∧ a = .int .u32 s ∧ k = .int .i64 j ∧ Hid (s = crcAll 4294967295 (zs.take j))) (fun _ k => n - (intOf k).toNat)
  case atStart => exact ⟨4294967295, 0, by omega, by omega, rfl, rfl, rfl⟩
  case round =>
    obtain ⟨s, j, hs', hj, rfl, rfl, hr⟩ := hrel
    by_cases hlt : j < n
    · obtain ⟨b, off, z, rfl, _, hc, z0, z1, hzk⟩ := byte_at (zs := zs) (k := j) hs (by have := hn.out; omega) hz.out
      have hx := xor_lt32 (s := s) (n := z.toNat) (by omega) (by omega)
      clear hs
      go_wp2_with fail
      rw [xor_u32 s z hs' z0 z1]
      refine (shift_any _ _ (by omega) (by omega)).mono ?_
      rintro e w' ⟨rfl, rfl⟩
      have hb := crcBits_lt (c := s ^^^ z.toNat) (by omega) 8
      have hR := hide (show crcBits 8 (s ^^^ z.toNat) = crcAll 4294967295 (zs.take (j + 1)) by rw [take_more hzk.out, crcAll_snoc, ← hr.out]; rfl)
      clear hr
      go_wp2
      go_round
      case rel => exact ⟨_, j + 1, by omega, by omega, rfl, by go_num, hR⟩
      case measure => simp [intOf]; omega
    · clear hs
      go_wp2
      all_goals first
        | (exfalso; revert ‹IntKind.u32.signed = true›; decide)
        | (go_ret
           obtain rfl : j = n := by omega
           have := hr.out
           rw [List.take_of_length_le (by have := hn.out; omega)] at this
           exact ⟨ret_int (by rw [not_u32 s hs', this]), rfl⟩)

set_option maxRecDepth 100000 in
set_option maxHeartbeats 800000 in
theorem refcrc_any (A : Option Addr) (n c : Nat) (zs : List Int) (B : Nat) (w : World) (hn : Hid (zs.length = n)) (hm : n ≤ 4611686018427387904) (hs : Sees w B A (cellsU8 zs)) (hz : Hid (∀ z ∈ zs, 0 ≤ z ∧ z ≤ 255)) :
    Calls Tryd.prog 57 #[.slice A n c] w fun e w' => e = .returned (.int .u32 ((4294967295 - crcAll 4294967295 zs : Nat) : Int)) ∧ w = w' := by
  go_enter Tryd.func57, Tryd.ntmps57
  go_wp2
  go_loop [3, 4] (fun a k => ∃ (s : Nat) (j : Nat), s ≤ 4294967295 ∧ j ≤ n ∧ a = .int .u32 s ∧ k = .int .i64 j ∧ Hid (s = crcAll 4294967295 (zs.take j))) (fun _ k => n - (intOf k).toNat)
  case atStart => exact ⟨4294967295, 0, by omega, by omega, rfl, rfl, rfl⟩
  case round =>
    obtain ⟨s, j, hs', hj, rfl, rfl, hr⟩ := hrel
    by_cases hlt : j < n
    · obtain ⟨b, off, z, rfl, _, hc, z0, z1, hzk⟩ := byte_at (zs := zs) (k := j) hs (by have := hn.out; omega) hz.out
      have hx := xor_lt32 (s := s) (n := z.toNat) (by omega) (by omega)
      have hxor := xor_u32 s z hs' z0 z1
      clear hs
      go_wp2
      obtain ⟨x, hx'⟩ : ∃ x, x = s ^^^ z.toNat := ⟨_, rfl⟩
      rw [← hx'] at hx ⊢
      have Hx := hide hx'
      have hb0 := hide (crcBits_lt (c := x) hx 8)
      clear hx' hxor
      go_loop [3, 5] (fun a k => ∃ (m : Nat) (i : Nat), m ≤ 4294967295 ∧ i ≤ 8 ∧ a = .int .u32 m ∧ k = .int .i64 i ∧ Hid (m = crcBits i x)) (fun _ k => 8 - (intOf k).toNat)
      case atStart => exact ⟨x, 0, by omega, by omega, rfl, rfl, rfl⟩
      case round =>
        obtain ⟨m, i, hm', hi, rfl, rfl, hri⟩ := hrel
        have hand : bits BinOp.and IntKind.u32 (m : Int) 1 = ((m % 2 : Nat) : Int) := by
          rw [show (1 : Int) = ((1 : Nat) : Int) from rfl, u32_and_nat m 1 (by omega) (by omega), Nat.and_one_is_mod]
        have Hand := hide hand
        clear hand
        by_cases hi8 : i < 8
        · have hb := crcBit_lt (c := m) (by omega)
          have hR := hide (show crcBit m = crcBits (i + 1) x by have h := hri.out; subst h; rfl)
          by_cases hodd : m % 2 = 1
          · have ht : (bits BinOp.and IntKind.u32 (m : Int) 1 == 1) = true := by rw [Hand.out, hodd]; rfl
            have ho : bits BinOp.xor IntKind.u32 ((m : Int) / 2) 3988292384 = ((crcBit m : Nat) : Int) := by
              rw [show (3988292384 : Int) = ((3988292384 : Nat) : Int) from rfl, show (m : Int) / 2 = ((m / 2 : Nat) : Int) by omega, u32_xor_nat _ _ (by omega) (by omega), crcBit_odd hodd]
            clear hodd
            go_wp2
            go_round
            case rel => exact ⟨crcBit m, i + 1, by omega, by omega, rfl, by go_num, hR⟩
            case measure => simp [intOf]; omega
          · have ht : (bits BinOp.and IntKind.u32 (m : Int) 1 == 1) = false := by rw [Hand.out]; simp; omega
            have hev := hide (crcBit_even (c := m) (by omega))
            clear hodd
            go_wp2
            go_round
            case rel => exact ⟨crcBit m, i + 1, by omega, by omega, by rw [hev.out]; simp, by go_num, hR⟩
            case measure => simp [intOf]; omega
        · obtain rfl : i = 8 := by omega
          have hR := hide (show m = crcAll 4294967295 (zs.take (j + 1)) by rw [take_more hzk.out, crcAll_snoc, ← hr.out, hri.out, Hx.out]; rfl)
          go_wp2
          go_round
          case rel => exact ⟨m, j + 1, by omega, by omega, rfl, by go_num, hR⟩
          case measure => simp [intOf]; omega
    · clear hs
      go_wp2
      all_goals first
        | (exfalso; revert ‹IntKind.u32.signed = true›; decide)
        | (go_ret
           obtain rfl : j = n := by omega
           have := hr.out
           rw [List.take_of_length_le (by have := hn.out; omega)] at this
           exact ⟨ret_int (by rw [not_u32 s hs', this]), rfl⟩)
end Go.Proofs.YtgcjckbndkddmaaDoor
end
