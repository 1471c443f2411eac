import Derived.Test.YtafegghdhdgioabGreatMEadd
import Derived.Test.YtafegghdhdgioabGreatMEmath
import Derived.Test.YtafegghdhdgioabGreatMInv
import Derived.Test.YtafegghdhdgioabGreatMKit
import Derived.Deep.DeepCutAuto
import Derived.RegionTactic
import Derived.ChangeAlike
set_option linter.unusedVariables false
set_option linter.unusedSimpArgs false
section
/-
  The contracts of stack.used and fits, and of the reference's used and right. Conditions: those of the types; the stack is one for which Check is true.
-/
namespace Go.Proofs.YtafegghdhdgioabGreat
open Go.RowKit
attribute [local go_sem ↓] Go.wp_at_zero Go.wp_at_succ

section
variable {A1 A2 : Option Addr} {c1 c2 : Nat} {S : Sk}
theorem StkAt.place {w : World} {B : Nat} (h : StkAt w B A1 c1 A2 c2 S) (h1 : 1 ≤ S.bs.length) : (∃ b off, A1 = some ⟨b, off, none⟩ ∧ b < B) ∧ ∃ b off, A2 = some ⟨b, off, none⟩ ∧ b < B := by
  have hl := h.ok.len
  obtain ⟨b, off, e, hb, _⟩ := h.s1 0 (.int .u8 (S.bs.getD 0 0)) (get_u8 (by omega))
  obtain ⟨b', off', e', hb', _⟩ := h.s2 0 (.bool S.us[0]) (cellsB_at (List.getElem?_eq_getElem (by omega)))
  exact ⟨⟨b, off, e, hb⟩, b', off', e', hb'⟩
set_option maxHeartbeats 1000000 in
theorem used_any (a n : Nat) (w : World) (hS : Hid (StkAt w w.heap.size A1 c1 A2 c2 S)) (h1 : 1 ≤ n) (ha : a + n ≤ S.bs.length) :
    Calls Tryz.prog 129 #[sv A1 c1 A2 c2 S, .int .i64 (a : Int), .int .i64 (n : Int)] w fun e w' => e = .returned (.bool (usedB S a n)) ∧ Below w.heap.size w w' := by
  have hmost := hS.out.ok.most
  have hm2 := hS.out.m2
  have hl := hS.out.ok.len
  have f1 := (Row.new w 68 [.slice A1 S.bs.length c1, .slice A2 S.bs.length c2, .int .i64 (S.sp : Int)]).cell (k := 1) rfl
  obtain ⟨_, b, off, rfl, hb⟩ := hS.out.place (by omega)
  have cc := contains_any (some ⟨b, off + a, none⟩) n (c2 - a) ((S.us.drop a).take n) w.heap.size (w.alloc (.cells #[.slice A1 S.bs.length c1, .slice (some ⟨b, off, none⟩) S.bs.length c2, .int .i64 (S.sp : Int)] 68)) (hide (by simp; omega)) (by omega) (hide (by
    have h2 := (hS.out.below (below1 w (.cells #[.slice A1 S.bs.length c1, .slice (some ⟨b, off, none⟩) S.bs.length c2, .int .i64 (S.sp : Int)] 68))).cutB a n
    rwa [Option.map_some, WideShapes.add_plain] at h2))
  obtain ⟨u, hu⟩ : ∃ u, usedB S a n = u := ⟨_, rfl⟩
  rw [show ((S.us.drop a).take n).all id = u from hu] at cc
  rw [hu]
  clear hu hl hS
  go_enter Tryz.func129, Tryz.ntmps129
  go_wp2_with fail
  refine cc.mono ?_
  rintro e w' ⟨rfl, rfl⟩
  go_wp2_with fail
  go_ret
  exact ⟨ret_bool (by cases u <;> rfl), below1 _ _⟩
set_option maxHeartbeats 1000000 in
theorem fits_any (off n : Int) (w : World) (hS : Hid S.Ok) :
    Calls Tryz.prog 128 #[sv A1 c1 A2 c2 S, .int .i64 off, .int .i64 n] w fun e w' => e = .returned (.bool (fitB S off n)) ∧ Below w.heap.size w w' := by
  have hmost := hS.out.most
  have hsp := hS.out.sp
  have ck := fun w => check_stk A1 S.bs.length c1 A2 S.bs.length c2 (S.sp : Int) w (by omega) (by omega)
  rw [ckB_ok hS.out] at ck
  have R := hide (Row.new w 68 [.slice A1 S.bs.length c1, .slice A2 S.bs.length c2, .int .i64 (S.sp : Int)])
  obtain ⟨W1, hW1⟩ : ∃ W1, w.alloc (.cells #[.slice A1 S.bs.length c1, .slice A2 S.bs.length c2, .int .i64 (S.sp : Int)] 68) = W1 := ⟨_, rfl⟩
  have HW1 := hide hW1
  have R1 := hide (show Row W1 w.heap.size 68 [.slice A1 S.bs.length c1, .slice A2 S.bs.length c2, .int .i64 (S.sp : Int)] by rw [← hW1]; exact R.out)
  have B1 := hide (show Below w.heap.size w W1 by rw [← hW1]; exact below1 w _)
  clear hW1 R
  have f0 := R1.out.cell (k := 0) rfl
  have f1 := R1.out.cell (k := 1) rfl
  have f2 := R1.out.cell (k := 2) rfl
  cases hz : szB n with
  | false =>
    have hr := hide (show fitB S off n = false by simp [fitB, hz])
    have cz := vsz_any n
    rw [hz] at cz
    clear hz
    go_enter Tryz.func128, Tryz.ntmps128
    go_upto_region 1 with (fail)
    rw [HW1.out]
    go_wp2_with fail
    refine (ck _).mono ?_
    rintro e w2 ⟨rfl, hb2⟩
    go_wp2_with fail
    refine (cz _).mono ?_
    rintro e w3 ⟨rfl, rfl⟩
    go_wp2_with fail
    go_ret
    exact ⟨ret_bool hr.out.symm, B1.out.trans (hb2.mono B1.out.size)⟩
  | true =>
    have hn := of_decide_eq_true (show decide (n = 1 ∨ n = 2 ∨ n = 4 ∨ n = 8 ∨ n = 16) = true from hz)
    have hr := hide (show insB off n ((S.bs.length : Int) - S.sp) = fitB S off n by
      rw [Bool.eq_iff_iff, fitB_iff]
      unfold insB
      rw [Bool.and_eq_true, rightB_iff, decide_eq_true_eq]
      constructor
      · rintro ⟨⟨h1, h2, h3⟩, h4⟩; exact ⟨hz, h1, h4⟩
      · rintro ⟨_, h1, h4⟩; exact ⟨⟨h1, by omega, by omega⟩, h4⟩)
    have cz := vsz_any n
    rw [hz] at cz
    have ci := inside_any off n ((S.bs.length : Int) - S.sp)
    rw [hr.out] at ci
    clear hz hn hr
    go_enter Tryz.func128, Tryz.ntmps128
    go_upto_region 1 with (fail)
    rw [HW1.out]
    go_wp2_with fail
    refine (ck _).mono ?_
    rintro e w2 ⟨rfl, hb2⟩
    have g0 := keep_cellB hb2 f0
    have g1 := keep_cellB hb2 f1
    have g2 := keep_cellB hb2 f2
    go_wp2_with fail
    refine (cz _).mono ?_
    rintro e w3 ⟨rfl, rfl⟩
    go_wp2_with fail
    refine (ci _).mono ?_
    rintro e w3 ⟨rfl, hb3⟩
    go_wp2_with fail
    go_ret
    exact ⟨ret_bool (by simp), (B1.out.trans (hb2.mono B1.out.size)).trans (hb3.mono (by have := B1.out.size; have := hb2.size; omega))⟩
end
end Go.Proofs.YtafegghdhdgioabGreat
end

section
/-
  The contract of value.Bytes: the lowest bytes of a value, or none. Conditions: those of the types.
-/
namespace Go.Proofs.YtafegghdhdgioabGreat
open Go.RowKit

theorem Tryz.binfo5 : (Tryz.prog.info? 5).map (fun i => (i.zero, i.size, i.bytes)) = some (some (.int .u8 0), 1, 1) := by kernel_rfl

/-- k zero bytes, behind a name. -/
def zerosB (k : Nat) : List Value := List.replicate k (.int .u8 0)
theorem make_full {P : Program} {t e : TypeId} {i : TypeInfo} (ht : P.underlying t = some (.slice e)) (hi : P.info? e = some i) (hz : i.zero = some (.int .u8 0)) (hs : i.size = 1) (hb : i.bytes = 1)
    (n : Nat) (hm : n ≤ 140737488355328) (W : World) :
    (Instr.makeSlice t (.int .i64 (n : Int)) (.int .i64 (n : Int))).run P W = .ok (.slice (some ⟨W.heap.size, 0, none⟩) n n) (W.alloc (.cells (zerosB n).toArray e)) := by
  have h := run_make W t e i _ ht hi hz .i64 .i64 (n : Int) (n : Int) (by omega) (by omega) (by rw [hb]; omega) (by omega)
  rw [h, show ((n : Int)).toNat = n by omega, hs, Nat.mul_one]
  rw [show (Value.int IntKind.u8 0).cells = #[Value.int IntKind.u8 0] from rfl, madeCells_list]
  rfl

/-- The bytes so far, zeros behind them. -/
def partB (X m k : Nat) : List Int := bytesV X k ++ List.replicate (m - k) 0
theorem partB_get (X m k : Nat) (hk : k < m) : (cellsU8 (partB X m k))[k]? = some (.int .u8 0) := by
  unfold partB cellsU8
  rw [List.map_append, List.getElem?_append_right (by simp [bytesV_length]), List.length_map, bytesV_length, Nat.sub_self]
  obtain ⟨j, hj⟩ : ∃ j, m - k = j + 1 := ⟨m - k - 1, by omega⟩
  rw [hj, List.replicate_succ]
  rfl
theorem partB_set (X m k : Nat) (hk : k < m) : (cellsU8 (partB X m k)).set k (.int .u8 (byteOf X k)) = cellsU8 (partB X m (k + 1)) := by
  unfold partB cellsU8
  obtain ⟨j, hj⟩ : ∃ j, m - k = j + 1 := ⟨m - k - 1, by omega⟩
  rw [List.map_append, List.set_append_right _ _ (by simp [bytesV_length]), List.length_map, bytesV_length, Nat.sub_self, hj, List.replicate_succ, show m - (k + 1) = j by omega]
  simp [bytesV]
theorem partB_zero (X m : Nat) : cellsU8 (partB X m 0) = zerosB m := by simp [partB, bytesV, cellsU8, zerosB]
theorem partB_all (X m : Nat) : partB X m m = bytesV X m := by simp [partB]

/-- What a call of Bytes gives. -/
def BytesPost (X m : Nat) (w : World) (e : Ending) (w' : World) : Prop :=
  ∃ r, e = .returned r ∧ w'.ownsRow w.heap.size 5 1 r m (cellsU8 (bytesV X m)) ∧ Below w.heap.size w w'

/-- What holds at the head of the loop. -/
def BRel (w0 : World) (gx gs X m : Nat) (i : Value) (wr : World) : Prop :=
  ∃ k : Nat, k ≤ m ∧ i = .int .i64 k ∧ Box wr gx X ∧ wr.ownsRow w0.heap.size 5 1 (.slice (some ⟨gs, 0, none⟩) m m) m (cellsU8 (partB X m k)) ∧ Below w0.heap.size w0 wr

set_option maxRecDepth 100000 in
set_option maxHeartbeats 1000000 in
theorem bytes_yes (X m : Nat) (w : World) (hX : X < two128) (hm : m ≤ 16) (hs : szB (m : Int) = true) :
    Calls Tryz.prog 132 #[vv X, .int .i64 m] w (BytesPost X m w) := by
  obtain ⟨i0, hi0, hz0, hz1, hz2⟩ := info_parts Tryz.binfo5
  have hmk := make_full (P := Tryz.prog) Tryz.underlying22 hi0 hz0 hz1 hz2 m (by omega)
  obtain ⟨l0, l1⟩ := lo_b X
  obtain ⟨h0, h1⟩ := hi_b X
  go_enter Tryz.func132, Tryz.ntmps132
  go_wp2_with fail
  refine (vsz_any (m : Int) _).mono ?_
  rw [hs]
  rintro e w' ⟨rfl, rfl⟩
  go_wp2_with fail
  go_loopw [14] (fun i wr => BRel w w.heap.size (w.heap.size + 1) X m i wr) (fun i _ => m - (intOf i).toNat)
  case atStart =>
    refine ⟨0, by omega, rfl, (Box.new w X).alloc _, ?_, below2 _ _ _⟩
    rw [partB_zero]
    refine ⟨by simp [zerosB], .inr ⟨w.heap.size + 1, m, _, rfl, by omega, by simpa using heap_alloc_new (w.alloc _) _, by omega, by unfold maxLen; omega, by simp [zerosB], by simp [zerosB]⟩⟩
  case round =>
    obtain ⟨k, hk, rfl, bx, hown, hb⟩ := hrel
    clear hmk
    by_cases hlt : k < m
    · obtain ⟨x0, x1, xz0, xz1⟩ := bx.facts
      have hc : wr.cell? ⟨w.heap.size + 1, k, none⟩ = some (.int .u8 0) := by rw [hown.cellAt k (by omega)]; exact partB_get X m k hlt
      have hf : wr.frozen? ⟨w.heap.size + 1, k, none⟩ = false := hown.frozenAt k
      have hst := hown.stored k (.int .u8 (byteOf X k))
      rw [partB_set X m k hlt] at hst
      by_cases h8 : k < 8
      · go_wp2_with fail
        rw [byte_lo X k h8]
        exact ⟨⟨k + 1, by omega, by go_num, bx.far (p := ⟨w.heap.size + 1, k, none⟩) (by simp) _, hst.1, hb.setCell (p := ⟨w.heap.size + 1, k, none⟩) (by simp) _⟩, by simp [intOf]; omega⟩
      · go_wp2_with fail
        rw [byte_hi X k hX (by omega)]
        exact ⟨⟨k + 1, by omega, by go_num, bx.far (p := ⟨w.heap.size + 1, k, none⟩) (by simp) _, hst.1, hb.setCell (p := ⟨w.heap.size + 1, k, none⟩) (by simp) _⟩, by simp [intOf]; omega⟩
    · obtain rfl : k = m := by omega
      rw [partB_all] at hown
      go_wp2_with fail
      go_ret
      exact ⟨_, rfl, hown, hb⟩

set_option maxRecDepth 100000 in
set_option maxHeartbeats 400000 in
theorem bytes_no (X : Nat) (n : Int) (w : World) (hs : szB n = false) :
    Calls Tryz.prog 132 #[vv X, .int .i64 n] w (BytesPost X 0 w) := by
  go_enter Tryz.func132, Tryz.ntmps132
  go_wp2_with fail
  refine (vsz_any n _).mono ?_
  rw [hs]
  rintro e w' ⟨rfl, rfl⟩
  go_wp2_with fail
  go_ret
  exact ⟨_, rfl, World.ownsRow_nil _ _ _ _, (Below.refl _ _).alloc (Nat.le_refl _) _⟩

theorem bytes_any (X : Nat) (n : Int) (w : World) (hX : X < two128) : Calls Tryz.prog 132 #[vv X, .int .i64 n] w (BytesPost X (szN n) w) := by
  by_cases h : szB n = true
  · have e := szN_yes h
    have := bytes_yes X (szN n) w hX (szN_le n) (by rw [e]; exact h)
    rwa [e] at this
  · have h : szB n = false := by simpa using h
    rw [szN_no h]; exact bytes_no X n w h
end Go.Proofs.YtafegghdhdgioabGreat
end

section
/-
  The contract of value.FromBytes: the number of the first 16 bytes. Conditions: those of the types.
-/
namespace Go.Proofs.YtafegghdhdgioabGreat
open Go.RowKit

theorem Box.set1 {w : World} {g V : Nat} (h : Box w g V) (V' : Nat) (e : lo V = lo V') : Box (w.setCell ⟨g, 1, none⟩ (.int .u64 (hi V'))) g V' := by
  unfold Box at h ⊢
  simp [World.setCell, Array.getElem?_modify, h, e]

/-- What holds at the head of the loop. -/
def FRel (w0 : World) (gr gx m : Nat) (zs : List Int) (i : Value) (wr : World) : Prop :=
  ∃ k : Nat, k ≤ m ∧ i = .int .i64 k ∧ Box wr gr 0 ∧ Box wr gx (valOf (zs.take k)) ∧ Below w0.heap.size w0 wr

set_option maxRecDepth 100000 in
set_option maxHeartbeats 2000000 in
theorem from_small (A : Option Addr) (n c : Nat) (zs : List Int) (B : Nat) (w : World) (hn : Hid (zs.length = n)) (hnc : n ≤ c) (hm : n ≤ 9223372036854775807) (hs : Sees w B A (cellsU8 zs)) (hB : B ≤ w.heap.size) (hz : Hid (∀ z ∈ zs, 0 ≤ z ∧ z ≤ 255))
    (hle : n ≤ 16) :
    Calls Tryz.prog 130 #[.slice A n c] w fun e w' => e = .returned (vv (valOf (zs.take n))) ∧ Below w.heap.size w w' := by
  go_enter Tryz.func130, Tryz.ntmps130
  go_wp2_with fail
  go_loopw [13] (fun i wr => FRel w w.heap.size (w.heap.size + 1) n zs i wr) (fun i _ =>  n - (intOf i).toNat)
  case atStart => exact ⟨0, by omega, rfl, (Box.new w 0).alloc _, ((Box.new _ 0).at_ (by simp)).same (by simp [valOf]), below2 _ _ _⟩
  case round =>
    obtain ⟨k, hk, rfl, br, bx, hb⟩ := hrel
    by_cases hlt : k < n
    · have hk16 : k < 16 := by omega
      obtain ⟨b, off, z, rfl, hbl, hc0, z0, z1, hzz⟩ := byte_at hs (k := k) (by have := hn.out; omega) hz.out
      have hc : wr.cell? ⟨b, off + k, none⟩ = some (.int .u8 z) := (hb.cell (p := ⟨b, off + k, none⟩) (by simp; omega)).trans hc0
      clear hc0 hs
      have hVl := valOf_take_lt zs k (by have := hn.out; omega) hz.out
      have hT : Hid (∀ z, zs[k]? = some z → valOf (zs.take k) + z.toNat * 2 ^ (8 * k) = valOf (zs.take (k + 1))) := hide fun z h => (valOf_take zs k z h).symm
      obtain ⟨V, hV⟩ : ∃ V, V = valOf (zs.take k) := ⟨_, rfl⟩
      rw [← hV] at bx hT hVl
      clear hV
      obtain ⟨x0, x1, xz0, xz1⟩ := bx.facts
      obtain ⟨l0, l1⟩ := lo_b V
      obtain ⟨h0, h1⟩ := hi_b V
      by_cases h8 : k < 8
      · skip
        go_wp2_with fail
        go_region
        obtain ⟨e1, e2⟩ := put_lo V z k h8 hVl z0 z1
        rw [e1]
        obtain ⟨V', hV'⟩ : ∃ V', V' = V + z.toNat * 2 ^ (8 * k) := ⟨_, rfl⟩
        rw [← hV'] at e2 ⊢
        have hT' := hT.out z hzz.out
        rw [← hV'] at hT'
        have bx' := bx.set0 V' e2
        have br' := br.far (p := ⟨w.heap.size + 1, 0, none⟩) (by simp) (.int .u64 (lo V'))
        have hb' := hb.setCell (p := ⟨w.heap.size + 1, 0, none⟩) (by simp) (.int .u64 (lo V'))
        clear e1 e2 hV' x0 x1 xz0 xz1 hc
        have R : FRel w w.heap.size (w.heap.size + 1) n zs (.int .i64 ((k : Int) + 1)) ((wr.setCell ⟨w.heap.size + 1, 0, none⟩ (.int .u64 (lo V'))).drew) := ⟨k + 1, by omega, by go_num, br'.drew, bx'.drew.same hT', hb'.drew⟩
        clear hT' bx' br' hb'
        go_wp2_with fail
        go_roundw
        case rel => exact R
        case measure => simp [intOf]; omega
      · skip
        go_wp2_with fail
        go_region
        obtain ⟨e1, e2⟩ := put_hi V z k (by omega) hk16 hVl z0 z1
        rw [e1]
        obtain ⟨V', hV'⟩ : ∃ V', V' = V + z.toNat * 2 ^ (8 * k) := ⟨_, rfl⟩
        rw [← hV'] at e2 ⊢
        have hT' := hT.out z hzz.out
        rw [← hV'] at hT'
        have bx' := bx.set1 V' e2
        have br' := br.far (p := ⟨w.heap.size + 1, 1, none⟩) (by simp) (.int .u64 (hi V'))
        have hb' := hb.setCell (p := ⟨w.heap.size + 1, 1, none⟩) (by simp) (.int .u64 (hi V'))
        clear e1 e2 hV' x0 x1 xz0 xz1 hc
        have R : FRel w w.heap.size (w.heap.size + 1) n zs (.int .i64 ((k : Int) + 1)) ((wr.setCell ⟨w.heap.size + 1, 1, none⟩ (.int .u64 (hi V'))).drew) := ⟨k + 1, by omega, by go_num, br'.drew, bx'.drew.same hT', hb'.drew⟩
        clear hT' bx' br' hb'
        go_wp2_with fail
        go_roundw
        case rel => exact R
        case measure => simp [intOf]; omega
    · obtain rfl : k = n := by omega
      obtain ⟨V, hV⟩ : ∃ V, V = valOf (zs.take k) := ⟨_, rfl⟩
      rw [← hV] at bx
      have HV := hide hV
      clear hV
      obtain ⟨x0, x1, xz0, xz1⟩ := bx.facts
      obtain ⟨r0, r1, rz0, rz1⟩ := br.facts
      go_wp2_with fail
      clear x0 x1 xz0 xz1 r0 r1 rz0 rz1
      have br := br.set_ V
      have hb := below_set (g := w.heap.size) hb (by omega) (.int .u64 (lo V)) (.int .u64 (hi V))
      obtain ⟨W9, hW9⟩ : ∃ W, W = (wr.setCell ⟨w.heap.size, 0, none⟩ (.int .u64 (lo V))).setCell ⟨w.heap.size, 1, none⟩ (.int .u64 (hi V)) := ⟨_, rfl⟩
      rw [← hW9] at br hb ⊢
      clear hW9
      obtain ⟨r0, r1, rz0, rz1⟩ := br.facts
      exact bodyPost_ret (v := vv V) (by simp [results, Tryz.results130, go_sem, r0, r1]) rfl ⟨by rw [HV.out], hb⟩

set_option maxRecDepth 100000 in
set_option maxHeartbeats 2000000 in
theorem from_great (A : Option Addr) (n c : Nat) (zs : List Int) (B : Nat) (w : World) (hn : Hid (zs.length = n)) (hnc : n ≤ c) (hm : n ≤ 9223372036854775807) (hs : Sees w B A (cellsU8 zs)) (hB : B ≤ w.heap.size) (hz : Hid (∀ z ∈ zs, 0 ≤ z ∧ z ≤ 255))
    (hle : 16 < n) :
    Calls Tryz.prog 130 #[.slice A n c] w fun e w' => e = .returned (vv (valOf (zs.take 16))) ∧ Below w.heap.size w w' := by
  go_enter Tryz.func130, Tryz.ntmps130
  go_wp2_with fail
  go_loopw [13] (fun i wr => FRel w w.heap.size (w.heap.size + 1) 16 zs i wr) (fun i _ =>  16 - (intOf i).toNat)
  case atStart => exact ⟨0, by omega, rfl, (Box.new w 0).alloc _, ((Box.new _ 0).at_ (by simp)).same (by simp [valOf]), below2 _ _ _⟩
  case round =>
    obtain ⟨k, hk, rfl, br, bx, hb⟩ := hrel
    by_cases hlt : k < 16
    · have hk16 : k < 16 := by omega
      obtain ⟨b, off, z, rfl, hbl, hc0, z0, z1, hzz⟩ := byte_at hs (k := k) (by have := hn.out; omega) hz.out
      have hc : wr.cell? ⟨b, off + k, none⟩ = some (.int .u8 z) := (hb.cell (p := ⟨b, off + k, none⟩) (by simp; omega)).trans hc0
      clear hc0 hs
      have hVl := valOf_take_lt zs k (by have := hn.out; omega) hz.out
      have hT : Hid (∀ z, zs[k]? = some z → valOf (zs.take k) + z.toNat * 2 ^ (8 * k) = valOf (zs.take (k + 1))) := hide fun z h => (valOf_take zs k z h).symm
      obtain ⟨V, hV⟩ : ∃ V, V = valOf (zs.take k) := ⟨_, rfl⟩
      rw [← hV] at bx hT hVl
      clear hV
      obtain ⟨x0, x1, xz0, xz1⟩ := bx.facts
      obtain ⟨l0, l1⟩ := lo_b V
      obtain ⟨h0, h1⟩ := hi_b V
      by_cases h8 : k < 8
      · skip
        go_wp2_with fail
        go_region
        obtain ⟨e1, e2⟩ := put_lo V z k h8 hVl z0 z1
        rw [e1]
        obtain ⟨V', hV'⟩ : ∃ V', V' = V + z.toNat * 2 ^ (8 * k) := ⟨_, rfl⟩
        rw [← hV'] at e2 ⊢
        have hT' := hT.out z hzz.out
        rw [← hV'] at hT'
        have bx' := bx.set0 V' e2
        have br' := br.far (p := ⟨w.heap.size + 1, 0, none⟩) (by simp) (.int .u64 (lo V'))
        have hb' := hb.setCell (p := ⟨w.heap.size + 1, 0, none⟩) (by simp) (.int .u64 (lo V'))
        clear e1 e2 hV' x0 x1 xz0 xz1 hc
        have R : FRel w w.heap.size (w.heap.size + 1) 16 zs (.int .i64 ((k : Int) + 1)) ((wr.setCell ⟨w.heap.size + 1, 0, none⟩ (.int .u64 (lo V'))).drew) := ⟨k + 1, by omega, by go_num, br'.drew, bx'.drew.same hT', hb'.drew⟩
        clear hT' bx' br' hb'
        go_wp2_with fail
        go_roundw
        case rel => exact R
        case measure => simp [intOf]; omega
      · skip
        go_wp2_with fail
        go_region
        obtain ⟨e1, e2⟩ := put_hi V z k (by omega) hk16 hVl z0 z1
        rw [e1]
        obtain ⟨V', hV'⟩ : ∃ V', V' = V + z.toNat * 2 ^ (8 * k) := ⟨_, rfl⟩
        rw [← hV'] at e2 ⊢
        have hT' := hT.out z hzz.out
        rw [← hV'] at hT'
        have bx' := bx.set1 V' e2
        have br' := br.far (p := ⟨w.heap.size + 1, 1, none⟩) (by simp) (.int .u64 (hi V'))
        have hb' := hb.setCell (p := ⟨w.heap.size + 1, 1, none⟩) (by simp) (.int .u64 (hi V'))
        clear e1 e2 hV' x0 x1 xz0 xz1 hc
        have R : FRel w w.heap.size (w.heap.size + 1) 16 zs (.int .i64 ((k : Int) + 1)) ((wr.setCell ⟨w.heap.size + 1, 1, none⟩ (.int .u64 (hi V'))).drew) := ⟨k + 1, by omega, by go_num, br'.drew, bx'.drew.same hT', hb'.drew⟩
        clear hT' bx' br' hb'
        go_wp2_with fail
        go_roundw
        case rel => exact R
        case measure => simp [intOf]; omega
    · obtain rfl : k = 16 := by omega
      obtain ⟨V, hV⟩ : ∃ V, V = valOf (zs.take 16) := ⟨_, rfl⟩
      rw [← hV] at bx
      have HV := hide hV
      clear hV
      obtain ⟨x0, x1, xz0, xz1⟩ := bx.facts
      obtain ⟨r0, r1, rz0, rz1⟩ := br.facts
      go_wp2_with fail
      clear x0 x1 xz0 xz1 r0 r1 rz0 rz1
      have br := br.set_ V
      have hb := below_set (g := w.heap.size) hb (by omega) (.int .u64 (lo V)) (.int .u64 (hi V))
      obtain ⟨W9, hW9⟩ : ∃ W, W = (wr.setCell ⟨w.heap.size, 0, none⟩ (.int .u64 (lo V))).setCell ⟨w.heap.size, 1, none⟩ (.int .u64 (hi V)) := ⟨_, rfl⟩
      rw [← hW9] at br hb ⊢
      clear hW9
      obtain ⟨r0, r1, rz0, rz1⟩ := br.facts
      exact bodyPost_ret (v := vv V) (by simp [results, Tryz.results130, go_sem, r0, r1]) rfl ⟨by rw [HV.out], hb⟩

theorem from_any (A : Option Addr) (n c : Nat) (zs : List Int) (B : Nat) (w : World) (hn : Hid (zs.length = n)) (hnc : n ≤ c) (hm : n ≤ 9223372036854775807) (hs : Sees w B A (cellsU8 zs)) (hB : B ≤ w.heap.size) (hz : Hid (∀ z ∈ zs, 0 ≤ z ∧ z ≤ 255)) :
    Calls Tryz.prog 130 #[.slice A n c] w fun e w' => e = .returned (vv (valOf (zs.take 16))) ∧ Below w.heap.size w w' := by
  by_cases hle : n ≤ 16
  · have h := from_small A n c zs B w hn hnc hm hs hB hz hle
    rw [List.take_of_length_le (by have := hn.out; omega)] at h
    rwa [List.take_of_length_le (by have := hn.out; omega)]
  · exact from_great A n c zs B w hn hnc hm hs hB hz (by omega)
end Go.Proofs.YtafegghdhdgioabGreat
end
