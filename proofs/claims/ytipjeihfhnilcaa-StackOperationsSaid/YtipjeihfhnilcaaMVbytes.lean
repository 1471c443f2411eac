import Derived.Test.YtipjeihfhnilcaaMKmm
import Derived.Test.YtipjeihfhnilcaaMVrszo
import Derived.Test.YtipjeihfhnilcaaMOwn
import Derived.RegionTactic
import Derived.ChangeAlike
set_option linter.unusedVariables false
set_option linter.unusedSimpArgs false
section
/-
  The contract of value.Bytes: the lowest bytes of a value, or none. Conditions: those of the types.
-/
namespace Go.Proofs.Ytipjeihfhnilcaa
open Go.RowKit

theorem Try.binfo5 : (Try.prog.info? 5).map (fun i => (i.zero, i.size, i.bytes)) = some (some (.int .u8 0), 1, 1) := by kernel_rfl

/-- k zero bytes, behind a name. -/
def zerosB (k : Nat) : List Value := List.replicate k (.int .u8 0)
theorem make_full {P : Program} {t e : TypeId} {i : TypeInfo} (ht : P.underlying t = some (.slice e)) (hi : P.info? e = some i) (hz : i.zero = some (.int .u8 0)) (hs : i.size = 1) (hb : i.bytes = 1)
    (n : Nat) (hm : n ≤ 140737488355328) (W : World) :
    (Instr.makeSlice t (.int .i64 (n : Int)) (.int .i64 (n : Int))).run P W = .ok (.slice (some ⟨W.heap.size, 0, none⟩) n n) (W.alloc (.cells (zerosB n).toArray e)) := by
  have h := run_make W t e i _ ht hi hz .i64 .i64 (n : Int) (n : Int) (by omega) (by omega) (by rw [hb]; omega) (by omega)
  rw [h, show ((n : Int)).toNat = n by omega, hs, Nat.mul_one]
  rw [show (Value.int IntKind.u8 0).cells = #[Value.int IntKind.u8 0] from rfl, madeCells_list]
  rfl

/-- The bytes so far, zeros behind them. -/
def partB (X m k : Nat) : List Int := bytesV X k ++ List.replicate (m - k) 0
theorem partB_get (X m k : Nat) (hk : k < m) : (cellsU8 (partB X m k))[k]? = some (.int .u8 0) := by
  unfold partB cellsU8
  rw [List.map_append, List.getElem?_append_right (by simp [bytesV_length]), List.length_map, bytesV_length, Nat.sub_self]
  obtain ⟨j, hj⟩ : ∃ j, m - k = j + 1 := ⟨m - k - 1, by omega⟩
  rw [hj, List.replicate_succ]
  rfl
theorem partB_set (X m k : Nat) (hk : k < m) : (cellsU8 (partB X m k)).set k (.int .u8 (byteOf X k)) = cellsU8 (partB X m (k + 1)) := by
  unfold partB cellsU8
  obtain ⟨j, hj⟩ : ∃ j, m - k = j + 1 := ⟨m - k - 1, by omega⟩
  rw [List.map_append, List.set_append_right _ _ (by simp [bytesV_length]), List.length_map, bytesV_length, Nat.sub_self, hj, List.replicate_succ, show m - (k + 1) = j by omega]
  simp [bytesV]
theorem partB_zero (X m : Nat) : cellsU8 (partB X m 0) = zerosB m := by simp [partB, bytesV, cellsU8, zerosB]
theorem partB_all (X m : Nat) : partB X m m = bytesV X m := by simp [partB]

/-- What a call of Bytes gives. -/
def BytesPost (X m : Nat) (w : World) (e : Ending) (w' : World) : Prop :=
  ∃ r, e = .returned r ∧ w'.ownsRow w.heap.size 5 1 r m (cellsU8 (bytesV X m)) ∧ Below w.heap.size w w'

/-- What holds at the head of the loop. -/
def BRel (w0 : World) (gx gs X m : Nat) (i : Value) (wr : World) : Prop :=
  ∃ k : Nat, k ≤ m ∧ i = .int .i64 k ∧ Box wr gx X ∧ wr.ownsRow w0.heap.size 5 1 (.slice (some ⟨gs, 0, none⟩) m m) m (cellsU8 (partB X m k)) ∧ Below w0.heap.size w0 wr

set_option maxRecDepth 100000 in
set_option maxHeartbeats 1000000 in
theorem bytes_yes (X m : Nat) (w : World) (hX : X < two128) (hm : m ≤ 16) (hs : szB (m : Int) = true) :
    Calls Try.prog 62 #[vv X, .int .i64 m] w (BytesPost X m w) := by
  obtain ⟨i0, hi0, hz0, hz1, hz2⟩ := info_parts Try.binfo5
  have hmk := make_full (P := Try.prog) Try.underlying22 hi0 hz0 hz1 hz2 m (by omega)
  obtain ⟨l0, l1⟩ := lo_b X
  obtain ⟨h0, h1⟩ := hi_b X
  go_enter Try.func62, Try.ntmps62
  go_wp2_with fail
  refine (vsz_any (m : Int) _).mono ?_
  rw [hs]
  rintro e w' ⟨rfl, rfl⟩
  go_wp2_with fail
  go_loopw [14] (fun i wr => BRel w w.heap.size (w.heap.size + 1) X m i wr) (fun i _ => m - (intOf i).toNat)
  case atStart =>
    refine ⟨0, by omega, rfl, (Box.new w X).alloc _, ?_, below2 _ _ _⟩
    rw [partB_zero]
    refine ⟨by simp [zerosB], .inr ⟨w.heap.size + 1, m, _, rfl, by omega, by simpa using heap_alloc_new (w.alloc _) _, by omega, by unfold maxLen; omega, by simp [zerosB], by simp [zerosB]⟩⟩
  case round =>
    obtain ⟨k, hk, rfl, bx, hown, hb⟩ := hrel
    clear hmk
    by_cases hlt : k < m
    · obtain ⟨x0, x1, xz0, xz1⟩ := bx.facts
      have hc : wr.cell? ⟨w.heap.size + 1, k, none⟩ = some (.int .u8 0) := by rw [hown.cellAt k (by omega)]; exact partB_get X m k hlt
      have hf : wr.frozen? ⟨w.heap.size + 1, k, none⟩ = false := hown.frozenAt k
      have hst := hown.stored k (.int .u8 (byteOf X k))
      rw [partB_set X m k hlt] at hst
      by_cases h8 : k < 8
      · go_wp2_with fail
        rw [byte_lo X k h8]
        exact ⟨⟨k + 1, by omega, by go_num, bx.far (p := ⟨w.heap.size + 1, k, none⟩) (by simp) _, hst.1, hb.setCell (p := ⟨w.heap.size + 1, k, none⟩) (by simp) _⟩, by simp [intOf]; omega⟩
      · go_wp2_with fail
        rw [byte_hi X k hX (by omega)]
        exact ⟨⟨k + 1, by omega, by go_num, bx.far (p := ⟨w.heap.size + 1, k, none⟩) (by simp) _, hst.1, hb.setCell (p := ⟨w.heap.size + 1, k, none⟩) (by simp) _⟩, by simp [intOf]; omega⟩
    · obtain rfl : k = m := by omega
      rw [partB_all] at hown
      go_wp2_with fail
      go_ret
      exact ⟨_, rfl, hown, hb⟩

set_option maxRecDepth 100000 in
set_option maxHeartbeats 400000 in
theorem bytes_no (X : Nat) (n : Int) (w : World) (hs : szB n = false) :
    Calls Try.prog 62 #[vv X, .int .i64 n] w (BytesPost X 0 w) := by
  go_enter Try.func62, Try.ntmps62
  go_wp2_with fail
  refine (vsz_any n _).mono ?_
  rw [hs]
  rintro e w' ⟨rfl, rfl⟩
  go_wp2_with fail
  go_ret
  exact ⟨_, rfl, World.ownsRow_nil _ _ _ _, (Below.refl _ _).alloc (Nat.le_refl _) _⟩

theorem bytes_any (X : Nat) (n : Int) (w : World) (hX : X < two128) : Calls Try.prog 62 #[vv X, .int .i64 n] w (BytesPost X (szN n) w) := by
  by_cases h : szB n = true
  · have e := szN_yes h
    have := bytes_yes X (szN n) w hX (szN_le n) (by rw [e]; exact h)
    rwa [e] at this
  · have h : szB n = false := by simpa using h
    rw [szN_no h]; exact bytes_no X n w h
end Go.Proofs.Ytipjeihfhnilcaa
end
