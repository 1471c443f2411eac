import Derived.Test.YtipjeihfhnilcaaMVbytes
set_option linter.unusedVariables false
set_option linter.unusedSimpArgs false
section
/-
  The contract of value.FromBytes: the number of the first 16 bytes. Conditions: those of the types.
-/
namespace Go.Proofs.Ytipjeihfhnilcaa
open Go.RowKit

theorem Box.set1 {w : World} {g V : Nat} (h : Box w g V) (V' : Nat) (e : lo V = lo V') : Box (w.setCell ⟨g, 1, none⟩ (.int .u64 (hi V'))) g V' := by
  unfold Box at h ⊢
  simp [World.setCell, Array.getElem?_modify, h, e]

/-- What holds at the head of the loop. -/
def FRel (w0 : World) (gr gx m : Nat) (zs : List Int) (i : Value) (wr : World) : Prop :=
  ∃ k : Nat, k ≤ m ∧ i = .int .i64 k ∧ Box wr gr 0 ∧ Box wr gx (valOf (zs.take k)) ∧ Below w0.heap.size w0 wr

set_option maxRecDepth 100000 in
set_option maxHeartbeats 2000000 in
theorem from_small (A : Option Addr) (n c : Nat) (zs : List Int) (B : Nat) (w : World) (hn : Hid (zs.length = n)) (hnc : n ≤ c) (hm : n ≤ 9223372036854775807) (hs : Sees w B A (cellsU8 zs)) (hB : B ≤ w.heap.size) (hz : Hid (∀ z ∈ zs, 0 ≤ z ∧ z ≤ 255))
    (hle : n ≤ 16) :
    Calls Try.prog 46 #[.slice A n c] w fun e w' => e = .returned (vv (valOf (zs.take n))) ∧ Below w.heap.size w w' := by
  go_enter Try.func46, Try.ntmps46
  go_wp2_with fail
  go_loopw [13] (fun i wr => FRel w w.heap.size (w.heap.size + 1) n zs i wr) (fun i _ =>  n - (intOf i).toNat)
  case atStart => exact ⟨0, by omega, rfl, (Box.new w 0).alloc _, ((Box.new _ 0).at_ (by simp)).same (by simp [valOf]), below2 _ _ _⟩
  case round =>
    obtain ⟨k, hk, rfl, br, bx, hb⟩ := hrel
    by_cases hlt : k < n
    · have hk16 : k < 16 := by omega
      obtain ⟨b, off, z, rfl, hbl, hc0, z0, z1, hzz⟩ := byte_at hs (k := k) (by have := hn.out; omega) hz.out
      have hc : wr.cell? ⟨b, off + k, none⟩ = some (.int .u8 z) := (hb.cell (p := ⟨b, off + k, none⟩) (by simp; omega)).trans hc0
      clear hc0 hs
      have hVl := valOf_take_lt zs k (by have := hn.out; omega) hz.out
      have hT : Hid (∀ z, zs[k]? = some z → valOf (zs.take k) + z.toNat * 2 ^ (8 * k) = valOf (zs.take (k + 1))) := hide fun z h => (valOf_take zs k z h).symm
      obtain ⟨V, hV⟩ : ∃ V, V = valOf (zs.take k) := ⟨_, rfl⟩
      rw [← hV] at bx hT hVl
      clear hV
      obtain ⟨x0, x1, xz0, xz1⟩ := bx.facts
      obtain ⟨l0, l1⟩ := lo_b V
      obtain ⟨h0, h1⟩ := hi_b V
      by_cases h8 : k < 8
      · skip
        go_wp2_with fail
        go_region
        obtain ⟨e1, e2⟩ := put_lo V z k h8 hVl z0 z1
        rw [e1]
        obtain ⟨V', hV'⟩ : ∃ V', V' = V + z.toNat * 2 ^ (8 * k) := ⟨_, rfl⟩
        rw [← hV'] at e2 ⊢
        have hT' := hT.out z hzz.out
        rw [← hV'] at hT'
        have bx' := bx.set0 V' e2
        have br' := br.far (p := ⟨w.heap.size + 1, 0, none⟩) (by simp) (.int .u64 (lo V'))
        have hb' := hb.setCell (p := ⟨w.heap.size + 1, 0, none⟩) (by simp) (.int .u64 (lo V'))
        clear e1 e2 hV' x0 x1 xz0 xz1 hc
        have R : FRel w w.heap.size (w.heap.size + 1) n zs (.int .i64 ((k : Int) + 1)) ((wr.setCell ⟨w.heap.size + 1, 0, none⟩ (.int .u64 (lo V'))).drew) := ⟨k + 1, by omega, by go_num, br'.drew, bx'.drew.same hT', hb'.drew⟩
        clear hT' bx' br' hb'
        go_wp2_with fail
        go_roundw
        case rel => exact R
        case measure => simp [intOf]; omega
      · skip
        go_wp2_with fail
        go_region
        obtain ⟨e1, e2⟩ := put_hi V z k (by omega) hk16 hVl z0 z1
        rw [e1]
        obtain ⟨V', hV'⟩ : ∃ V', V' = V + z.toNat * 2 ^ (8 * k) := ⟨_, rfl⟩
        rw [← hV'] at e2 ⊢
        have hT' := hT.out z hzz.out
        rw [← hV'] at hT'
        have bx' := bx.set1 V' e2
        have br' := br.far (p := ⟨w.heap.size + 1, 1, none⟩) (by simp) (.int .u64 (hi V'))
        have hb' := hb.setCell (p := ⟨w.heap.size + 1, 1, none⟩) (by simp) (.int .u64 (hi V'))
        clear e1 e2 hV' x0 x1 xz0 xz1 hc
        have R : FRel w w.heap.size (w.heap.size + 1) n zs (.int .i64 ((k : Int) + 1)) ((wr.setCell ⟨w.heap.size + 1, 1, none⟩ (.int .u64 (hi V'))).drew) := ⟨k + 1, by omega, by go_num, br'.drew, bx'.drew.same hT', hb'.drew⟩
        clear hT' bx' br' hb'
        go_wp2_with fail
        go_roundw
        case rel => exact R
        case measure => simp [intOf]; omega
    · obtain rfl : k = n := by omega
      obtain ⟨V, hV⟩ : ∃ V, V = valOf (zs.take k) := ⟨_, rfl⟩
      rw [← hV] at bx
      have HV := hide hV
      clear hV
      obtain ⟨x0, x1, xz0, xz1⟩ := bx.facts
      obtain ⟨r0, r1, rz0, rz1⟩ := br.facts
      go_wp2_with fail
      clear x0 x1 xz0 xz1 r0 r1 rz0 rz1
      have br := br.set_ V
      have hb := below_set (g := w.heap.size) hb (by omega) (.int .u64 (lo V)) (.int .u64 (hi V))
      obtain ⟨W9, hW9⟩ : ∃ W, W = (wr.setCell ⟨w.heap.size, 0, none⟩ (.int .u64 (lo V))).setCell ⟨w.heap.size, 1, none⟩ (.int .u64 (hi V)) := ⟨_, rfl⟩
      rw [← hW9] at br hb ⊢
      clear hW9
      obtain ⟨r0, r1, rz0, rz1⟩ := br.facts
      exact bodyPost_ret (v := vv V) (by simp [results, Try.results46, go_sem, r0, r1]) rfl ⟨by rw [HV.out], hb⟩

set_option maxRecDepth 100000 in
set_option maxHeartbeats 2000000 in
theorem from_great (A : Option Addr) (n c : Nat) (zs : List Int) (B : Nat) (w : World) (hn : Hid (zs.length = n)) (hnc : n ≤ c) (hm : n ≤ 9223372036854775807) (hs : Sees w B A (cellsU8 zs)) (hB : B ≤ w.heap.size) (hz : Hid (∀ z ∈ zs, 0 ≤ z ∧ z ≤ 255))
    (hle : 16 < n) :
    Calls Try.prog 46 #[.slice A n c] w fun e w' => e = .returned (vv (valOf (zs.take 16))) ∧ Below w.heap.size w w' := by
  go_enter Try.func46, Try.ntmps46
  go_wp2_with fail
  go_loopw [13] (fun i wr => FRel w w.heap.size (w.heap.size + 1) 16 zs i wr) (fun i _ =>  16 - (intOf i).toNat)
  case atStart => exact ⟨0, by omega, rfl, (Box.new w 0).alloc _, ((Box.new _ 0).at_ (by simp)).same (by simp [valOf]), below2 _ _ _⟩
  case round =>
    obtain ⟨k, hk, rfl, br, bx, hb⟩ := hrel
    by_cases hlt : k < 16
    · have hk16 : k < 16 := by omega
      obtain ⟨b, off, z, rfl, hbl, hc0, z0, z1, hzz⟩ := byte_at hs (k := k) (by have := hn.out; omega) hz.out
      have hc : wr.cell? ⟨b, off + k, none⟩ = some (.int .u8 z) := (hb.cell (p := ⟨b, off + k, none⟩) (by simp; omega)).trans hc0
      clear hc0 hs
      have hVl := valOf_take_lt zs k (by have := hn.out; omega) hz.out
      have hT : Hid (∀ z, zs[k]? = some z → valOf (zs.take k) + z.toNat * 2 ^ (8 * k) = valOf (zs.take (k + 1))) := hide fun z h => (valOf_take zs k z h).symm
      obtain ⟨V, hV⟩ : ∃ V, V = valOf (zs.take k) := ⟨_, rfl⟩
      rw [← hV] at bx hT hVl
      clear hV
      obtain ⟨x0, x1, xz0, xz1⟩ := bx.facts
      obtain ⟨l0, l1⟩ := lo_b V
      obtain ⟨h0, h1⟩ := hi_b V
      by_cases h8 : k < 8
      · skip
        go_wp2_with fail
        go_region
        obtain ⟨e1, e2⟩ := put_lo V z k h8 hVl z0 z1
        rw [e1]
        obtain ⟨V', hV'⟩ : ∃ V', V' = V + z.toNat * 2 ^ (8 * k) := ⟨_, rfl⟩
        rw [← hV'] at e2 ⊢
        have hT' := hT.out z hzz.out
        rw [← hV'] at hT'
        have bx' := bx.set0 V' e2
        have br' := br.far (p := ⟨w.heap.size + 1, 0, none⟩) (by simp) (.int .u64 (lo V'))
        have hb' := hb.setCell (p := ⟨w.heap.size + 1, 0, none⟩) (by simp) (.int .u64 (lo V'))
        clear e1 e2 hV' x0 x1 xz0 xz1 hc
        have R : FRel w w.heap.size (w.heap.size + 1) 16 zs (.int .i64 ((k : Int) + 1)) ((wr.setCell ⟨w.heap.size + 1, 0, none⟩ (.int .u64 (lo V'))).drew) := ⟨k + 1, by omega, by go_num, br'.drew, bx'.drew.same hT', hb'.drew⟩
        clear hT' bx' br' hb'
        go_wp2_with fail
        go_roundw
        case rel => exact R
        case measure => simp [intOf]; omega
      · skip
        go_wp2_with fail
        go_region
        obtain ⟨e1, e2⟩ := put_hi V z k (by omega) hk16 hVl z0 z1
        rw [e1]
        obtain ⟨V', hV'⟩ : ∃ V', V' = V + z.toNat * 2 ^ (8 * k) := ⟨_, rfl⟩
        rw [← hV'] at e2 ⊢
        have hT' := hT.out z hzz.out
        rw [← hV'] at hT'
        have bx' := bx.set1 V' e2
        have br' := br.far (p := ⟨w.heap.size + 1, 1, none⟩) (by simp) (.int .u64 (hi V'))
        have hb' := hb.setCell (p := ⟨w.heap.size + 1, 1, none⟩) (by simp) (.int .u64 (hi V'))
        clear e1 e2 hV' x0 x1 xz0 xz1 hc
        have R : FRel w w.heap.size (w.heap.size + 1) 16 zs (.int .i64 ((k : Int) + 1)) ((wr.setCell ⟨w.heap.size + 1, 1, none⟩ (.int .u64 (hi V'))).drew) := ⟨k + 1, by omega, by go_num, br'.drew, bx'.drew.same hT', hb'.drew⟩
        clear hT' bx' br' hb'
        go_wp2_with fail
        go_roundw
        case rel => exact R
        case measure => simp [intOf]; omega
    · obtain rfl : k = 16 := by omega
      obtain ⟨V, hV⟩ : ∃ V, V = valOf (zs.take 16) := ⟨_, rfl⟩
      rw [← hV] at bx
      have HV := hide hV
      clear hV
      obtain ⟨x0, x1, xz0, xz1⟩ := bx.facts
      obtain ⟨r0, r1, rz0, rz1⟩ := br.facts
      go_wp2_with fail
      clear x0 x1 xz0 xz1 r0 r1 rz0 rz1
      have br := br.set_ V
      have hb := below_set (g := w.heap.size) hb (by omega) (.int .u64 (lo V)) (.int .u64 (hi V))
      obtain ⟨W9, hW9⟩ : ∃ W, W = (wr.setCell ⟨w.heap.size, 0, none⟩ (.int .u64 (lo V))).setCell ⟨w.heap.size, 1, none⟩ (.int .u64 (hi V)) := ⟨_, rfl⟩
      rw [← hW9] at br hb ⊢
      clear hW9
      obtain ⟨r0, r1, rz0, rz1⟩ := br.facts
      exact bodyPost_ret (v := vv V) (by simp [results, Try.results46, go_sem, r0, r1]) rfl ⟨by rw [HV.out], hb⟩

theorem from_any (A : Option Addr) (n c : Nat) (zs : List Int) (B : Nat) (w : World) (hn : Hid (zs.length = n)) (hnc : n ≤ c) (hm : n ≤ 9223372036854775807) (hs : Sees w B A (cellsU8 zs)) (hB : B ≤ w.heap.size) (hz : Hid (∀ z ∈ zs, 0 ≤ z ∧ z ≤ 255)) :
    Calls Try.prog 46 #[.slice A n c] w fun e w' => e = .returned (vv (valOf (zs.take 16))) ∧ Below w.heap.size w w' := by
  by_cases hle : n ≤ 16
  · have h := from_small A n c zs B w hn hnc hm hs hB hz hle
    rw [List.take_of_length_le (by have := hn.out; omega)] at h
    rwa [List.take_of_length_le (by have := hn.out; omega)]
  · exact from_great A n c zs B w hn hnc hm hs hB hz (by omega)
end Go.Proofs.Ytipjeihfhnilcaa
end
