import Derived.Test.YtlhaendgdeflkaaGreatDoorMHe
import Derived.Test.YtlhaendgdeflkaaGreatDoorMTinstr
import Derived.Test.YtlhaendgdeflkaaGreatDoorMGd
import Derived.Test.YtlhaendgdeflkaaGreatDoorMUrlns
import Derived.Test.YtlhaendgdeflkaaGreatDoorMHc
import Derived.RegionTactic
import Derived.BigRegion
import Derived.Maps.Own
import Derived.Maps.OwnSet
import Derived.Maps.Views
import Derived.StringKeys
import Derived.Deep.WholeRow
import Derived.Deep.RegionLaw
import Derived.Maps.Range
set_option linter.unusedVariables false
set_option linter.unusedSimpArgs false
section
/-
  The program's instr (chapter 7): the instruction of an operation and its numbers. Conditions: those of the types; the table of the names lies as it is laid.
-/
namespace Go.Proofs.YtlhaendgdeflkaaGreatDoor
open Go.RowKit

/-- The operands A, B, C and Imm as the loop over the letters has stored them. -/
def abcU (L : List UInt8) (zs : List Int) (pos j : Nat) : Int := if j < pos ∧ L.getD j 0 ≠ 105 then zs.getD j 0 else 0
def immU (L : List UInt8) (zs : List Int) : Nat → Int
  | 0 => 0
  | pos + 1 => if L.getD pos 0 = 105 then zs.getD pos 0 else immU L zs pos
theorem insU_letters {k : Nat} (hk : k < 25) (vs : List Nat) : insU k vs = ⟨k, abcU (lettT (k : Int)) (vs.map fun (v : Nat) => (v : Int)) (lettT (k : Int)).length 0, abcU (lettT (k : Int)) (vs.map fun (v : Nat) => (v : Int)) (lettT (k : Int)).length 1,
    abcU (lettT (k : Int)) (vs.map fun (v : Nat) => (v : Int)) (lettT (k : Int)).length 2, immU (lettT (k : Int)) (vs.map fun (v : Nat) => (v : Int)) (lettT (k : Int)).length⟩ := by
  have hg : ∀ j, (vs.map fun (v : Nat) => (v : Int)).getD j 0 = ((vs.getD j 0 : Nat) : Int) := fun j => by
    rw [List.getD_eq_getElem?_getD, List.getD_eq_getElem?_getD, List.getElem?_map]
    cases vs[j]? <;> rfl
  unfold abcU
  simp only [hg]
  obtain ⟨z, ez⟩ : ∃ z, (vs.map fun (v : Nat) => (v : Int)) = z := ⟨_, rfl⟩
  have hi : ∀ (L : List UInt8) (p : Nat), immU L (vs.map fun (v : Nat) => (v : Int)) (p + 1) = if L.getD p 0 = 105 then ((vs.getD p 0 : Nat) : Int) else immU L (vs.map fun (v : Nat) => (v : Int)) p := fun L p => by rw [← hg]; rfl
  match k, hk with
  | 0, _ =>
    show insU 0 vs = ⟨_, _, _, _, immU _ _ 2⟩
    rw [hi, if_pos (by decide)]; rfl
  | 1, _ => rfl
  | 2, _ => rfl
  | 3, _ => rfl
  | 4, _ => rfl
  | 5, _ => rfl
  | 6, _ => rfl
  | 7, _ => rfl
  | 8, _ => rfl
  | 9, _ => rfl
  | 10, _ => rfl
  | 11, _ => rfl
  | 12, _ => rfl
  | 13, _ => rfl
  | 14, _ => rfl
  | 15, _ => rfl
  | 16, _ => rfl
  | 17, _ => rfl
  | 18, _ => rfl
  | 19, _ => rfl
  | 20, _ => rfl
  | 21, _ => rfl
  | 22, _ => rfl
  | 23, _ => rfl
  | 24, _ =>
    show insU 24 vs = ⟨_, _, _, _, immU _ _ 1⟩
    rw [hi, show (if (lettT ((24 : Nat) : Int)).getD 0 0 = 105 then ((vs.getD 0 0 : Nat) : Int) else immU (lettT ((24 : Nat) : Int)) (vs.map fun (v : Nat) => (v : Int)) 0) = ((vs.getD 0 0 : Nat) : Int) from if_pos (by decide)]; rfl
  | k + 25, hk => exact absurd hk (by omega)
theorem abcU_more {L : List UInt8} {zs : List Int} {pos : Nat} (h : L.getD pos 0 = 105) (j : Nat) : abcU L zs (pos + 1) j = abcU L zs pos j := by
  unfold abcU
  by_cases hj : j = pos
  · subst hj
    rw [if_neg (fun e => e.2 h), if_neg (fun e => by omega)]
  · by_cases h1 : j < pos
    · simp only [h1, show j < pos + 1 by omega]
    · rw [if_neg (fun e => by omega), if_neg (fun e => by omega)]
theorem abcU_at {L : List UInt8} {zs : List Int} {pos : Nat} (h : L.getD pos 0 ≠ 105) : abcU L zs (pos + 1) pos = zs.getD pos 0 := by
  unfold abcU; rw [if_pos ⟨by omega, h⟩]
theorem abcU_else {L : List UInt8} {zs : List Int} {pos j : Nat} (hj : j ≠ pos) : abcU L zs (pos + 1) j = abcU L zs pos j := by
  unfold abcU
  by_cases h1 : j < pos
  · simp only [h1, show j < pos + 1 by omega]
  · rw [if_neg (fun e => by omega), if_neg (fun e => by omega)]
def abcC (L : List UInt8) (zs : List Int) (pos : Nat) : List Value := [.int .i64 (abcU L zs pos 0), .int .i64 (abcU L zs pos 1), .int .i64 (abcU L zs pos 2)]
theorem abcC_set {L : List UInt8} {zs : List Int} {pos : Nat} (h : L.getD pos 0 ≠ 105) (h3 : pos < 3) : (abcC L zs pos).set pos (.int .i64 (zs.getD pos 0)) = abcC L zs (pos + 1) := by
  unfold abcC
  rw [← abcU_at (zs := zs) h]
  match pos, h3 with
  | 0, _ => rw [abcU_else (pos := 0) (j := 1) (by omega), abcU_else (pos := 0) (j := 2) (by omega)]; rfl
  | 1, _ => rw [abcU_else (pos := 1) (j := 0) (by omega), abcU_else (pos := 1) (j := 2) (by omega)]; rfl
  | 2, _ => rw [abcU_else (pos := 2) (j := 0) (by omega), abcU_else (pos := 2) (j := 1) (by omega)]; rfl
theorem abcC_same {L : List UInt8} {zs : List Int} {pos : Nat} (h : L.getD pos 0 = 105) : abcC L zs (pos + 1) = abcC L zs pos := by
  unfold abcC; rw [abcU_more h, abcU_more h, abcU_more h]
theorem abcC_get {L : List UInt8} {zs : List Int} {pos : Nat} (h3 : pos < 3) : ∃ v, (abcC L zs pos)[pos]? = some v := by
  match pos, h3 with
  | 0, _ => exact ⟨_, rfl⟩
  | 1, _ => exact ⟨_, rfl⟩
  | 2, _ => exact ⟨_, rfl⟩
theorem iter_set {w : World} {k g j : Nat} {s : ByteArray} {p : Nat} {v : Value} (h : w.heap[k]? = some (.stringIter s p)) (hg : k ≠ g) : (w.setCell ⟨g, j, none⟩ v).heap[k]? = some (.stringIter s p) := (Below.heap_setCell w ⟨g, j, none⟩ v k (by simpa using hg)).trans h

set_option maxHeartbeats 8000000 in
set_option maxRecDepth 100000 in
theorem dins_any (k : Nat) (hk : k < 25) (A : Option Addr) (n c : Nat) (vs : List Nat) (w : World) (hn : (lettT (k : Int)).length = n) (hl : Hid (vs.length = n)) (hS : Hid (Sees w w.heap.size A (ucells (vs.map fun (v : Nat) => (v : Int))))) (hb : Hid (∀ j, j < n → (vs.getD j 0 : Nat) < 18446744073709551616 ∧ ((lettT (k : Int)).getD j 0 ≠ 105 → (vs.getD j 0 : Nat) ≤ 2147483647))) (hT : Hid (Synt w)) :
    Calls Tryz.prog 67 #[.int .i64 (k : Int), .slice A n c] w fun e w' => e = .returned (iv (insU k vs).op (insU k vs).a (insU k vs).b (insU k vs).c (insU k vs).imm) ∧ Below w.heap.size w w' := by
  obtain ⟨W, hW, hbW, hsz, R0, R1, R2⟩ := three_boxes w [.int .i64 0, .int .i64 0, .int .i64 0, .int .i64 0, .int .u64 0] [.int .i64 (k : Int), .int .i64 0, .int .i64 0, .int .i64 0, .int .u64 0] [.int .i64 0, .int .i64 0, .int .i64 0] 44 44 77
  have hSW := hT.out.below hbW
  obtain ⟨_, s1⟩ := hSW k hk
  have hlt3 := lett_len (k : Int)
  have hasc := lett_asc (k : Int)
  have hfin := insU_letters hk vs
  obtain ⟨zs, ezs⟩ : ∃ zs, (vs.map fun (v : Nat) => (v : Int)) = zs := ⟨_, rfl⟩
  have hzl : zs.length = n := by rw [← ezs, List.length_map]; exact hl.out
  have hzb : ∀ j, j < n → 0 ≤ zs.getD j 0 ∧ zs.getD j 0 < 18446744073709551616 ∧ ((lettT (k : Int)).getD j 0 ≠ 105 → zs.getD j 0 ≤ 2147483647) := fun j hj => by
    have e : zs.getD j 0 = ((vs.getD j 0 : Nat) : Int) := by
      rw [← ezs, List.getD_eq_getElem?_getD, List.getD_eq_getElem?_getD, List.getElem?_map]
      cases vs[j]? <;> rfl
    have := hb.out j hj
    rw [e]
    exact ⟨by omega, by omega, fun h => by have := this.2 h; omega⟩
  rw [ezs] at hfin hS
  obtain ⟨L, eL⟩ : ∃ L, lettT (k : Int) = L := ⟨_, rfl⟩
  rw [eL] at hn s1 hlt3 hasc hfin hzb
  have hit0 := World.iter_heap W ⟨L.toArray⟩ 0
  have hbI := hide (show Below w.heap.size w (W.iter ⟨L.toArray⟩ 0) from hbW.alloc hbW.size _)
  have R0I := hide (show Row (W.iter ⟨L.toArray⟩ 0) w.heap.size 44 [.int .i64 0, .int .i64 0, .int .i64 0, .int .i64 0, .int .u64 0] from R0.alloc _)
  have R1I := hide (show Row (W.iter ⟨L.toArray⟩ 0) (w.heap.size + 1) 44 [.int .i64 (k : Int), .int .i64 0, .int .i64 0, .int .i64 0, .int .u64 (immU L zs 0)] from R1.alloc _)
  have R2I := hide (show Row (W.iter ⟨L.toArray⟩ 0) (w.heap.size + 1 + 1) 77 (abcC L zs 0) from R2.alloc _)
  have hk25 : (k : Int) < 25 := by omega
  have hk0 : (0 : Int) ≤ (k : Int) := by omega
  have HN := hide hn; have HL3 := hide hlt3; have HASC := hide hasc; have HFIN := hide hfin; have HZL := hide hzl; have HZB := hide hzb; have HW := hide hW; have HSZ := hide hsz
  clear hn hlt3 hasc hfin hzl hzb hW hsz R0 R1 R2 hbW hSW ezs eL
  go_enter Tryz.func67, Tryz.ntmps67
  go_upto_region 3 with (fail)
  rw [HW.out]
  clear HW
  go_wp2
  go_loopw [7, 8] (fun _ _ wr => ∃ pos : Nat, Hid (pos ≤ L.length) ∧ wr.heap[W.heap.size]? = some (.stringIter ⟨L.toArray⟩ pos) ∧ Hid (Row wr w.heap.size 44 [.int .i64 0, .int .i64 0, .int .i64 0, .int .i64 0, .int .u64 0]) ∧
      Hid (Row wr (w.heap.size + 1) 44 [.int .i64 (k : Int), .int .i64 0, .int .i64 0, .int .i64 0, .int .u64 (immU L zs pos)]) ∧ Hid (Row wr (w.heap.size + 1 + 1) 77 (abcC L zs pos)) ∧ Hid (Below w.heap.size w wr)) (fun _ _ wr => L.length - wr.iterPos W.heap.size)
  case atStart => exact ⟨0, hide (Nat.zero_le _), hit0, R0I, R1I, R2I, hbI⟩
  case round =>
    clear hit0
    obtain ⟨pos, hp, hit, hR0, hR1, hR2, hB⟩ := hrel
    by_cases hlt : pos < L.length
    · have hlt' : pos < (⟨L.toArray⟩ : ByteArray).size := by rw [str_size]; exact hlt
      obtain ⟨c', ec⟩ : ∃ c, L[pos]? = some c := ⟨L[pos], List.getElem?_eq_getElem hlt⟩
      have hc128 := HASC.out pos c' ec
      have hcp : (⟨L.toArray⟩ : ByteArray)[pos]'hlt' = c' := by
        have := (List.getElem?_eq_some_iff.1 ec).2
        rw [← this]; rfl
      obtain ⟨ci, eci⟩ : ∃ ci : Int, ci = (c'.toNat : Int) := ⟨_, rfl⟩
      have hcd : L.getD pos 0 = c' := by rw [List.getD_eq_getElem?_getD, ec]; rfl
      have hpn : pos < n := by rw [← HN.out]; exact hlt
      have hp3 : pos < 3 := by have := HL3.out; omega
      have hzp : zs[pos]? = some (zs.getD pos 0) := by rw [List.getD_eq_getElem?_getD, List.getElem?_eq_getElem (by rw [HZL.out]; exact hpn)]; rfl
      have hzb := HZB.out pos hpn
      obtain ⟨z, ez⟩ : ∃ z, zs.getD pos 0 = z := ⟨_, rfl⟩
      rw [ez] at hzp hzb
      obtain ⟨w2, hnx, hit2, hR02, hR12, hR22, hB2, hs2⟩ : ∃ w2, (∀ ty, (Instr.next (.pointer (some ⟨W.heap.size, 0, none⟩)) true ty).run Tryz.prog wr = .ok (.tuple #[.bool true, .int .i64 pos, .int .i32 ci]) w2) ∧ Hid (w2.heap[W.heap.size]? = some (.stringIter ⟨L.toArray⟩ (pos + 1))) ∧
          Hid (Row w2 w.heap.size 44 [.int .i64 0, .int .i64 0, .int .i64 0, .int .i64 0, .int .u64 0]) ∧ Hid (Row w2 (w.heap.size + 1) 44 [.int .i64 (k : Int), .int .i64 0, .int .i64 0, .int .i64 0, .int .u64 (immU L zs pos)]) ∧ Hid (Row w2 (w.heap.size + 1 + 1) 77 (abcC L zs pos)) ∧ Hid (Below w.heap.size w w2) ∧ Hid (w2.heap.size = wr.heap.size) := by
        refine ⟨wr.iterAt W.heap.size ⟨L.toArray⟩ (pos + 1), fun ty => ?_, Lib.iterAt_heap _ _ _ _ _ hit, hR0.out.iterAt hit _, hR1.out.iterAt hit _, hR2.out.iterAt hit _, Lib.below_iterAt hB.out (by have := HSZ.out; omega) _ _, Lib.iterAt_size _ _ _ _⟩
        have := Lib.run_next_ascii_at (P := Tryz.prog) wr W.heap.size ⟨L.toArray⟩ pos ty hit hlt' (by rw [hcp]; exact hc128)
        rw [hcp, ← eci] at this
        exact this
      obtain ⟨bn, on, eA, hbn, cn⟩ : ∃ b off, A = some ⟨b, off, none⟩ ∧ b < w.heap.size ∧ w2.cell? ⟨b, off + pos, none⟩ = some (.int .u64 z) := hS.out.below hB2.out pos (.int .u64 z) (by unfold ucells; rw [List.getElem?_map, hzp]; rfl)
      subst eA
      have hpnz : (pos : Int) < (n : Int) := by omega
      have hp3z : (pos : Int) < 3 := by omega
      have hit0r := hit
      have HIT := hide hit0r
      have hWn1 : W.heap.size ≠ w.heap.size + 1 := by have := HSZ.out; omega
      have hWn2 : W.heap.size ≠ w.heap.size + 1 + 1 := by have := HSZ.out; omega
      have HLT := hide hlt; have HEZ := hide ez; have HCD := hide hcd; have HZBB := hide hzb
      by_cases h105 : c' = 105
      · have hci : ci = 105 := by rw [eci, h105]; rfl
        subst hci
        have x4 := hR12.out.cell (k := 4) rfl
        have y4 := hR12.out.free 4
        have hd105 : L.getD pos 0 = 105 := by rw [hcd]; exact h105
        have R1n := hide (show Row (w2.setCell ⟨w.heap.size + 1, 4, none⟩ (.int .u64 z)) (w.heap.size + 1) 44 [.int .i64 (k : Int), .int .i64 0, .int .i64 0, .int .i64 0, .int .u64 (immU L zs (pos + 1))] by
          have e : immU L zs (pos + 1) = z := by
            show (if L.getD pos 0 = 105 then zs.getD pos 0 else immU L zs pos) = z
            rw [if_pos hd105, ez]
          rw [e]
          exact hR12.out.set_ 4 (.int .u64 z))
        have R0n := hide (hR02.out.far (p := ⟨w.heap.size + 1, 4, none⟩) (by simp) (.int .u64 z))
        have R2n := hide (show Row (w2.setCell ⟨w.heap.size + 1, 4, none⟩ (.int .u64 z)) (w.heap.size + 1 + 1) 77 (abcC L zs (pos + 1)) by rw [abcC_same hd105]; exact hR22.out.far (p := ⟨w.heap.size + 1, 4, none⟩) (by simp) (.int .u64 z))
        have Itn := hide (iter_set (j := 4) (v := .int .u64 z) hit2.out hWn1)
        have HBn := hide (hB2.out.setCell (p := ⟨w.heap.size + 1, 4, none⟩) (by simp) (.int .u64 z))
        clear hit hlt hlt' ec hcp eci hcd hpn hzp ez hbn h105 hd105 hc128 hzb hit0r
        go_wp2_with fail
        go_roundw
        case rel => exact ⟨pos + 1, hide (by have := HLT.out; omega), Itn.out, R0n, R1n, R2n, HBn⟩
        case measure =>
          simp only [World.iterPos, Itn.out, HIT.out]
          have := HLT.out
          omega
      · have hci : (ci == 105) = false := by rw [beq_eq_false_iff_ne, eci]; exact fun e => h105 ((byte_z c' 105 (by omega)).1 e)
        have hd105 : L.getD pos 0 ≠ 105 := by rw [hcd]; exact h105
        have hz0 := hzb.1
        have hz1 := hzb.2.2 hd105
        obtain ⟨va, hva⟩ := abcC_get (L := L) (zs := zs) hp3
        have a1 := hR22.out.cell hva
        have a2 := hR22.out.free pos
        have hset := abcC_set (zs := zs) hd105 hp3
        rw [ez] at hset
        have R2n := hide (show Row (w2.setCell ⟨w.heap.size + 1 + 1, pos, none⟩ (.int .i64 z)) (w.heap.size + 1 + 1) 77 (abcC L zs (pos + 1)) by rw [← hset]; exact hR22.out.set_ pos (.int .i64 z))
        have R1n := hide (show Row (w2.setCell ⟨w.heap.size + 1 + 1, pos, none⟩ (.int .i64 z)) (w.heap.size + 1) 44 [.int .i64 (k : Int), .int .i64 0, .int .i64 0, .int .i64 0, .int .u64 (immU L zs (pos + 1))] by
          have e : immU L zs (pos + 1) = immU L zs pos := by
            show (if L.getD pos 0 = 105 then zs.getD pos 0 else immU L zs pos) = _
            rw [if_neg hd105]
          rw [e]
          exact hR12.out.far (p := ⟨w.heap.size + 1 + 1, pos, none⟩) (by simp) (.int .i64 z))
        have R0n := hide (hR02.out.far (p := ⟨w.heap.size + 1 + 1, pos, none⟩) (by simp; omega) (.int .i64 z))
        have Itn := hide (iter_set (j := pos) (v := .int .i64 z) hit2.out hWn2)
        have HBn := hide (hB2.out.setCell (p := ⟨w.heap.size + 1 + 1, pos, none⟩) (by simp; omega) (.int .i64 z))
        clear hit hlt hlt' ec hcp eci hcd hpn hzp ez hbn h105 hd105 hc128 hzb hit0r hset hva
        go_wp2_with fail
        go_roundw
        case rel => exact ⟨pos + 1, hide (by have := HLT.out; omega), Itn.out, R0n, R1n, R2n, HBn⟩
        case measure =>
          simp only [World.iterPos, Itn.out, HIT.out]
          have := HLT.out
          omega
    · have hnx : ∀ ty, (Instr.next (.pointer (some ⟨W.heap.size, 0, none⟩)) true ty).run Tryz.prog wr = _ := fun ty => Lib.run_next_end_at wr W.heap.size ⟨L.toArray⟩ pos ty hit (by rw [str_size]; exact hlt)
      have hpL : pos = L.length := by have := hp.out; omega
      have HPL := hide hpL
      obtain ⟨va, hva⟩ : ∃ va, abcU L zs pos 0 = va := ⟨_, rfl⟩
      obtain ⟨vb, hvb⟩ : ∃ vb, abcU L zs pos 1 = vb := ⟨_, rfl⟩
      obtain ⟨vc, hvc⟩ : ∃ vc, abcU L zs pos 2 = vc := ⟨_, rfl⟩
      obtain ⟨vi, hvi⟩ : ∃ vi, immU L zs pos = vi := ⟨_, rfl⟩
      have hF : insU k vs = ⟨k, va, vb, vc, vi⟩ := by rw [HFIN.out, ← hpL, hva, hvb, hvc, hvi]
      have hR2c : Row wr (w.heap.size + 1 + 1) 77 [.int .i64 va, .int .i64 vb, .int .i64 vc] := by have := hR2.out; unfold abcC at this; rw [hva, hvb, hvc] at this; exact this
      have hR1c : Row wr (w.heap.size + 1) 44 [.int .i64 (k : Int), .int .i64 0, .int .i64 0, .int .i64 0, .int .u64 vi] := by have := hR1.out; rw [hvi] at this; exact this
      have HF := hide hF; have R2c := hide hR2c; have R1c := hide hR1c
      have a0 := hR2c.cell (k := 0) rfl
      have a1 := hR2c.cell (k := 1) rfl
      have a2 := hR2c.cell (k := 2) rfl
      have x1 := hR1c.cell (k := 1) rfl
      have x2 := hR1c.cell (k := 2) rfl
      have x3 := hR1c.cell (k := 3) rfl
      have y1 := hR1c.free 1
      have y2 := hR1c.free 2
      have y3 := hR1c.free 3
      clear hlt hpL hva hvb hvc hvi hF hR2c hR1c
      go_upto_region 9 with (fail)
      go_region
      have Rx : Row (((wr.setCell ⟨w.heap.size + 1, 1, none⟩ (.int .i64 va)).setCell ⟨w.heap.size + 1, 2, none⟩ (.int .i64 vb)).setCell ⟨w.heap.size + 1, 3, none⟩ (.int .i64 vc)).drew (w.heap.size + 1) 44 [.int .i64 (k : Int), .int .i64 va, .int .i64 vb, .int .i64 vc, .int .u64 vi] :=
        (((R1c.out.set_ 1 (.int .i64 va)).set_ 2 (.int .i64 vb)).set_ 3 (.int .i64 vc)).drew
      have Rr : Row (((wr.setCell ⟨w.heap.size + 1, 1, none⟩ (.int .i64 va)).setCell ⟨w.heap.size + 1, 2, none⟩ (.int .i64 vb)).setCell ⟨w.heap.size + 1, 3, none⟩ (.int .i64 vc)).drew w.heap.size 44 [.int .i64 0, .int .i64 0, .int .i64 0, .int .i64 0, .int .u64 0] :=
        (((hR0.out.far (p := ⟨w.heap.size + 1, 1, none⟩) (by simp) _).far (p := ⟨w.heap.size + 1, 2, none⟩) (by simp) _).far (p := ⟨w.heap.size + 1, 3, none⟩) (by simp) _).drew
      have Bb : Below w.heap.size w (((wr.setCell ⟨w.heap.size + 1, 1, none⟩ (.int .i64 va)).setCell ⟨w.heap.size + 1, 2, none⟩ (.int .i64 vb)).setCell ⟨w.heap.size + 1, 3, none⟩ (.int .i64 vc)).drew :=
        (((hB.out.setCell (p := ⟨w.heap.size + 1, 1, none⟩) (by simp) _).setCell (p := ⟨w.heap.size + 1, 2, none⟩) (by simp) _).setCell (p := ⟨w.heap.size + 1, 3, none⟩) (by simp) _).drew
      generalize (((wr.setCell ⟨w.heap.size + 1, 1, none⟩ (.int .i64 va)).setCell ⟨w.heap.size + 1, 2, none⟩ (.int .i64 vb)).setCell ⟨w.heap.size + 1, 3, none⟩ (.int .i64 vc)).drew = w3 at Rx Rr Bb ⊢
      have c0 := Rx.cell (k := 0) rfl
      have c1 := Rx.cell (k := 1) rfl
      have c2 := Rx.cell (k := 2) rfl
      have c3 := Rx.cell (k := 3) rfl
      have c4 := Rx.cell (k := 4) rfl
      have e0 := Rr.cell (k := 0) rfl
      have e1 := Rr.cell (k := 1) rfl
      have e2 := Rr.cell (k := 2) rfl
      have e3 := Rr.cell (k := 3) rfl
      have e4 := Rr.cell (k := 4) rfl
      have d0 := Rr.free 0
      have d1 := Rr.free 1
      have d2 := Rr.free 2
      have d3 := Rr.free 3
      have d4 := Rr.free 4
      go_wp2_with fail
      have Rf : Row (((((w3.setCell ⟨w.heap.size, 0, none⟩ (.int .i64 (k : Int))).setCell ⟨w.heap.size, 1, none⟩ (.int .i64 va)).setCell ⟨w.heap.size, 2, none⟩ (.int .i64 vb)).setCell ⟨w.heap.size, 3, none⟩ (.int .i64 vc)).setCell ⟨w.heap.size, 4, none⟩ (.int .u64 vi)) w.heap.size 44 [.int .i64 (k : Int), .int .i64 va, .int .i64 vb, .int .i64 vc, .int .u64 vi] :=
        ((((Rr.set_ 0 (.int .i64 (k : Int))).set_ 1 (.int .i64 va)).set_ 2 (.int .i64 vb)).set_ 3 (.int .i64 vc)).set_ 4 (.int .u64 vi)
      have Bf : Below w.heap.size w (((((w3.setCell ⟨w.heap.size, 0, none⟩ (.int .i64 (k : Int))).setCell ⟨w.heap.size, 1, none⟩ (.int .i64 va)).setCell ⟨w.heap.size, 2, none⟩ (.int .i64 vb)).setCell ⟨w.heap.size, 3, none⟩ (.int .i64 vc)).setCell ⟨w.heap.size, 4, none⟩ (.int .u64 vi)) :=
        ((((Bb.setCell (p := ⟨w.heap.size, 0, none⟩) (by simp) _).setCell (p := ⟨w.heap.size, 1, none⟩) (by simp) _).setCell (p := ⟨w.heap.size, 2, none⟩) (by simp) _).setCell (p := ⟨w.heap.size, 3, none⟩) (by simp) _).setCell (p := ⟨w.heap.size, 4, none⟩) (by simp) _
      generalize (((((w3.setCell ⟨w.heap.size, 0, none⟩ (.int .i64 (k : Int))).setCell ⟨w.heap.size, 1, none⟩ (.int .i64 va)).setCell ⟨w.heap.size, 2, none⟩ (.int .i64 vb)).setCell ⟨w.heap.size, 3, none⟩ (.int .i64 vc)).setCell ⟨w.heap.size, 4, none⟩ (.int .u64 vi)) = w4 at Rf Bf ⊢
      have f0 := Rf.cell (k := 0) rfl
      have f1 := Rf.cell (k := 1) rfl
      have f2 := Rf.cell (k := 2) rfl
      have f3 := Rf.cell (k := 3) rfl
      have f4 := Rf.cell (k := 4) rfl
      rw [HF.out]
      exact bodyPost_ret (v := iv k va vb vc vi) (by simp [iv, results, Tryz.results67, go_sem, f0, f1, f2, f3, f4]) rfl ⟨rfl, Bf⟩
end Go.Proofs.YtlhaendgdeflkaaGreatDoor
end

section
/-
  The program's operations (chapter 7): the map from the names to their operations. Conditions: the table of the names lies as it is laid.
-/
namespace Go.Proofs.YtlhaendgdeflkaaGreatDoor
open Go.RowKit Go.WideMaps Go.Maps

theorem wrap64_fit (n : Int) (h : -9223372036854775808 ≤ n ∧ n ≤ 9223372036854775807) : wrap64 n = n := by unfold wrap64; omega
theorem strK : Keyed Tryz.prog 9 := string_keyed Tryz.underlying9
def OpsD : Nat → DataW Unit
  | 0 => .map []
  | k + 1 => (OpsD k).put (.string (nameT (k : Int))) (.lit (.int .i64 (k : Int)))
theorem OpsD_zero : OpsD 0 = .map [] := rfl
theorem OpsD_succ (k : Nat) : OpsD (k + 1) = (OpsD k).put (.string (nameT (k : Int))) (.lit (.int .i64 (k : Int))) := rfl
theorem ops_map : ∀ k, IsMap (OpsD k)
  | 0 => isMap_empty
  | k + 1 => (ops_map k).put _ _
theorem name_len8 : ∀ k : Fin 25, (nameT (k.val : Int)).length ≤ 8 := by decide
theorem key_str {l : List UInt8} (h : l.length ≤ maxLen) : keyOf Tryz.prog 9 (.string ⟨l.toArray⟩) = some (.string l) := by
  have := keyOf_string_mk Tryz.underlying9 (s := ⟨l.toArray⟩) (by rw [str_size]; exact h)
  simpa using this
theorem isKey_str {l : List UInt8} (h : l.length ≤ maxLen) : WideAt.IsKeyLit (.string l) := strK.key (key_str h)
theorem name_max {k : Nat} (hk : k < 25) : (nameT (k : Int)).length ≤ maxLen := Nat.le_trans (name_len8 ⟨k, hk⟩) (by unfold maxLen; omega)
theorem ops_hit {k : Nat} : ∀ {K : Nat}, k < K → K ≤ 25 → has (OpsD K) (.string (nameT (k : Int))) = true ∧ ∀ z, (OpsD K).atKey (.string (nameT (k : Int))) z = .lit (.int .i64 (k : Int))
  | 0, h, _ => absurd h (by omega)
  | K + 1, h, hK => by
    by_cases e : k = K
    · subst e
      exact ⟨has_put_same (ops_map k) (isKey_str (name_max (by omega))) _, fun z => atKey_put_same (ops_map k) (isKey_str (name_max (by omega))) _ z⟩
    · have hne : Lit.string (nameT (k : Int)) ≠ Lit.string (nameT (K : Int)) := fun he => by
        have := name_inj ⟨k, by omega⟩ ⟨K, by omega⟩ (by injection he)
        exact e (by injection this)
      obtain ⟨h1, h2⟩ := ops_hit (K := K) (show k < K by omega) (by omega)
      exact ⟨(has_put_other hne _).trans h1, fun z => (atKey_put_other hne _ z).trans (h2 z)⟩
theorem ops_miss {l : List UInt8} (hl : ∀ k : Nat, k < 25 → nameT (k : Int) ≠ l) : ∀ {K : Nat}, K ≤ 25 → has (OpsD K) (.string l) = false
  | 0, _ => rfl
  | K + 1, hK => (has_put_other (fun he => hl K (by omega) (by injection he with he; exact he.symm)) _).trans (ops_miss hl (K := K) (by omega))
/-- The map of the operations lies in block b. -/
def OpsAt (w : World) (b : Nat) : Prop := w.ownsMap Tryz.prog 9 (plainElem Tryz.prog 3) b 25 (OpsD 25)

def syntA : Array Value := ((List.range 25).flatMap fun k => [.string ⟨(nameT (k : Int)).toArray⟩, .string ⟨(lettT (k : Int)).toArray⟩]).toArray
theorem syntA_at : ∀ k : Nat, k < 25 → syntA[k * 2]? = some (.string ⟨(nameT (k : Int)).toArray⟩) ∧ syntA[k * 2 + 1]? = some (.string ⟨(lettT (k : Int)).toArray⟩)
  | 0, _ => ⟨rfl, rfl⟩
  | 1, _ => ⟨rfl, rfl⟩
  | 2, _ => ⟨rfl, rfl⟩
  | 3, _ => ⟨rfl, rfl⟩
  | 4, _ => ⟨rfl, rfl⟩
  | 5, _ => ⟨rfl, rfl⟩
  | 6, _ => ⟨rfl, rfl⟩
  | 7, _ => ⟨rfl, rfl⟩
  | 8, _ => ⟨rfl, rfl⟩
  | 9, _ => ⟨rfl, rfl⟩
  | 10, _ => ⟨rfl, rfl⟩
  | 11, _ => ⟨rfl, rfl⟩
  | 12, _ => ⟨rfl, rfl⟩
  | 13, _ => ⟨rfl, rfl⟩
  | 14, _ => ⟨rfl, rfl⟩
  | 15, _ => ⟨rfl, rfl⟩
  | 16, _ => ⟨rfl, rfl⟩
  | 17, _ => ⟨rfl, rfl⟩
  | 18, _ => ⟨rfl, rfl⟩
  | 19, _ => ⟨rfl, rfl⟩
  | 20, _ => ⟨rfl, rfl⟩
  | 21, _ => ⟨rfl, rfl⟩
  | 22, _ => ⟨rfl, rfl⟩
  | 23, _ => ⟨rfl, rfl⟩
  | 24, _ => ⟨rfl, rfl⟩
  | k + 25, h => absurd h (by omega)

theorem synt_cell {w : World} (h : Synt w) (j : Nat) (hj : j < 50) : ∃ v, syntA[j]? = some v ∧ w.cell? ⟨0, j, none⟩ = some v := by
  obtain ⟨a, b⟩ := syntA_at (j / 2) (by omega)
  obtain ⟨c, d⟩ := h (j / 2) (by omega)
  rcases Nat.mod_two_eq_zero_or_one j with e | e
  · have : j / 2 * 2 = j := by omega
    rw [this] at a c; exact ⟨_, a, c⟩
  · have : j / 2 * 2 + 1 = j := by omega
    rw [this] at b d; exact ⟨_, b, d⟩
theorem syntA_size : syntA.size = 50 := rfl
theorem synt_load {w : World} (h : Synt w) : (loadCellsFrom ⟨0, 0, none⟩ 0 50 #[]).run Tryz.prog w = .ok syntA w := by
  have := run_loadCells_list (P := Tryz.prog) w ⟨0, 0, none⟩ syntA.toList (fun j v hv => by
    have hadd : (⟨0, 0, none⟩ : Addr).add j = ⟨0, j, none⟩ := by unfold Addr.add; split <;> simp_all
    have hj : j < 50 := (List.getElem?_eq_some_iff.1 hv).1
    obtain ⟨v', e1, e2⟩ := synt_cell h j hj
    rw [hadd, e2]
    have : syntA.toList[j]? = some v' := by simpa using e1
    exact this.symm.trans hv)
  have hl : syntA.toList.length = 50 := rfl
  rw [hl] at this
  simpa [loadCells] using this

theorem synt_loadAt {w : World} (h : Synt w) : (Instr.loadAt 76 (.pointer (some ⟨0, 0, none⟩))).run Tryz.prog w = .ok (.agg syntA) w := by
  have hl := synt_load h
  have ha : (isAgg 76).run Tryz.prog w = .ok true w := by kernel_rfl
  have hz : (sizeOf 76).run Tryz.prog w = .ok 50 w := by kernel_rfl
  simp only [Instr.loadAt, Instr.sureAddr, loadVar, loadCells, Sem.run_bind, Sem.run_pure, Result.andThen, ha, hz, hl, if_true]
theorem wpList_load_arr {P : Program} {w : World} {ops : Array Oper} {rest : List Oper} {o : Oper} {a : Act} {Q : Exit → Act → World → Prop} (t : TypeId) (x : Operand) (hop : o.op = .load t x) (hg : o.guard = none) (c : Array Value) (p : Value) (hp : a.eval x = p)
    (hrun : (Instr.loadAt t p).run P w = .ok (.agg c) w) (hK : wpList P ops Q rest (a.put o.dst (.agg c)) w) : wpList P ops Q (o :: rest) a w := by
  refine wpList_plain hg fun K' hK' => ?_
  unfold Oper.wp
  simp only [hop, hp, execOp, Sem.run_bind, hrun, Result.andThen, Sem.run_pure]
  exact hK' _ _ hK
theorem synt_index : ∀ (k : Nat), k < 25 → ∀ W, (Instr.index 76 (.agg syntA) (.int .i64 (k : Int))).run Tryz.prog W = .ok (.agg #[.string ⟨(nameT (k : Int)).toArray⟩, .string ⟨(lettT (k : Int)).toArray⟩]) W
  | 0, _ => fun W => by kernel_rfl
  | 1, _ => fun W => by kernel_rfl
  | 2, _ => fun W => by kernel_rfl
  | 3, _ => fun W => by kernel_rfl
  | 4, _ => fun W => by kernel_rfl
  | 5, _ => fun W => by kernel_rfl
  | 6, _ => fun W => by kernel_rfl
  | 7, _ => fun W => by kernel_rfl
  | 8, _ => fun W => by kernel_rfl
  | 9, _ => fun W => by kernel_rfl
  | 10, _ => fun W => by kernel_rfl
  | 11, _ => fun W => by kernel_rfl
  | 12, _ => fun W => by kernel_rfl
  | 13, _ => fun W => by kernel_rfl
  | 14, _ => fun W => by kernel_rfl
  | 15, _ => fun W => by kernel_rfl
  | 16, _ => fun W => by kernel_rfl
  | 17, _ => fun W => by kernel_rfl
  | 18, _ => fun W => by kernel_rfl
  | 19, _ => fun W => by kernel_rfl
  | 20, _ => fun W => by kernel_rfl
  | 21, _ => fun W => by kernel_rfl
  | 22, _ => fun W => by kernel_rfl
  | 23, _ => fun W => by kernel_rfl
  | 24, _ => fun W => by kernel_rfl
  | k + 25, h => absurd h (by omega)

set_option maxHeartbeats 8000000 in
set_option maxRecDepth 100000 in
theorem operations_any (w : World) (hT : Synt w) :
    Calls Tryz.prog 20 #[] w fun e w' => ∃ b, e = .returned (.map (some b)) ∧ w.heap.size ≤ b ∧ OpsAt w' b ∧ Below w.heap.size w w' := by
  have hmm := @run_makeMap Tryz.prog
  have HT := hide hT
  clear hT
  have hsl : Hid (∀ W, Synt W → (Instr.loadAt 76 (.pointer (some ⟨0, 0, none⟩))).run Tryz.prog W = .ok (.agg syntA) W) := hide (fun W h => synt_loadAt h)
  have hsi : Hid (∀ k : Nat, k < 25 → ∀ W, (Instr.index 76 (.agg syntA) (.int .i64 (k : Int))).run Tryz.prog W = .ok (.agg #[.string ⟨(nameT (k : Int)).toArray⟩, .string ⟨(lettT (k : Int)).toArray⟩]) W) := hide synt_index
  generalize syntA = SA at hsl hsi
  have hfin : Hid (∀ W b, W.ownsMap Tryz.prog 9 (plainElem Tryz.prog 3) b 25 (OpsD 25) → OpsAt W b) := hide (fun _ _ h => h)
  have hD0 : Hid (OpsD 0 = .map []) := hide OpsD_zero
  have hDs : Hid (∀ k : Nat, OpsD (k + 1) = (OpsD k).put (.string (nameT (k : Int))) (.lit (.int .i64 (k : Int)))) := hide OpsD_succ
  generalize OpsD = DD at hfin hD0 hDs
  go_enter Tryz.func20, Tryz.ntmps20
  go_upto_region 2 with (fail)
  have hS : Synt (w.alloc (.map #[] 0)) := HT.out.below ((Below.refl _ _).alloc (Nat.le_refl _) _)
  have hown : (w.alloc (.map #[] 0)).ownsMap Tryz.prog 9 (plainElem Tryz.prog 3) w.heap.size 0 (DD 0) := by rw [hD0.out]; exact World.ownsMap_made w Tryz.prog _ _
  have hB : Below w.heap.size w (w.alloc (.map #[] 0)) := (Below.refl _ _).alloc (Nat.le_refl _) _
  generalize w.alloc (.map #[] 0) = W at hS hown hB ⊢
  have hld := hsl.out W hS
  clear hS
  refine wp_region_lit ?_
  refine wpList_load_arr _ _ rfl rfl SA (.pointer (some ⟨0, 0, none⟩)) rfl hld ?_
  clear hld
  go_upto_region 3 with (fail)
  have hown := hide hown
  have hB := hide hB
  go_loopw [6] (fun iv wr => ∃ k : Nat, k ≤ 25 ∧ iv = .int .i64 (k : Int) ∧ Hid (wr.ownsMap Tryz.prog 9 (plainElem Tryz.prog 3) w.heap.size k (DD k)) ∧ Hid (Below w.heap.size w wr)) (fun iv _ => 25 - (intOf iv).toNat)
  case atStart => exact ⟨0, by omega, rfl, hown, hB⟩
  case round =>
    obtain ⟨k, hk, rfl, HO, HB⟩ := hrel
    by_cases hlt : k < 25
    · have hltz : (k : Int) < 25 := by omega
      have hix := hsi.out k hlt
      have hkey := key_str (name_max hlt)
      have hDk := hDs.out k
      obtain ⟨nm, enm⟩ : ∃ nm, nameT (k : Int) = nm := ⟨_, rfl⟩
      obtain ⟨lt, elt⟩ : ∃ lt, lettT (k : Int) = lt := ⟨_, rfl⟩
      rw [enm] at hix hkey hDk
      rw [elt] at hix
      clear enm elt
      go_upto_region 5 with (fail)
      have HO1 := HO.out.alloc (.cells #[.string ⟨nm.toArray⟩, .string ⟨lt.toArray⟩] 75)
      have HB1 := HB.out.alloc HB.out.size (.cells #[.string ⟨nm.toArray⟩, .string ⟨lt.toArray⟩] 75)
      have R0 := Row.new wr 75 [.string ⟨nm.toArray⟩, .string ⟨lt.toArray⟩]
      have R1 : Row (wr.alloc (.cells #[.string ⟨nm.toArray⟩, .string ⟨lt.toArray⟩] 75)) wr.heap.size 75 [.string ⟨nm.toArray⟩, .string ⟨lt.toArray⟩] := R0
      generalize wr.alloc (.cells #[.string ⟨nm.toArray⟩, .string ⟨lt.toArray⟩] 75) = w1 at HO1 HB1 R1 ⊢
      have c0 := R1.cell (k := 0) rfl
      have hkz : (Lit.int .i64 (k : Int)).wf = true := by
        have := wrap64_wf (k : Int)
        rwa [wrap64_fit (k : Int) ⟨by omega, by omega⟩] at this
      have HLT := hide hlt
      clear hix R1 R0 HO
      go_wp2_with (at_mapUpdate; refine wpList_mapUpdate_own _ rfl _ _ _ 57 rfl 9 3 strK Tryz.underlying57 _ w.heap.size k (DD k) rfl HO1 (by have := HLT.out; unfold maxLen; omega) _ _ _ rfl rfl hkey _ [] (plainElem_int Tryz.underlying3 hkz) ?_)
      intro w2 hown2 hgr
      have HO2 := hide (show w2.ownsMap Tryz.prog 9 (plainElem Tryz.prog 3) w.heap.size (k + 1) (DD (k + 1)) by rw [hDk]; exact hown2)
      have HB2 := hide (show Below w.heap.size w w2 from HB1.grown hgr HB1.size (fun j hj => by cases hj; exact Nat.le_refl _))
      clear hown2 hgr HO1 HB1 HB
      go_wp2
      go_roundw
      case rel => exact ⟨k + 1, by have := HLT.out; omega, by go_num, HO2, HB2⟩
      case measure => simp [intOf]; omega
    · have FIN := hide (show OpsAt wr w.heap.size by
        refine hfin.out _ _ ?_
        have := HO.out
        rw [show k = 25 by omega] at this
        exact this)
      go_wp2_with fail
      go_ret
      exact ⟨_, rfl, Nat.le_refl _, FIN.out, HB.out⟩
end Go.Proofs.YtlhaendgdeflkaaGreatDoor
end

section
/-
  The program's reader (chapter 7): what its block, its functions' row and their rows are; how they stay and grow. Conditions: none but those of the types.
-/
namespace Go.Proofs.YtlhaendgdeflkaaGreatDoor
open Go.RowKit

def Off (row : Option Nat) (a : Option Addr) : Prop := ∀ p, a = some p → some p.block ≠ row
theorem Off.none_ (a : Option Addr) : Off none a := fun p _ e => by cases e
theorem own_kept {w w' : World} {base e size n k c : Nat} {a : Option Addr} {xs : List Value} {row : Option Nat} (h : w.ownsRow base e size (.slice a k c) n xs) (hg : w.grownBy w' row) (ho : Off row a) : w'.ownsRow base e size (.slice a k c) n xs :=
  h.kept hg (by
    cases a with
    | none => exact .inl rfl
    | some p => exact .inr (ho p rfl))
theorem off_ty {w : World} {base e size n k c g t : Nat} {a : Option Addr} {xs : List Value} {cs : Array Value} {fr : Nat × Nat} (h : w.ownsRow base e size (.slice a k c) n xs) (hg : w.heap[g]? = some (.cells cs t fr)) (ht : t ≠ e) : Off (some g) a := by
  intro p hp he
  injection he with he
  rcases h.2 with ⟨e1, _⟩ | ⟨g', cap, cur, e1, _, hh, _⟩
  · injection e1 with e2; rw [e2] at hp; cases hp
  · injection e1 with e2
    rw [e2] at hp
    injection hp with hp
    subst hp
    rw [← he] at hg
    simp only at hg
    rw [hh] at hg
    injection hg with hg
    injection hg with _ e3
    exact ht e3.symm
/-- The block of a row that the call owns holds its type. -/
theorem own_ty {w : World} {base e size n : Nat} {v : Value} {xs : List Value} (h : w.ownsRow base e size v n xs) {g : Nat} (hv : v.ownBlock = some g) : ∃ cs fr, w.heap[g]? = some (.cells cs e fr) := by
  rcases h.2 with ⟨rfl, _⟩ | ⟨g', cap, cur, rfl, _, hh, _⟩
  · cases hv
  · injection hv with hv
    subst hv
    exact ⟨_, _, hh⟩
theorem own_n {w : World} {base e size n m c : Nat} {a : Option Addr} {xs : List Value} (h : w.ownsRow base e size (.slice a n c) m xs) : m = n := by
  rcases h.2 with ⟨e1, e2⟩ | ⟨g', cap, cur, e1, _⟩
  · injection e1 with _ e3; rw [e2, e3]
  · injection e1 with _ e3; exact e3.symm
/-- A function whose slots and code lie in rows of the call's own. -/
structure FnOwn (w : World) (base : Nat) (h : Hd) (f : Fn) : Prop where
  p : h.p = f.params
  l1 : f.slots.length = h.n1
  l2 : f.code.length = h.n2
  s : w.ownsRow base 52 2 (.slice h.a1 h.n1 h.c1) h.n1 (pcells f.slots)
  c : w.ownsRow base 44 5 (.slice h.a2 h.n2 h.c2) h.n2 (icells f.code)
theorem own_more {w : World} {base base' e size n : Nat} {v : Value} {xs : List Value} (h : w.ownsRow base e size v n xs) (hb : base' ≤ base) : w.ownsRow base' e size v n xs := by
  refine ⟨h.1, ?_⟩
  rcases h.2 with h2 | ⟨g, cap, cur, hv, hg, hr⟩
  · exact .inl h2
  · exact .inr ⟨g, cap, cur, hv, Nat.le_trans hb hg, hr⟩
section
variable {w w' : World} {base lo K K' : Nat} {h : Hd} {f : Fn} {hs : List Hd} {F : Pg} {row : Option Nat}
theorem FnOwn.kept (H : FnOwn w base h f) (hg : w.grownBy w' row) (h1 : Off row h.a1) (h2 : Off row h.a2) : FnOwn w' base h f := ⟨H.p, H.l1, H.l2, own_kept H.s hg h1, own_kept H.c hg h2⟩
theorem FnOwn.more (H : FnOwn w base h f) (hb : lo ≤ base) : FnOwn w lo h f := ⟨H.p, H.l1, H.l2, own_more H.s hb, own_more H.c hb⟩
theorem FnOwn.below (H : FnOwn w base h f) (hb : Below w.heap.size w w') : FnOwn w' base h f := ⟨H.p, H.l1, H.l2, own_below H.s hb, own_below H.c hb⟩
/-- Blocks below K. -/
def Und (K : Nat) (h : Hd) : Prop := (∀ p, h.a1 = some p → p.block < K) ∧ ∀ p, h.a2 = some p → p.block < K
theorem own_block_lt {e size n k c : Nat} {a : Option Addr} {xs : List Value} (h : w.ownsRow base e size (.slice a k c) n xs) : ∀ p, a = some p → base ≤ p.block ∧ p.block < w.heap.size := fun p hp => by
  subst hp
  exact h.lt p.block rfl
theorem FnOwn.und (H : FnOwn w base h f) : Und w.heap.size h := ⟨fun p hp => (own_block_lt H.s p hp).2, fun p hp => (own_block_lt H.c p hp).2⟩
structure Old (w : World) (lo K : Nat) (hs : List Hd) (F : Pg) : Prop where
  len : hs.length = F.length
  at_ : ∀ (k : Nat) (h : Hd) (f : Fn), hs[k]? = some h → F[k]? = some f → FnOwn w lo h f ∧ Und K h
theorem Old.nil_ : Old w lo K [] [] := ⟨rfl, fun k h f e => by simp at e⟩
theorem Old.below (H : Old w lo K hs F) (hb : Below w.heap.size w w') : Old w' lo K hs F := ⟨H.len, fun k h f e1 e2 => ⟨(H.at_ k h f e1 e2).1.below hb, (H.at_ k h f e1 e2).2⟩⟩
theorem Old.kept (H : Old w lo K hs F) (hg : w.grownBy w' row) (ho : ∀ h f, FnOwn w lo h f → Und K h → Off row h.a1 ∧ Off row h.a2) : Old w' lo K hs F :=
  ⟨H.len, fun k h f e1 e2 => ⟨(H.at_ k h f e1 e2).1.kept hg (ho h f (H.at_ k h f e1 e2).1 (H.at_ k h f e1 e2).2).1 (ho h f (H.at_ k h f e1 e2).1 (H.at_ k h f e1 e2).2).2, (H.at_ k h f e1 e2).2⟩⟩
theorem Old.snoc (H : Old w lo K hs F) (hf : FnOwn w K h f) (hlo : lo ≤ K) (hK : K ≤ w.heap.size) : Old w lo w.heap.size (hs ++ [h]) (F ++ [f]) := by
  refine ⟨by rw [List.length_append, List.length_append, H.len]; rfl, fun k h2 f2 e1 e2 => ?_⟩
  rcases Nat.lt_or_ge k hs.length with h1 | h1
  · rw [List.getElem?_append_left h1] at e1
    rw [List.getElem?_append_left (by rw [← H.len]; exact h1)] at e2
    have := H.at_ k h2 f2 e1 e2
    exact ⟨this.1, fun p hp => Nat.lt_of_lt_of_le (this.2.1 p hp) hK, fun p hp => Nat.lt_of_lt_of_le (this.2.2 p hp) hK⟩
  · rw [List.getElem?_append_right h1] at e1
    rw [List.getElem?_append_right (by rw [← H.len]; exact h1), ← H.len] at e2
    have hz : k - hs.length = 0 := by
      rcases Nat.eq_zero_or_pos (k - hs.length) with h3 | h3
      · exact h3
      · rw [List.getElem?_eq_none (by simp; omega)] at e1; cases e1
    rw [hz] at e1 e2
    simp at e1 e2
    subst e1 e2
    exact ⟨hf.more hlo, hf.und⟩
/-- The reader at block D, its map at b, its functions v: the program F. -/
structure Rdr (w : World) (lo b D : Nat) (v : Value) (hs : List Hd) (F : Pg) : Prop where
  row : Row w D 60 [.map (some b), v]
  dlo : lo ≤ D
  ops : OpsAt w b
  blo : lo ≤ b
  own : w.ownsRow lo 49 3 v F.length (hcells hs)
  fns : (F = [] ∧ hs = []) ∨ ∃ K hs0 F0 h f, hs = hs0 ++ [h] ∧ F = F0 ++ [f] ∧ lo ≤ K ∧ K ≤ w.heap.size ∧ Old w lo K hs0 F0 ∧ FnOwn w K h f
variable {b D : Nat} {v : Value}
theorem ops_ne_cells (h : OpsAt w b) {g t : Nat} {cs : Array Value} {fr : Nat × Nat} (hg : w.heap[g]? = some (.cells cs t fr)) : some b ≠ some g := fun e => by
  injection e with e
  subst e
  obtain ⟨es, clock, hb, _⟩ := h
  rw [hb] at hg
  cases hg
theorem OpsAt.kept (h : OpsAt w b) (hg : w.grownBy w' row) (hne : some b ≠ row) : OpsAt w' b := World.ownsMap.kept h hg hne
theorem OpsAt.below (h : OpsAt w b) (hb : Below w.heap.size w w') : OpsAt w' b := by
  have hlt : b < w.heap.size := World.ownsMap.lt h
  obtain ⟨es, clock, hh, r⟩ := h
  exact ⟨es, clock, (hb.block b hlt).trans hh, r⟩
theorem Rdr.below (H : Rdr w lo b D v hs F) (hb : Below w.heap.size w w') : Rdr w' lo b D v hs F := by
  refine ⟨H.row.call hb, H.dlo, H.ops.below hb, H.blo, own_below H.own hb, ?_⟩
  rcases H.fns with h | ⟨K, hs0, F0, h, f, e1, e2, h1, h2, h3, h4⟩
  · exact .inl h
  · exact .inr ⟨K, hs0, F0, h, f, e1, e2, h1, Nat.le_trans h2 hb.size, h3.below hb, h4.below hb⟩
theorem Rdr.all_ (H : Rdr w lo b D v hs F) : Old w lo w.heap.size hs F := by
  rcases H.fns with ⟨rfl, rfl⟩ | ⟨K, hs0, F0, h, f, rfl, rfl, h1, h2, h3, h4⟩
  · exact Old.nil_
  · exact h3.snoc h4 h1 h2
/-- A write into a block of cells that are neither slots nor instructions. -/
theorem Old.apart (H : Old w lo K hs F) {g t : Nat} {cs : Array Value} {fr : Nat × Nat} (hg : w.grownBy w' (some g)) (hh : w.heap[g]? = some (.cells cs t fr)) (h1 : t ≠ 52) (h2 : t ≠ 44) : Old w' lo K hs F :=
  H.kept hg fun h f hf _ => ⟨off_ty hf.s hh h1, off_ty hf.c hh h2⟩
theorem set_grown (w : World) (g j : Nat) (u : Value) : w.grownBy (w.setCell ⟨g, j, none⟩ u) (some g) := by
  refine ⟨rfl, rfl, rfl, by simp, fun k _ hne => Below.heap_setCell w ⟨g, j, none⟩ u k (fun e => hne (by rw [e]))⟩
theorem Old.apartV (H : Old w lo K hs F) {n : Nat} {xs : List Value} {base t size : Nat} (ho : w.ownsRow base t size v n xs) (hg : w.grownBy w' v.ownBlock) (h1 : t ≠ 52) (h2 : t ≠ 44) : Old w' lo K hs F := by
  cases hv : v.ownBlock with
  | none => rw [hv] at hg; exact H.kept hg fun _ _ _ _ => ⟨Off.none_ _, Off.none_ _⟩
  | some g =>
    rw [hv] at hg
    obtain ⟨cs, fr, hh⟩ := own_ty ho hv
    exact H.apart hg hh h1 h2
theorem ops_off (h : OpsAt w b) {n : Nat} {xs : List Value} {base t size : Nat} (ho : w.ownsRow base t size v n xs) : some b ≠ v.ownBlock := fun e => by
  obtain ⟨cs, fr, hh⟩ := own_ty ho e.symm
  exact ops_ne_cells h hh rfl
theorem new_fn (w : World) (K : Nat) (p : Int) : FnOwn w K ⟨p, none, 0, 0, none, 0, 0⟩ ⟨p, [], []⟩ := ⟨rfl, rfl, rfl, World.ownsRow_nil _ _ _ _, World.ownsRow_nil _ _ _ _⟩
/-- A function more. -/
theorem Rdr.func (H : Rdr w lo b D v hs F) {w7 : World} {v' : Value} {p : Int} (hg : w.grownBy w7 v.ownBlock) (hsz : lo ≤ w.heap.size) (ho : w7.ownsRow lo 49 3 v' (F.length + 1) (hcells (hs ++ [⟨p, none, 0, 0, none, 0, 0⟩]))) :
    Rdr (w7.setCell ⟨D, 1, none⟩ v') lo b D v' (hs ++ [⟨p, none, 0, 0, none, 0, 0⟩]) (F ++ [⟨p, [], []⟩]) ∧ Below lo w (w7.setCell ⟨D, 1, none⟩ v') := by
  have hR7 : Row w7 D 60 [.map (some b), v] := H.row.grown hg (own_ne_row H.own H.row (by decide))
  have hne : some D ≠ v'.ownBlock := own_ne_row ho hR7 (by decide)
  have hO7 := H.ops.kept hg (ops_off H.ops H.own)
  have hbD : some b ≠ some D := ops_ne_cells hO7 hR7
  have hall := ((H.all_.apartV H.own hg (by decide) (by decide)).apart (set_grown w7 D 1 v') hR7 (by decide) (by decide))
  refine ⟨⟨hR7.set_ 1 v', H.dlo, hO7.kept (set_grown w7 D 1 v') hbD, H.blo, ?_, .inr ⟨w.heap.size, hs, F, _, _, rfl, rfl, hsz, ?_, hall, new_fn _ _ _⟩⟩, ?_⟩
  · rw [List.length_append]
    exact own_other ho (p := ⟨D, 1, none⟩) (fun e => hne e.symm) v'
  · rw [World.size_setCell]; exact hg.size
  · exact (((Below.refl _ _).grown hg hsz (fun j hj => (H.own.lt j hj).1)).setCell (p := ⟨D, 1, none⟩) H.dlo v')
theorem hset_last (hs : List Hd) (h : Hd) (a : Option Addr) (n c : Nat) : (hcells (hs ++ [h])).set (hs.length * 3 + 1) (.slice a n c) = hcells (hs ++ [⟨h.p, a, n, c, h.a2, h.n2, h.c2⟩]) ∧ (hcells (hs ++ [h])).set (hs.length * 3 + 2) (.slice a n c) = hcells (hs ++ [⟨h.p, h.a1, h.n1, h.c1, a, n, c⟩]) := by
  rw [hcells_append, hcells_append, hcells_append]
  constructor
  · rw [List.set_append_right _ _ (by rw [hcells_length]; omega), hcells_length, Nat.add_sub_cancel_left]; rfl
  · rw [List.set_append_right _ _ (by rw [hcells_length]; omega), hcells_length, Nat.add_sub_cancel_left]; rfl
/-- What a slot or an instruction more makes of the last function. -/
theorem Rdr.last_set {g n c K : Nat} {hs0 : List Hd} {F0 : Pg} {h h' : Hd} {f f' : Fn} {j : Nat} {u : Value} {w7 : World} {row : Option Nat}
    (H : Rdr w lo b D (.slice (some ⟨g, 0, none⟩) n c) (hs0 ++ [h]) (F0 ++ [f])) (hK1 : lo ≤ K) (hK2 : K ≤ w.heap.size) (hold : Old w lo K hs0 F0) (hg : w.grownBy w7 row) (hrow : ∀ k, row = some k → K ≤ k)
    (hty : ∀ k, row = some k → ∃ cs t fr, w.heap[k]? = some (.cells cs t fr) ∧ t ≠ 49 ∧ t ≠ 60)
    (hset : (hcells (hs0 ++ [h])).set j u = hcells (hs0 ++ [h'])) (hf' : FnOwn w7 K h' f') :
    Rdr (w7.setCell ⟨g, j, none⟩ u) lo b D (.slice (some ⟨g, 0, none⟩) n c) (hs0 ++ [h']) (F0 ++ [f']) ∧ Below lo w (w7.setCell ⟨g, j, none⟩ u) := by
  have hlen : (F0 ++ [f]).length = (F0 ++ [f']).length := by simp
  have hgrow : ∀ k, row = some k → g ≠ k := fun k hk e => by
    obtain ⟨cs, t, fr, hh, h1, _⟩ := hty k hk
    subst e
    exact off_ty H.own hh h1 _ rfl rfl
  have hown7 := own_kept H.own hg (fun p hp e => by injection hp with hp; exact hgrow _ e.symm (by rw [← hp]))
  have hR7 : Row w7 D 60 [.map (some b), .slice (some ⟨g, 0, none⟩) n c] := H.row.grown hg (fun e => by
    obtain ⟨cs, t, fr, hh, _, h2⟩ := hty D e.symm
    have := H.row
    unfold Row at this
    rw [hh] at this
    injection this with this
    injection this with _ e3
    exact h2 e3)
  have hO7 := H.ops.kept hg (fun e => by
    obtain ⟨cs, t, fr, hh, _, h2⟩ := hty b e.symm
    exact ops_ne_cells H.ops hh rfl)
  have hDg : some D ≠ (Value.slice (some ⟨g, 0, none⟩) n c).ownBlock := own_ne_row hown7 hR7 (by decide)
  have hold7 : Old w7 lo K hs0 F0 := hold.kept hg fun h f _ hu => ⟨fun p hp e => by have := hu.1 p hp; have := hrow _ e.symm; omega, fun p hp e => by have := hu.2 p hp; have := hrow _ e.symm; omega⟩
  obtain ⟨cs, fr, hgg⟩ := own_ty hown7 (g := g) rfl
  have hn := own_n hown7
  have hst := (show w7.ownsRow lo 49 3 (.slice (some ⟨g, 0, none⟩) n c) n (hcells (hs0 ++ [h])) by rw [hn] at hown7; exact hown7).stored j u
  rw [hset] at hst
  have hg2 := set_grown w7 g j u
  have hlg : lo ≤ g := (H.own.lt g rfl).1
  refine ⟨⟨hR7.far (p := ⟨g, j, none⟩) (fun e => hDg (by rw [e]; rfl)) u, H.dlo, hO7.kept hg2 (ops_ne_cells hO7 hgg), H.blo, ?_, .inr ⟨K, hs0, F0, _, _, rfl, rfl, hK1, ?_, hold7.apart hg2 hgg (by decide) (by decide), ?_⟩⟩, ?_⟩
  · rw [← hlen, hn]; exact hst.1
  · rw [World.size_setCell]; exact Nat.le_trans hK2 hg.size
  · exact hf'.kept hg2 (off_ty hf'.s hgg (by decide)) (off_ty hf'.c hgg (by decide))
  · exact ((Below.refl _ _).grown hg (Nat.le_trans hK1 hK2) (fun k hk => Nat.le_trans hK1 (hrow k hk))).setCell (p := ⟨g, j, none⟩) hlg u
end
end Go.Proofs.YtlhaendgdeflkaaGreatDoor
end

section
/-
  The program's last (chapter 7): the function to which a slot or an instruction belongs.
-/
namespace Go.Proofs.YtlhaendgdeflkaaGreatDoor
open Go.RowKit

set_option maxHeartbeats 4000000 in
set_option maxRecDepth 100000 in
theorem dlast_none (D b c : Nat) (A : Option Addr) (w : World) (hR : Hid (Row w D 60 [.map (some b), .slice A 0 c])) :
    Calls Tryz.prog 66 #[.pointer (some ⟨D, 0, none⟩)] w fun e w' => e = .returned (.pointer none) ∧ Below w.heap.size w w' := by
  have c1 := hR.out.cell (k := 1) rfl
  go_enter Tryz.func66, Tryz.ntmps66
  go_wp2_with fail
  go_ret
  exact ⟨rfl, Below.refl _ _⟩
set_option maxHeartbeats 4000000 in
set_option maxRecDepth 100000 in
theorem dlast_some (D b g k c : Nat) (w : World) (hR : Hid (Row w D 60 [.map (some b), .slice (some ⟨g, 0, none⟩) (k + 1) c])) (hk : k < 100000) :
    Calls Tryz.prog 66 #[.pointer (some ⟨D, 0, none⟩)] w fun e w' => e = .returned (.pointer (some ⟨g, k * 3, none⟩)) ∧ Below w.heap.size w w' := by
  have c1 := hR.out.cell (k := 1) rfl
  have h1 : ¬ ((k : Int) + 1 = 0) := by omega
  have h2 : ((k : Int) + 1 - 1) = (k : Int) := by omega
  have h3 : (k : Int) < (k : Int) + 1 := by omega
  have hwk : IntKind.i64.wrap (k : Int) = (k : Int) := by rw [IntKind.wrap_i64]; omega
  go_enter Tryz.func66, Tryz.ntmps66
  go_upto_region 3 with (fail)
  go_region
  go_wp2_with fail
  go_ret
  exact ⟨rfl, (Below.refl _ _).drew⟩
end Go.Proofs.YtlhaendgdeflkaaGreatDoor
end

section
/-
  The program's function (chapter 7): a function more. Conditions: those of the types; ErrRange lies as it is laid.
-/
namespace Go.Proofs.YtlhaendgdeflkaaGreatDoor
open Go.RowKit

/-- What the reading of a line leaves: the error, and the reader with the program. -/
def RdPost (lo b D : Nat) (r : Int × Pg) (w : World) (e : Ending) (w' : World) : Prop :=
  ∃ (A : Option Addr) (n c : Nat) (hs : List Hd), e = .returned (.int .i64 r.1) ∧ Rdr w' lo b D (.slice A n c) hs r.2 ∧ Below lo w w'

set_option maxHeartbeats 4000000 in
set_option maxRecDepth 100000 in
theorem dfunction_any (lo b D : Nat) (A : Option Addr) (n c : Nat) (hs : List Hd) (F : Pg) (Aw : Option Addr) (nw cw : Nat) (r : List (List UInt8)) (w : World) (H : Hid (Rdr w lo b D (.slice A n c) hs F)) (hlo : lo ≤ w.heap.size) (hS : Hid (Sees w w.heap.size Aw (wcells r))) (hn : Hid (r.length = nw)) (hlen : Hid (∀ x ∈ r, x.length ≤ 100000000)) (hnb : nw ≤ 100000001) (hR : Hid (ErrR w)) (hsm : n ≤ 100000) :
    Calls Tryz.prog 44 #[.pointer (some ⟨D, 0, none⟩), .slice Aw nw cw] w (RdPost lo b D (funcU F r) w) := by
  obtain ⟨j0, ji, jz0, jz1, jz2⟩ := info_parts Tryz.info49u
  have cn := numbers_any [110] Aw nw cw r w w.heap.size (Nat.le_refl _) hS hn hlen (hide (by decide)) (by decide) hnb hR
  rw [← mkN_let] at cn
  have HLO := hide hlo
  have hFn := hide (own_n H.out.own)
  clear hlo
  go_enter Tryz.func44, Tryz.ntmps44
  go_wp2_with fail
  refine cn.mono ?_
  rintro e w5 ⟨v5, rfl, ho5, hb5⟩
  have HB5 := hide hb5
  have H5 := hide (H.out.below hb5)
  have HO5 := hide ho5
  clear hb5 ho5 cn
  by_cases hE : numsE mkN r = 0
  · have o5 := HO5.out hE
    obtain ⟨z, hz1, hzv, hz0, hzb⟩ := numI_at hE (k := 0) (by simp [mkN])
    have hzb2 : z ≤ 2147483647 := by simp [mkN, limU] at hzb; omega
    obtain ⟨g5, c5, rfl, -, hg5, hc5⟩ := num_cell o5 (by simp [mkN])
    have y0 := hc5 0 z hz1
    have HR := hide (show funcU F r = (0, F ++ [⟨z, [], []⟩]) by unfold funcU; rw [if_pos hE, hzv.out])
    have HOW := hide (show w5.ownsRow lo 49 3 (.slice A n c) n (hcells hs) by have := H5.out.own; rwa [hFn.out] at this)
    have a0 := H5.out.row.cell (k := 1) rfl
    have a1 : ∀ o : Obj, (w5.alloc o).cell? ⟨D, 1, none⟩ = some (.slice A n c) := fun o => (H5.out.row.alloc o).cell (k := 1) rfl
    have HM3 := hide (show n + 1 ≤ maxLen by unfold maxLen; omega)
    have HM4 := hide (show (n + 1) * 56 ≤ 140737488355328 by omega)
    have hwz : IntKind.i64.wrap z = z := by rw [IntKind.wrap_i64]; omega
    have hg5s : g5 < w5.heap.size + 1 := by omega
    have hg5n : ¬ g5 = w5.heap.size := by omega
    have hml : mkN.length = 1 := rfl
    have Y0 := hide y0
    have y1 : ∀ o : Obj, (w5.alloc o).cell? ⟨g5, 0, none⟩ = some (.int .u64 z) := fun o => (((Below.refl w5.heap.size w5).alloc (Nat.le_refl _) o).cell (p := ⟨g5, 0, none⟩) hg5).trans Y0.out
    have HL5 := hide (Nat.le_trans HLO.out HB5.out.size)
    rw [hE, hml]
    clear hE o5 hz1 hzv hzb hc5 hml
    go_upto_region 4 with (fail)
    go_region_law
      (refine wp_append_own _ (.tmp 19) (.tmp 25) 27 rfl lo 49 j0 (.agg #[.int .i64 0, .slice none 0 0, .slice none 0 0]) 3 56 Tryz.underlying27 ji jz0 jz1 jz2 rfl (by decide) (.slice A n c) n (hcells hs) rfl (own_grownN HOW.out ((grown_draws (World.grownBy.refl w5 none) 1).trans (World.grownBy_alloc _ _ _))) ⟨w5.heap.size, 0, none⟩ 1 1 [.int .i64 z, .slice none 0 0, .slice none 0 0] rfl rfl (fun j u hu => by rw [WideShapes.add_plain, Nat.zero_add]; exact (Row.new w5 49 [.int .i64 z, .slice none 0 0, .slice none 0 0]).cell hu) (fn_oneCell z) HM3.out HM4.out (Nat.le_trans HL5.out (by simp)) ?_; intro v2 w7 ho2 hg2 _; have HG7 : Hid (w5.grownBy w7 (Value.slice A n c).ownBlock) := hide (((grown_draws (World.grownBy.refl w5 _) 1).trans (World.grownBy_alloc _ _ _)).trans hg2); obtain ⟨A7, c7, rfl, hA7, hc7, hf7, -⟩ := own_seen ho2; have p0 := (H5.out.row.grown HG7.out (own_ne_row HOW.out H5.out.row (by decide))).cell (k := 1) rfl; have p1 := (H5.out.row.grown HG7.out (own_ne_row HOW.out H5.out.row (by decide))).free 1)
    all_goals
      have fin := Rdr.func (p := z) H5.out HG7.out HL5.out (v' := .slice A7 (n + 1) c7) (by rw [hFn.out, hcells_append]; exact ho2)
      have FIN := hide (show RdPost lo b D (funcU F r) w (.returned (.int .i64 0)) (w7.setCell ⟨D, 1, none⟩ (.slice A7 (n + 1) c7)) from ⟨A7, n + 1, c7, _, by rw [HR.out], by rw [HR.out]; exact fin.1, (HB5.out.mono HLO.out).trans fin.2⟩)
      clear hA7 hc7 hf7 ho2 hg2 fin p0 p1
      go_wp2_with fail
      go_ret
      exact FIN.out
  · have HR := hide (show funcU F r = (numsE mkN r, F) by unfold funcU; rw [if_neg hE])
    obtain ⟨x, hx⟩ : ∃ x, numsE mkN r = x := ⟨_, rfl⟩
    rw [hx] at hE HR ⊢
    have hb : (x == 0) = false := by rw [beq_eq_false_iff_ne]; exact hE
    have FIN := hide (show RdPost lo b D (funcU F r) w (.returned (.int .i64 x)) w5 from ⟨A, n, c, hs, by rw [HR.out], by rw [HR.out]; exact H5.out, HB5.out.mono HLO.out⟩)
    clear hE hx
    go_wp2_with fail
    go_ret
    exact FIN.out
end Go.Proofs.YtlhaendgdeflkaaGreatDoor
end
