import Derived.Test.YtlcmcmocjbeocaaMGrev
import Derived.Deep.RegionLaw
import Derived.Laws.CopyRow
import Derived.Shelf.Bits.Mul64
import Derived.Deep.LoopGhost
set_option linter.unusedVariables false
set_option linter.unusedSimpArgs false
section
/-
  The contract of slices.Repeat at one int, some times over: a row of the call's own. Conditions: those of the types; at least once, at most 1048576 times.
-/
namespace Go.Proofs.Ytlcmcmocjbeocaa
open Go.RowKit

theorem step_copy {P : Program} {w : World} {ops : Array Oper} {o : Oper} {a : Act} {K : Act → World → Prop} {Q : Exit → Act → World → Prop} {E : Prop} (hgd : o.guard = none) (d s : Operand) (dT sT : TypeId)
    (ho : o.op = .call { callee := .builtin .copy, args := #[d, s], argTypes := #[dT, sT] }) (dv sv : Value) (hd : a.eval d = dv) (hs : a.eval s = sv) (r : Value) (w' : World)
    (hrun : ∀ ty, (Builtin.copy_ #[dT, sT] ty #[dv, sv]).run P w = .ok r w') (h : K (a.put o.dst r) w') :
    if Region.wanted o (yielded ops a.tmps) = true then Oper.wp P o a w K Q else E := by
  have hw : Region.wanted o (yielded ops a.tmps) = true := by simp [Region.wanted, hgd]
  rw [if_pos hw]
  unfold Oper.wp
  simp [execOp, ho, resolve, invoke, builtin, hd, hs, hrun, Result.andThen]
  exact h
/-- k times x, then zeros, n in all. -/
def repL (x : Int) (n k : Nat) : List Int := List.replicate k x ++ List.replicate (n - k) 0
theorem repL_len {x : Int} {n k : Nat} (h : k ≤ n) : (repL x n k).length = n := by simp [repL]; omega
theorem repL_zero (x : Int) (n : Nat) : repL x n 0 = List.replicate n 0 := by simp [repL]
theorem repL_all (x : Int) (n : Nat) : repL x n n = List.replicate n x := by simp [repL]
theorem repL_step {x : Int} {n k m : Nat} (h : k + m ≤ n) : (repL x n k).take k ++ List.replicate m x ++ (repL x n k).drop (k + m) = repL x n (k + m) := by
  unfold repL
  have e1 : (List.replicate k x ++ List.replicate (n - k) (0 : Int)).take k = List.replicate k x := List.take_left' (by simp)
  have e2 : (List.replicate k x ++ List.replicate (n - k) (0 : Int)).drop (k + m) = List.replicate (n - (k + m)) 0 := by
    rw [List.drop_append]
    simp
    omega
  rw [e1, e2, List.replicate_append_replicate]
theorem row_set {w : World} {g t : Nat} {cs ds : List Value} (h : Row w g t cs) : Row (w.setRow g ds.toArray) g t ds := setRow_heap w g cs.toArray ds.toArray t (0, 0) h
theorem below_setRow {w w0 : World} {B g : Nat} {r : Array Value} (h : Below B w0 w) (hg : B ≤ g) : Below B w0 (w.setRow g r) := by
  refine ⟨h.os, h.tape, h.output, by simpa using h.size, fun k hk => ?_⟩
  rw [← h.block k hk]
  simp only [World.setRow, Array.getElem?_modify]
  rw [if_neg (by omega)]
theorem size_int : (Try.prog.info? 3).map (·.size) = some 1 := by kernel_rfl
theorem int_one (zs : List Int) : ∀ v ∈ cellsI zs, v.oneCell' = true := by
  intro v hv
  obtain ⟨z, _, rfl⟩ := List.mem_map.1 hv
  rfl
/-- Behind one copy into the row. -/
theorem copy_run {w : World} {g n k m b off sLen sCap dCap : Nat} {x : Int} (hr : Row w g 3 (cellsI (repL x n k))) (hk : k + m ≤ n) (hmin : m = Nat.min sLen (n - k)) (hs : ∀ j : Nat, j < m → w.cell? ⟨b, off + j, none⟩ = some (.int .i64 x)) (ty : TypeId) :
    (Builtin.copy_ #[30, 30] ty #[.slice (some ⟨g, k, none⟩) (n - k) dCap, .slice (some ⟨b, off, none⟩) sLen sCap]).run Try.prog w = .ok (.int .i64 (m : Int)) (w.setRow g (cellsI (repL x n (k + m))).toArray) := by
  have h := run_copy_row (P := Try.prog) w 30 30 ty 3 g k (n - k) dCap ⟨b, off, none⟩ sLen sCap (cellsI (repL x n k)).toArray 3 (cellsI (List.replicate m x)) Try.underlying30 size_int hr (by simp [cellsI, hmin]) (fun j v hj => by
    have hjm : j < m := by have := (List.getElem?_eq_some_iff.1 hj).1; simpa [cellsI] using this
    have hv : v = .int .i64 x := by
      rw [cellsI, List.getElem?_map, List.getElem?_replicate, if_pos hjm] at hj
      exact (Option.some.inj hj).symm
    have hadd : (⟨b, off, none⟩ : Addr).add j = ⟨b, off + j, none⟩ := by unfold Addr.add; split <;> simp_all
    rw [hadd, hs j hjm, hv]) (by simp [cellsI, repL_len (show k ≤ n by omega)]; omega) (int_one _)
  rw [h]
  have e : ((cellsI (repL x n k)).toArray.toList.take k ++ cellsI (List.replicate m x) ++ (cellsI (repL x n k)).toArray.toList.drop (k + (cellsI (List.replicate m x)).length)) = cellsI (repL x n (k + m)) := by
    rw [← repL_step hk]
    simp [cellsI, List.map_take, List.map_drop]
  rw [e]
  simp [cellsI, goInt]
/-- The numbers of this translation for those of the library's contract of Mul64. -/
def gmulRen : Go.Shelf.Ren := ⟨fun _ => 56, fun t => if t = 53 then 41 else 80, fun g => g⟩
set_option maxRecDepth 100000 in
theorem gmulLaid : Go.Proofs.Lays.n264 Try.prog gmulRen := by
  refine { mixed := ?_, f264 := ?_, t46 := ?_, a46 := ?_, z46 := ?_, v46 := ?_, t53 := ?_, a53 := ?_, z53 := ?_, v53 := ?_ }
  · kernel_rfl
  · kernel_rfl
  · kernel_rfl
  · exact fun w => by kernel_rfl
  · exact fun w => by kernel_rfl
  · exact fun w => by kernel_rfl
  · kernel_rfl
  · exact fun w => by kernel_rfl
  · exact fun w => by kernel_rfl
  · exact fun w => by kernel_rfl
theorem gmul64 (n : Nat) (hn : n ≤ 1048576) (w : World) : Calls Try.prog 56 #[.int .u64 1, .int .u64 (n : Int)] w fun e w' => e = .returned (.tuple #[.int .u64 0, .int .u64 (n : Int)]) ∧ w = w' := by
  have h := Any.bits_Mul64 (ρ := gmulRen) gmulLaid 1 n (by omega) (by omega) w
  rw [show (1 * n / 18446744073709551616 : Nat) = 0 by omega, show (1 * n % 18446744073709551616 : Nat) = n by omega] at h
  exact h.mono fun _ _ ⟨he, hw⟩ => ⟨he, hw.symm⟩
theorem gmul (n : Nat) (hn : n ≤ 1048576) (w : World) : Calls Try.prog 48 #[.int .u64 1, .int .u64 (n : Int)] w fun e w' => e = .returned (.tuple #[.int .u64 0, .int .u64 (n : Int)]) ∧ w = w' := by
  have h := gmul64 n hn w
  go_enter Try.func48, Try.ntmps48
  go_wp2_with fail
  refine h.mono ?_
  rintro e w' ⟨rfl, rfl⟩
  go_wp2_with fail
  go_ret2
  exact ⟨rfl, rfl⟩
/-- What Repeat leaves. -/
def RepPost1 (x : Int) (n : Nat) (w : World) (e : Ending) (w' : World) : Prop := e = .returned (.slice (some ⟨w.heap.size, 0, none⟩) n n) ∧ Row w' w.heap.size 3 (cellsI (List.replicate n x)) ∧ Below w.heap.size w w'
set_option maxRecDepth 100000 in
set_option maxHeartbeats 4000000 in
theorem repeat_any (x : Int) (b off cc n : Nat) (w : World) (hx : Hid (w.cell? ⟨b, off, none⟩ = some (.int .i64 x))) (h1 : 1 ≤ n) (hn : n ≤ 1048576) :
    Calls Try.prog 32 #[.slice (some ⟨b, off, none⟩) 1 cc, .int .i64 (n : Int)] w (RepPost1 x n w) := by
  obtain ⟨i0, hi, hz0, hz1, hz2⟩ := info_parts infoI
  have cm := gmul n hn w
  have hmk := fmade (P := Try.prog) Try.underlying30 hi hz0 hz1 (by omega) rfl n (by omega) (L := cellsI (List.replicate n 0)) (by simp [cellsI])
  obtain ⟨W1, hW1⟩ : ∃ W, w.alloc (.cells (cellsI (List.replicate n 0)).toArray 3) = W := ⟨_, rfl⟩
  have R1 := hide (show Row W1 w.heap.size 3 (cellsI (repL x n 0)) by rw [← hW1, repL_zero]; exact Row.new w _ _)
  have B1 := hide (show Below w.heap.size w W1 by rw [← hW1]; exact below1 w _)
  have hbl := World.block_lt_of_cell? _ _ hx.out
  have HCP := copy_run (b := b) (off := off) (sLen := 1) (sCap := cc) (dCap := n) (k := 0) (m := 1) R1.out (by omega) (by rw [Nat.sub_zero]; exact (Nat.min_eq_left h1).symm) (fun j hj => by
    obtain rfl : j = 0 := by omega
    exact keep_cellB B1.out hx.out)
  rw [Nat.sub_zero, Nat.zero_add] at HCP
  obtain ⟨W2, hW2⟩ : ∃ W, W1.setRow w.heap.size (cellsI (repL x n 1)).toArray = W := ⟨_, rfl⟩
  have R2 := hide (show Row W2 w.heap.size 3 (cellsI (repL x n 1)) by rw [← hW2]; exact row_set R1.out)
  have B2 := hide (show Below w.heap.size w W2 by rw [← hW2]; exact below_setRow B1.out (Nat.le_refl _))
  have HW1 := hide hW1
  rw [hW2] at HCP
  have hz : ((n : Int) < 0) = False := by simp
  have hu : IntKind.u64.wrap (n : Int) = (n : Int) := by rw [IntKind.wrap_u64]; omega
  have hi6 : IntKind.i64.wrap (n : Int) = (n : Int) := by rw [IntKind.wrap_i64]; omega
  have hbig : ¬ (9223372036854775807 < (n : Int)) := by omega
  have hn0 : ¬ ((n : Int) < 0) := by omega
  clear hW1 hW2 hbl
  go_enter Try.func32, Try.ntmps32
  go_wp2_with fail
  refine cm.mono ?_
  rintro e w' ⟨rfl, rfl⟩
  clear cm
  have hn1 : ((1 : Nat) : Int) = 1 := rfl
  rw [hn1] at HCP
  clear hn1
  go_upto_region 7 with (fail)
  rw [HW1.out]
  clear HW1 hmk hx
  go_wp2_with (simp only [HCP])
  clear HCP R1 B1
  go_loopw [8] (fun s8 wr => ∃ (k : Nat), s8 = .int .i64 (k : Int) ∧ 1 ≤ k ∧ k ≤ n ∧ Hid (Row wr w.heap.size 3 (cellsI (repL x n k))) ∧ Hid (Below w.heap.size w wr)) (fun s8 _ => n - (intOf s8).toNat)
  case atStart => exact ⟨1, rfl, by omega, h1, R2, B2⟩
  case round =>
    obtain ⟨k, rfl, hk1, hkn, hR, hB⟩ := hrel
    clear R2 B2
    by_cases hlt : k < n
    · obtain ⟨m, hm⟩ : ∃ m, Nat.min k (n - k) = m := ⟨_, rfl⟩
      have hm1 : 1 ≤ m ∧ k + m ≤ n := by
        rw [← hm]
        rcases Nat.le_total k (n - k) with c | c
        · rw [show Nat.min k (n - k) = k from Nat.min_eq_left c]; omega
        · rw [show Nat.min k (n - k) = n - k from Nat.min_eq_right c]; omega
      have hmk2 : m ≤ k := by rw [← hm]; exact Nat.min_le_left _ _
      have HCP := copy_run (b := w.heap.size) (off := 0) (sLen := k) (sCap := n) (dCap := n - k) (k := k) (m := m) hR.out.drew hm1.2 hm.symm (fun j hj => by
        rw [Nat.zero_add]
        refine hR.out.drew.cell ?_
        rw [cellsI, List.getElem?_map]
        unfold repL
        rw [List.getElem?_append_left (by simp; omega), List.getElem?_replicate, if_pos (by omega)]; rfl)
      obtain ⟨W3, hW3⟩ : ∃ W, wr.drew.setRow w.heap.size (cellsI (repL x n (k + m))).toArray = W := ⟨_, rfl⟩
      have R3 := hide (show Row W3 w.heap.size 3 (cellsI (repL x n (k + m))) by rw [← hW3]; exact row_set hR.out.drew)
      have B3 := hide (show Below w.heap.size w W3 by rw [← hW3]; exact below_setRow hB.out.drew (Nat.le_refl _))
      rw [hW3] at HCP
      have HM := hide hm1
      have hkn1 : (k : Int) < (n : Int) := by omega
      have hk0 : (0 : Int) ≤ (k : Int) := by omega
      have hkn2 : (k : Int) ≤ (n : Int) := by omega
      have hne : ¬ n = k := by omega
      have hwk : IntKind.i64.wrap ((k : Int) + (m : Int)) = ((k + m : Nat) : Int) := by rw [IntKind.wrap_i64]; omega
      clear hm hm1 hmk2 hW3
      go_upto_region 9 with (fail)
      go_region_law (refine step_copy rfl (.tmp 41) (.tmp 44) 30 30 rfl (.slice (some ⟨w.heap.size, k, none⟩) (n - k) (n - k)) (.slice (some ⟨w.heap.size, 0, none⟩) k n) (by simp [Act.eval, Act.put]) (by simp [Act.eval, Act.put]) (.int .i64 (m : Int)) W3 (fun ty => HCP ty) ?_)
      clear HCP hR hB
      go_simp
      go_wp2_with fail
      go_roundw
      case rel => exact ⟨k + m, rfl, by omega, HM.out.2, R3, B3⟩
      case measure => have := HM.out; simp [intOf]; omega
    · obtain rfl : k = n := by omega
      have FIN := hide (show RepPost1 x k w (.returned (.slice (some ⟨w.heap.size, 0, none⟩) k k)) wr from ⟨rfl, by have h := hR.out; rw [repL_all] at h; exact h, hB.out⟩)
      clear hR hB
      go_wp2_with fail
      go_ret
      exact FIN.out
end Go.Proofs.Ytlcmcmocjbeocaa
end
