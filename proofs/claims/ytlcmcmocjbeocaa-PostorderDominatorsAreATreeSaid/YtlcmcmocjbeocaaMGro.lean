import Derived.Test.YtlcmcmocjbeocaaMGrv
import Derived.Test.YtlcmcmocjbeocaaMGrev
set_option linter.unusedVariables false
set_option linter.unusedSimpArgs false
section
/-
  The contract of the reference's Order (chapter 14). Conditions: those of the types; the function is right and has an instruction.
-/
namespace Go.Proofs.Ytlcmcmocjbeocaa
open Go.RowKit

set_option maxRecDepth 100000 in
set_option maxHeartbeats 4000000 in
theorem rorder_any {P : Int} {A1 : Option Addr} {n1 c1 : Nat} {A2 : Option Addr} {n2 c2 : Nat} {l : List Ins} (w : World) (hC : Hid (CdAt w A2 n2 l)) (hok : Hid (FlowOk l)) (hn1 : 1 ≤ n2) :
    Calls Try.prog 12 #[fv P A1 n1 c1 A2 n2 c2] w (OrdPost l n2 w) := by
  obtain ⟨i0, hi, hz0, hz1, hz2⟩ := info_parts infoI
  obtain ⟨j0, ji, jz0, jz1, jz2⟩ := info_parts infoB
  have hn2 := hC.out.few
  have HL := hide hC.out.len
  have hmk := fmade (P := Try.prog) Try.underlying36 ji jz0 jz1 (by omega) rfl n2 (by omega) (by rw [← bcells_rep])
  obtain ⟨W1, hW1⟩ : ∃ W, w.alloc (.cells #[.int .i64 P, .slice A1 n1 c1, .slice A2 n2 c2] 27) = W := ⟨_, rfl⟩
  have R1 := hide (show Row W1 w.heap.size 27 [.int .i64 P, .slice A1 n1 c1, .slice A2 n2 c2] by rw [← hW1]; exact Row.new w _ _)
  have hb1 : Below w.heap.size w W1 := by rw [← hW1]; exact below1 _ _
  obtain ⟨W2, hW2⟩ : ∃ W, W1.alloc (.cells (bcells (List.replicate n2 false)).toArray 4) = W := ⟨_, rfl⟩
  have hb2 : Below W1.heap.size W1 W2 := by rw [← hW2]; exact below1 _ _
  obtain ⟨W3, hW3⟩ : ∃ W, (W2.alloc (.cells #[.int .i64 P, .slice A1 n1 c1, .slice A2 n2 c2, .slice (some ⟨W1.heap.size, 0, none⟩) n2 n2, .slice none 0 0] 54)).drew = W := ⟨_, rfl⟩
  have hb3 : Below W2.heap.size W2 W3 := by rw [← hW3]; exact (below1 _ _).drew
  have hs2 : W2.heap.size = W1.heap.size + 1 := by rw [← hW2]; simp
  have hs1 := hb1.size
  have I3 := hide (show RvI w P A1 n1 c1 A2 n2 c2 (W1.heap.size + 1) W1.heap.size (List.replicate n2 false) [] (.slice none 0 0) W3 from
    ⟨by rw [← hW3]; exact ((Row.new W2 _ _).at_ hs2).drew, (show Row W2 W1.heap.size 4 (bcells (List.replicate n2 false)) by rw [← hW2]; exact Row.new W1 _ _).call hb3, by omega, by omega, by simp, World.ownsRow_nil _ _ _ _, below_call (below_call hb1 hb2) hb3⟩)
  have HW1 := hide hW1
  have HW2 := hide hW2
  have HW3 := hide hW3
  have HS2 := hide hs2
  have cv := rvisit_any hC hok n2 0 (List.replicate n2 false) [] (.slice none 0 0) W3 I3 (by omega) (hide (by rw [List.getElem?_replicate, if_pos (by omega)])) (by simp) (by simp)
  rw [show ((0 : Nat) : Int) = 0 from rfl] at cv
  have hnz : ((n2 : Int) == 0) = false := by rw [beq_eq_false_iff_ne]; omega
  clear hW1 hW2 hW3 hb1 hb2 hb3 hs1 hs2
  go_enter Try.func12, Try.ntmps12
  go_upto_region 1 with (fail)
  rw [HW1.out]
  have q0 := R1.out.cell (k := 0) rfl
  have q1 := R1.out.cell (k := 1) rfl
  have q2 := R1.out.cell (k := 2) rfl
  have qa := fun {p : Addr} {v : Value} (h : W1.cell? p = some v) => keep_cellB (below1 W1 (.cells (bcells (List.replicate n2 false)).toArray 4)) h
  have r0 := qa q0
  have r1 := qa q1
  have r2 := qa q2
  clear qa
  go_upto_region 3 with (fail)
  go_region
  rw [HW2.out, HW3.out]
  clear q0 q1 q2 r0 r1 r2 hmk HW1 HW2 HW3 R1 HS2
  go_wp2_with fail
  refine cv.mono ?_
  rintro e w9 ⟨rfl, R9, L, u9, hV9, hI9, -⟩
  have HLF := hide (show IsLft (suc l) n2 L from ⟨R9, hV9⟩)
  have hlen : L.length ≤ n2 := by have := (HLF.out.ord (by omega)).len; rw [List.length_reverse] at this; exact this
  have hlp : 1 ≤ L.length := by
    have := (HLF.out.ord (by omega)).pos
    have := (List.getElem?_eq_some_iff.1 this).1
    rw [List.length_reverse] at this
    exact this
  have HI := hide hI9
  have ho := hI9.left
  obtain ⟨g9, c9, rfl, -, hg9, -, -⟩ := own_block ho (by omega)
  have HS := hide (show Row w9 (W1.heap.size + 1) 54 [.int .i64 P, .slice A1 n1 c1, .slice A2 n2 c2, .slice (some ⟨W1.heap.size, 0, none⟩) n2 n2, .slice (some ⟨g9, 0, none⟩) L.length c9] from hI9.s)
  have HLR := hide (fun (i x : Nat) (hx : L[i]? = some x) => show w9.cell? ⟨g9, i, none⟩ = some (.int .i64 (x : Int)) from by
    have hil := (List.getElem?_eq_some_iff.1 hx).1
    rw [ho.cellAt i (by omega), cellsI, List.getElem?_map, toI_get, hx]; rfl)
  have hwl : IntKind.i64.wrap ((L.length : Int) - 1) = (L.length : Int) - 1 := by rw [IntKind.wrap_i64]; omega
  have s4 := HS.out.cell (k := 4) rfl
  have I9 := hide (IntRel.start w9 w9 (Below.refl _ _))
  clear hV9 hI9 cv ho
  go_wp2_with fail
  clear s4
  go_loopw [4, 5] (fun s4 s5 wr => ∃ (t : Nat), s5 = .int .i64 ((t : Int) - 1) ∧ t ≤ L.length ∧ Hid (IntRel w9 (toI (L.drop t).reverse) s4 wr)) (fun _ s5 _ => (intOf s5 + 1).toNat)
  case atStart => exact ⟨L.length, rfl, Nat.le_refl _, by rw [List.drop_length]; exact I9⟩
  case round =>
    obtain ⟨t, rfl, htl, hI⟩ := hrel
    clear I9
    by_cases ht : 0 < t
    · obtain ⟨i, rfl⟩ : ∃ i, t = i + 1 := ⟨t - 1, by omega⟩
      have hil : i < L.length := by omega
      have hx := List.getElem?_eq_getElem hil
      have x0 := keep_cellB hI.out.2 (HLR.out i _ hx)
      have HD := hide (show (L.drop i).reverse = (L.drop (i + 1)).reverse ++ [L[i]] by rw [List.drop_eq_getElem_cons hil, List.reverse_cons])
      generalize L[i] = x at x0 HD
      have s4 := (HS.out.call hI.out.2).cell (k := 4) rfl
      have HSZ := hide hI.out.2.size
      have hil2 : (toI (L.drop (i + 1)).reverse).length ≤ 1024 := by rw [toI_len, List.length_reverse, List.length_drop]; omega
      have e1 : ((i + 1 : Nat) : Int) - 1 = (i : Int) := by omega
      rw [e1]
      obtain ⟨ys, hys⟩ : ∃ ys, toI (L.drop (i + 1)).reverse = ys := ⟨_, rfl⟩
      have HD2 := hide (show toI (L.drop i).reverse = ys ++ [(x : Int)] by rw [HD.out, toI_append, hys]; rfl)
      rw [hys] at hI hil2
      have hi0 : (0 : Int) ≤ (i : Int) := by omega
      have hi1 : (i : Int) < (L.length : Int) := by omega
      have hwi : IntKind.i64.wrap ((i : Int) - 1) = (i : Int) - 1 := by rw [IntKind.wrap_i64]; omega
      clear hx hys e1 HD
      go_upto_region 8 with (at_builtin; refine wpList_append_own _ rfl (.tmp 29) (.tmp 37) 30 rfl w9.heap.size 3 i0 (.int .i64 0) 1 8 Try.underlying30 hi hz0 hz1 hz2 rfl (by decide) _ ys.length (cellsI ys) rfl (hI.out.1.alloc _) ⟨wr.heap.size, 0, none⟩ 1 1 [.int .i64 (x : Int)] rfl rfl (one_new _ _ _) (one_cell _) (by unfold maxLen; omega) (by omega) (Nat.le_trans HSZ.out (by simp)) ?_)
      intro v7 w7 ho7 hg7 _
      have I7 := hide (show IntRel w9 (toI (L.drop i).reverse) v7 w7 by rw [HD2.out]; exact IntRel.step hI ho7 hg7)
      clear ho7 hg7 hI s4 x0
      go_wp2_with fail
      go_roundw
      case rel => exact ⟨i, rfl, by omega, I7⟩
      case measure => first | (simp [intOf]; done) | (simp [intOf]; omega)
    · obtain rfl : t = 0 := by omega
      have hIo := hI.out
      rw [List.drop_zero] at hIo
      obtain ⟨A, c, rfl, -, hP⟩ := hIo.out
      have FIN := hide (show OrdPost l n2 w (.returned (.slice A (toI L.reverse).length c)) wr from ⟨L, HLF.out, hP.lift HI.out.b⟩)
      clear hI hIo hP
      go_wp2_with fail
      go_ret
      exact FIN.out
end Go.Proofs.Ytlcmcmocjbeocaa
end
