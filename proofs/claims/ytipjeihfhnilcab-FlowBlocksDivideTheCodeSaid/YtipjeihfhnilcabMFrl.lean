import Derived.Test.YtipjeihfhnilcabMFsm
import Derived.Test.YtipjeihfhnilcabMFlds
set_option linter.unusedVariables false
set_option linter.unusedSimpArgs false
section
/-
  The contracts of the reference's leader and Leaders (chapter 13). Conditions: those of the types.
-/
namespace Go.Proofs.Ytipjeihfhnilcab
open Go.RowKit

theorem ldr_true_a {l : List Ins} {j : Nat} {x : Ins} (hx : l[j]? = some x) (h : endB x.op = true) : ldr l (j + 1) = true := by simp [ldr, ldrA, hx, h]
theorem ldr_true_t {l : List Ins} {i k : Nat} {x : Ins} (hx : l[i]? = some x) (h : tgtX x = (k : Int)) : ldr l k = true := by
  unfold ldr; rw [Bool.or_eq_true]; exact .inr (ldrT_true.2 ⟨i, x, (List.getElem?_eq_some_iff.1 hx).1, hx, h⟩)
theorem ldr_false {l : List Ins} {j : Nat} {x : Ins} (hx : l[j]? = some x) (h : endB x.op = false) (ht : ldrT l l.length (j + 1) = false) : ldr l (j + 1) = false := by simp [ldr, ldrA, hx, h, ht]
theorem endB_false {op : Int} (h : endB op = false) : op ≠ 20 ∧ op ≠ 21 ∧ op ≠ 23 ∧ op ≠ 24 := by
  simp [endB, termB] at h; exact ⟨h.2.1.1, h.1, h.2.1.2, h.2.2⟩
theorem endB_true {op : Int} (h : endB op = true) : op = 20 ∨ op = 21 ∨ op = 23 ∨ op = 24 := by
  simp [endB, termB] at h; omega
set_option maxRecDepth 100000 in
set_option maxHeartbeats 2000000 in
theorem rleader_any {P : Int} {A1 : Option Addr} {n1 c1 : Nat} {A2 : Option Addr} {n2 c2 : Nat} {l : List Ins} (k : Nat) (w : World) (hC : Hid (CdAt w A2 n2 l)) (hk : k < n2) :
    Calls Try.prog 22 #[fv P A1 n1 c1 A2 n2 c2, .int .i64 (k : Int)] w fun e w' => e = .returned (.bool (ldr l k)) ∧ Below w.heap.size w w' := by
  have hlen := hC.out.len
  have hn2 := hC.out.few
  rcases Nat.eq_zero_or_pos k with rfl | hk0
  · have HZ := hide (ldr_zero l)
    go_enter Try.func22, Try.ntmps22
    go_wp2_with fail
    go_ret
    exact ⟨ret_bool HZ.out.symm, below1 _ _⟩
  · obtain ⟨j, rfl⟩ : ∃ j, k = j + 1 := ⟨k - 1, by omega⟩
    have hj : j < l.length := by omega
    have hx := List.getElem?_eq_getElem hj
    obtain ⟨b, off, rfl, hb, y0, -, -, -, -⟩ := ins_at hC.out.see hj
    have HTR := hide (fun h => ldr_true_a (l := l) (j := j) hx h)
    have HFA := hide (fun h ht => ldr_false (l := l) (j := j) hx h ht)
    obtain ⟨op, hop⟩ : ∃ o, l[j].op = o := ⟨_, rfl⟩
    rw [hop] at y0 HTR HFA
    obtain ⟨W1, hW1⟩ : ∃ W, w.alloc (.cells #[.int .i64 P, .slice A1 n1 c1, .slice (some ⟨b, off, none⟩) n2 c2] 27) = W := ⟨_, rfl⟩
    have R1 := hide (show Row W1 w.heap.size 27 [.int .i64 P, .slice A1 n1 c1, .slice (some ⟨b, off, none⟩) n2 c2] by rw [← hW1]; exact Row.new w _ _)
    have B1 := hide (show Below w.heap.size w W1 by rw [← hW1]; exact below1 w _)
    have HW1 := hide hW1
    have y0 := keep_cellB B1.out y0
    have hwj : IntKind.i64.wrap ((j : Int) + 1 - 1) = (j : Int) := by rw [IntKind.wrap_i64]; omega
    have hj0 : (0 : Int) ≤ (j : Int) := by omega
    have hjn : (j : Int) < (n2 : Int) := by omega
    have hne : ((j : Int) + 1 == 0) = false := by rw [beq_eq_false_iff_ne]; omega
    have HL := hide hlen
    clear hW1 hx hop hj hlen hk0
    cases hE : endB op with
    | true =>
      have HT := hide (HTR.out hE)
      have h4 := endB_true hE
      clear hE HTR HFA
      rcases h4 with rfl | rfl | rfl | rfl
      all_goals
        go_enter Try.func22, Try.ntmps22
        go_upto_region 1 with (fail)
        rw [HW1.out]
        have q2 := R1.out.cell (k := 2) rfl
        go_wp2_with fail
        go_ret
        exact ⟨ret_bool HT.out.symm, B1.out⟩
    | false =>
      obtain ⟨n20, n21, n23, n24⟩ := endB_false hE
      have HF := hide (fun ht => HFA.out hE ht)
      have e20 : (op == 20) = false := by rw [beq_eq_false_iff_ne]; exact n20
      have e21 : (op == 21) = false := by rw [beq_eq_false_iff_ne]; exact n21
      have e23 : (op == 23) = false := by rw [beq_eq_false_iff_ne]; exact n23
      have e24 : (op == 24) = false := by rw [beq_eq_false_iff_ne]; exact n24
      clear hE HTR HFA n20 n21 n23 n24
      go_enter Try.func22, Try.ntmps22
      go_upto_region 1 with (fail)
      rw [HW1.out]
      have q2 := R1.out.cell (k := 2) rfl
      go_wp2_with fail
      clear q2 y0 hwj e20 e21 e23 e24 HW1
      go_loopw [5] (fun s wr => ∃ i : Nat, i ≤ n2 ∧ s = .int .i64 i ∧ Hid (ldrT l i (j + 1) = false) ∧ Hid (Row wr w.heap.size 27 [.int .i64 P, .slice A1 n1 c1, .slice (some ⟨b, off, none⟩) n2 c2] ∧ Below w.heap.size w wr)) (fun s _ => n2 - (intOf s).toNat)
      case atStart => exact ⟨0, by omega, rfl, hide (ldrT_zero l _), hide ⟨R1.out, B1.out⟩⟩
      case round =>
        obtain ⟨i, hi, rfl, hT, hR⟩ := hrel
        clear R1 B1
        have q2 := hR.out.1.cell (k := 2) rfl
        by_cases hlt : i < n2
        · have hil : i < l.length := by have := HL.out; omega
          have hx := List.getElem?_eq_getElem hil
          obtain ⟨b', off', he, -, x0, x1, x2, x3, x4⟩ := ins_at (hC.out.below hR.out.2).see hil
          injection he with he
          injection he with he1 he2
          subst he1 he2
          have HX := hide hx
          generalize l[i] = x at x0 x1 x2 x3 x4 HX
          have HSTEP := hide (ldrT_step HX.out (j + 1))
          have HTRT := hide (fun h => ldr_true_t (k := j + 1) HX.out h)
          have hi0 : (0 : Int) ≤ (i : Int) := by omega
          have hin : (i : Int) < (n2 : Int) := by omega
          obtain ⟨op', a, b', c, im⟩ := x
          dsimp only at x0 x1 x2 x3 x4
          clear hx hil
          obtain ⟨W2, hW2⟩ : ∃ W, wr.alloc (.cells #[.int .i64 op', .int .i64 a, .int .i64 b', .int .i64 c, .int .u64 im] 44) = W := ⟨_, rfl⟩
          have R2 := hide (show Row W2 wr.heap.size 44 [.int .i64 op', .int .i64 a, .int .i64 b', .int .i64 c, .int .u64 im] by rw [← hW2]; exact Row.new wr _ _)
          have H2 := hide (show Row W2 w.heap.size 27 [.int .i64 P, .slice A1 n1 c1, .slice (some ⟨b, off, none⟩) n2 c2] ∧ Below w.heap.size w W2 by rw [← hW2]; exact ⟨hR.out.1.alloc _, hR.out.2.alloc hR.out.2.size _⟩)
          have HW2 := hide hW2
          clear hW2
          go_upto_region 13 with (fail)
          rw [HW2.out]
          clear x0 x1 x2 x3 x4 q2 HW2 hR
          have z0 := R2.out.cell (k := 0) rfl
          have z1 := R2.out.cell (k := 1) rfl
          have z2 := R2.out.cell (k := 2) rfl
          by_cases h20 : op' = 20
          · subst h20
            by_cases ha : a = (j : Int) + 1
            · have HH := hide (HTRT.out (show tgtX ⟨20, a, b', c, im⟩ = ((j + 1 : Nat) : Int) by simp [tgtX]; omega))
              subst ha
              clear HSTEP HTRT hT HF
              go_wp2_with fail
              go_ret
              exact ⟨ret_bool HH.out.symm, H2.out.2⟩
            · have HH := hide (show ldrT l (i + 1) (j + 1) = false by rw [HSTEP.out, hT.out]; simp [tgtX]; omega)
              have hab : (a == (j : Int) + 1) = false := by rw [beq_eq_false_iff_ne]; exact ha
              clear HSTEP HTRT hT ha
              go_wp2_with fail
              go_roundw
              case rel => exact ⟨i + 1, by omega, by go_num, HH, H2⟩
              case measure => simp [intOf]; omega
          · by_cases h21 : op' = 21
            · subst h21
              by_cases ha : b' = (j : Int) + 1
              · have HH := hide (HTRT.out (show tgtX ⟨21, a, b', c, im⟩ = ((j + 1 : Nat) : Int) by simp [tgtX]; omega))
                subst ha
                clear HSTEP HTRT hT HF
                go_wp2_with fail
                go_ret
                exact ⟨ret_bool HH.out.symm, H2.out.2⟩
              · have HH := hide (show ldrT l (i + 1) (j + 1) = false by rw [HSTEP.out, hT.out]; simp [tgtX]; omega)
                have hab : (b' == (j : Int) + 1) = false := by rw [beq_eq_false_iff_ne]; exact ha
                clear HSTEP HTRT hT ha
                go_wp2_with fail
                go_roundw
                case rel => exact ⟨i + 1, by omega, by go_num, HH, H2⟩
                case measure => simp [intOf]; omega
            · have HH := hide (show ldrT l (i + 1) (j + 1) = false by rw [HSTEP.out, hT.out]; simp [tgtX, h20, h21]; omega)
              have e20 : (op' == 20) = false := by rw [beq_eq_false_iff_ne]; exact h20
              have e21 : (op' == 21) = false := by rw [beq_eq_false_iff_ne]; exact h21
              clear HSTEP HTRT hT h20 h21
              go_wp2_with fail
              go_roundw
              case rel => exact ⟨i + 1, by omega, by go_num, HH, H2⟩
              case measure => simp [intOf]; omega
        · obtain rfl : i = n2 := by omega
          have HH := hide (HF.out (by rw [HL.out]; exact hT.out))
          go_wp2_with fail
          go_ret
          exact ⟨ret_bool HH.out.symm, hR.out.2⟩
end Go.Proofs.Ytipjeihfhnilcab
end
