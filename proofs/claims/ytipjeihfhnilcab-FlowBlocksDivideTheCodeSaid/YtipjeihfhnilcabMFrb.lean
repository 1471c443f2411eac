import Derived.Test.YtipjeihfhnilcabMFbk
set_option linter.unusedVariables false
set_option linter.unusedSimpArgs false
section
/-
  The contracts of the reference's Leaders and Block (chapter 13). Conditions: those of the types.
-/
namespace Go.Proofs.Ytipjeihfhnilcab
open Go.RowKit

set_option maxRecDepth 100000 in
set_option maxHeartbeats 2000000 in
theorem rleaders_any {P : Int} {A1 : Option Addr} {n1 c1 : Nat} {A2 : Option Addr} {n2 c2 : Nat} {l : List Ins} (w : World) (hC : Hid (CdAt w A2 n2 l)) :
    Calls Try.prog 14 #[fv P A1 n1 c1 A2 n2 c2] w (OutPost (toI (leadsL (ldr l) n2)) w) := by
  obtain ⟨i0, hi, hz0, hz1, hz2⟩ := info_parts infoI
  have hn2 := hC.out.few
  obtain ⟨W1, hW1⟩ : ∃ W, w.alloc (.cells #[.int .i64 P, .slice A1 n1 c1, .slice A2 n2 c2] 27) = W := ⟨_, rfl⟩
  have R1 := hide (show Row W1 w.heap.size 27 [.int .i64 P, .slice A1 n1 c1, .slice A2 n2 c2] by rw [← hW1]; exact Row.new w _ _)
  have I1 := hide (IntRel.start w W1 (by rw [← hW1]; exact below1 w _))
  have HW1 := hide hW1
  clear hW1
  go_enter Try.func14, Try.ntmps14
  go_upto_region 1 with (fail)
  rw [HW1.out]
  clear HW1
  go_wp2_with fail
  go_loopw [3, 4] (fun s3 s4 wr => ∃ m : Nat, m ≤ n2 ∧ s4 = .int .i64 m ∧ Hid (IntRel w (toI (leadsL (ldr l) m)) s3 wr) ∧ Hid (Row wr w.heap.size 27 [.int .i64 P, .slice A1 n1 c1, .slice A2 n2 c2])) (fun _ s4 _ => n2 - (intOf s4).toNat)
  case atStart => exact ⟨0, by omega, rfl, I1, R1⟩
  case round =>
    obtain ⟨m, hm, rfl, hR, hB⟩ := hrel
    clear I1 R1
    have q0 := hB.out.cell (k := 0) rfl
    have q1 := hB.out.cell (k := 1) rfl
    have q2 := hB.out.cell (k := 2) rfl
    by_cases hlt : m < n2
    · have cl := rleader_any (P := P) (A1 := A1) (n1 := n1) (c1 := c1) (c2 := c2) m wr (hide (hC.out.below hR.out.2)) hlt
      have hm0 : (0 : Int) ≤ (m : Int) := by omega
      have hmn : (m : Int) < (n2 : Int) := by omega
      have HSU := hide (leadsL_succ (ldr l) m)
      have HLE := hide (leadsL_len (ldr l) m)
      obtain ⟨r, hr⟩ : ∃ r, leadsL (ldr l) m = r := ⟨_, rfl⟩
      rw [hr] at hR HSU HLE
      cases hL : ldr l m with
      | false =>
        rw [hL] at cl HSU
        clear hL hr
        go_wp2_with fail
        refine cl.mono ?_
        rintro e w2 ⟨rfl, hb2⟩
        have I2 := hide (show IntRel w (toI (leadsL (ldr l) (m + 1))) u3 w2 by rw [HSU.out]; simpa using hR.out.call hb2)
        have B2 := hide (hB.out.call hb2)
        clear cl hb2 q0 q1 q2
        go_wp2_with fail
        go_roundw
        case rel => exact ⟨m + 1, by omega, by go_num, I2, B2⟩
        case measure => simp [intOf]; omega
      | true =>
        rw [hL] at cl HSU
        have HSU := hide (show leadsL (ldr l) (m + 1) = r ++ [m] by rw [HSU.out]; simp)
        clear hL hr
        go_wp2_with fail
        refine cl.mono ?_
        rintro e w2 ⟨rfl, hb2⟩
        have I2 := hide (hR.out.call hb2)
        have B2 := hide (hB.out.call hb2)
        have HSZ := hide I2.out.2.size
        clear cl hb2 q0 q1 q2
        go_upto_region 4 with (at_builtin; refine wpList_append_own _ rfl (.tmp 15) (.tmp 17) 38 rfl w.heap.size 3 i0 (.int .i64 0) 1 8 Try.underlying38 hi hz0 hz1 hz2 rfl (by decide) _ (toI r).length (cellsI (toI r)) rfl (I2.out.1.alloc _) ⟨w2.heap.size, 0, none⟩ 1 1 [.int .i64 (m : Int)] rfl rfl (one_new _ _ _) (one_cell _) (by have := HLE.out; rw [toI_len]; unfold maxLen; omega) (by have := HLE.out; rw [toI_len]; omega) (Nat.le_trans HSZ.out (by simp)) ?_)
        intro v4 w4 ho4 hg4 _
        have I4 := hide (show IntRel w (toI (leadsL (ldr l) (m + 1))) v4 w4 by rw [HSU.out, toI_append]; exact IntRel.step I2 ho4 hg4)
        have B4 := hide (B2.out.append I2.out.1 (by decide) hg4)
        clear ho4 hg4
        go_wp2_with fail
        go_roundw
        case rel => exact ⟨m + 1, by omega, by go_num, I4, B4⟩
        case measure => simp [intOf]; omega
    · obtain rfl : m = n2 := by omega
      go_wp2_with fail
      go_ret
      exact hR.out.done
/-- What the reference's Block keeps in memory. -/
def RbI (w : World) (P : Int) (A1 : Option Addr) (n1 c1 : Nat) (A2 : Option Addr) (n2 c2 : Nat) (wr : World) : Prop :=
  Row wr w.heap.size 27 [.int .i64 P, .slice A1 n1 c1, .slice A2 n2 c2] ∧ Row wr (w.heap.size + 1) 35 [.int .i64 0, .int .i64 0] ∧ Below w.heap.size w wr
theorem RbI.call {w wr w2 : World} {P : Int} {A1 : Option Addr} {n1 c1 : Nat} {A2 : Option Addr} {n2 c2 : Nat} (h : RbI w P A1 n1 c1 A2 n2 c2 wr) (hb : Below wr.heap.size wr w2) : RbI w P A1 n1 c1 A2 n2 c2 w2 := ⟨h.1.call hb, h.2.1.call hb, below_call h.2.2 hb⟩
set_option maxRecDepth 100000 in
set_option maxHeartbeats 2000000 in
theorem rblock_out {P : Int} {A1 : Option Addr} {n1 c1 : Nat} {A2 : Option Addr} {n2 c2 : Nat} (z : Int) (w : World) (hz : withB z n2 = false) :
    Calls Try.prog 11 #[fv P A1 n1 c1 A2 n2 c2, .int .i64 z] w fun e w' => e = .returned (pv 0 0) ∧ Below w.heap.size w w' := by
  obtain ⟨W1, hW1⟩ : ∃ W, (w.alloc (.cells #[.int .i64 P, .slice A1 n1 c1, .slice A2 n2 c2] 27)).alloc (.cells #[.int .i64 0, .int .i64 0] 35) = W := ⟨_, rfl⟩
  have R1 := hide (show RbI w P A1 n1 c1 A2 n2 c2 W1 by
    rw [← hW1]; exact ⟨(Row.new w _ _).alloc _, (Row.new (w.alloc _) 35 [.int .i64 0, .int .i64 0]).at_ (by simp), below2 w _ _⟩)
  have HW1 := hide hW1
  have hw := withB_false.1 hz
  clear hW1 hz
  have Z3 := hide ((R1.out.2.1.set_ 0 (.int .i64 0)).set_ 1 (.int .i64 0))
  have f0 := R1.out.2.1.free 0
  have f1 := R1.out.2.1.free 1
  have z0 := R1.out.2.1.cell (k := 0) rfl
  have z1 := R1.out.2.1.cell (k := 1) rfl
  have q2 := R1.out.1.cell (k := 2) rfl
  by_cases h0 : z < 0
  · clear hw
    go_enter Try.func11, Try.ntmps11
    go_upto_region 1 with (fail)
    rw [HW1.out]
    go_wp2_with fail
    have y0 := Z3.out.cell (k := 0) rfl
    have y1 := Z3.out.cell (k := 1) rfl
    refine bodyPost_ret (v := pv 0 0) (by simp [results, Try.results11, go_sem, y0, y1]) rfl ⟨rfl, (R1.out.2.2.setCell (p := ⟨w.heap.size + 1, 0, none⟩) (by simp) _).setCell (p := ⟨w.heap.size + 1, 1, none⟩) (by simp) _⟩
  · have h1 : (n2 : Int) ≤ z := by omega
    clear hw
    go_enter Try.func11, Try.ntmps11
    go_upto_region 1 with (fail)
    rw [HW1.out]
    go_wp2_with fail
    have y0 := Z3.out.cell (k := 0) rfl
    have y1 := Z3.out.cell (k := 1) rfl
    refine bodyPost_ret (v := pv 0 0) (by simp [results, Try.results11, go_sem, y0, y1]) rfl ⟨rfl, (R1.out.2.2.setCell (p := ⟨w.heap.size + 1, 0, none⟩) (by simp) _).setCell (p := ⟨w.heap.size + 1, 1, none⟩) (by simp) _⟩
set_option maxRecDepth 100000 in
set_option maxHeartbeats 4000000 in
theorem rblock_any {P : Int} {A1 : Option Addr} {n1 c1 : Nat} {A2 : Option Addr} {n2 c2 : Nat} {l : List Ins} (k : Nat) (w : World) (hC : Hid (CdAt w A2 n2 l)) (hk : k < n2) :
    Calls Try.prog 11 #[fv P A1 n1 c1 A2 n2 c2, .int .i64 (k : Int)] w (BlkPost l n2 k w) := by
  have hn2 := hC.out.few
  obtain ⟨W1, hW1⟩ : ∃ W, (w.alloc (.cells #[.int .i64 P, .slice A1 n1 c1, .slice A2 n2 c2] 27)).alloc (.cells #[.int .i64 0, .int .i64 0] 35) = W := ⟨_, rfl⟩
  have R1 := hide (show RbI w P A1 n1 c1 A2 n2 c2 W1 by
    rw [← hW1]; exact ⟨(Row.new w _ _).alloc _, (Row.new (w.alloc _) 35 [.int .i64 0, .int .i64 0]).at_ (by simp), below2 w _ _⟩)
  have HW1 := hide hW1
  have cl := fun (j : Nat) (W : World) (hb : Below w.heap.size w W) (hj : j < n2) => rleader_any (P := P) (A1 := A1) (n1 := n1) (c1 := c1) (c2 := c2) j W (hide (hC.out.below hb)) hj
  have CL := hide cl
  have hwk : IntKind.i64.wrap ((k : Int) + 1) = (k : Int) + 1 := by rw [IntKind.wrap_i64]; omega
  have hk0 : (0 : Int) ≤ (k : Int) := by omega
  have hkn : (k : Int) < (n2 : Int) := by omega
  have HL0 := hide (ldr_zero l)
  have hd0 : decide ((k : Int) < 0) = false := decide_eq_false (by omega)
  have hd1 : decide (n2 ≤ k) = false := decide_eq_false (by omega)
  have hd2 : decide ((n2 : Int) ≤ (k : Int)) = false := decide_eq_false (by omega)
  clear hW1 cl
  have q2 := R1.out.1.cell (k := 2) rfl
  go_enter Try.func11, Try.ntmps11
  go_upto_region 1 with (fail)
  rw [HW1.out]
  go_wp2_with fail
  clear q2 HW1
  go_loopw [5] (fun s wr => ∃ f : Nat, s = .int .i64 f ∧ f ≤ k ∧ Hid (∀ j, f < j → j ≤ k → ldr l j = false) ∧ Hid (RbI w P A1 n1 c1 A2 n2 c2 wr)) (fun s _ => (intOf s).toNat)
  case atStart => exact ⟨k, rfl, Nat.le_refl _, hide (fun j h1 h2 => by omega), R1⟩
  case round =>
    obtain ⟨f, rfl, hf, hno, hR⟩ := hrel
    clear R1
    have q0 := hR.out.1.cell (k := 0) rfl
    have q1 := hR.out.1.cell (k := 1) rfl
    have q2 := hR.out.1.cell (k := 2) rfl
    have cf := CL.out f wr hR.out.2.2 (by omega)
    cases hL : ldr l f with
    | false =>
      rw [hL] at cf
      have hfp : f ≠ 0 := by
        intro e
        rw [e, HL0.out] at hL
        cases hL
      obtain ⟨j, rfl⟩ : ∃ j, f = j + 1 := ⟨f - 1, by omega⟩
      have HNO := hide (show ∀ i, j < i → i ≤ k → ldr l i = false from fun i h1 h2 => by
        by_cases e : i = j + 1
        · rw [e]; exact hL
        · exact hno.out i (by omega) h2)
      have hwj : IntKind.i64.wrap ((j : Int) + 1 - 1) = (j : Int) := by rw [IntKind.wrap_i64]; omega
      clear hL hno
      go_wp2_with fail
      refine cf.mono ?_
      rintro e w2 ⟨rfl, hb2⟩
      have R2 := hide (hR.out.call hb2)
      clear cf hb2 q0 q1 q2
      go_wp2_with fail
      go_roundw
      case rel => exact ⟨j, by go_num, by omega, HNO, R2⟩
      case measure => simp [intOf]
    | true =>
      rw [hL] at cf
      have HLF := hide hL
      clear hL
      go_wp2_with fail
      refine cf.mono ?_
      rintro e w2 ⟨rfl, hb2⟩
      have R2 := hide (hR.out.call hb2)
      clear cf hb2 q0 q1 q2 hR
      go_wp2_with fail
      go_loopw [6] (fun s wr => ∃ t : Nat, s = .int .i64 t ∧ k < t ∧ t ≤ n2 ∧ Hid (∀ j, k < j → j < t → ldr l j = false) ∧ Hid (RbI w P A1 n1 c1 A2 n2 c2 wr)) (fun s _ => n2 - (intOf s).toNat)
      case atStart => exact ⟨k + 1, by go_num, by omega, by omega, hide (fun j h1 h2 => by omega), R2⟩
      case round =>
        obtain ⟨t, rfl, ht1, ht2, hnt, hR⟩ := hrel
        clear R2
        have q0 := hR.out.1.cell (k := 0) rfl
        have q1 := hR.out.1.cell (k := 1) rfl
        have q2 := hR.out.1.cell (k := 2) rfl
        have fin : (t = n2 ∨ ldr l t = true) → IsBlk (ldr l) n2 k f t := fun h => ⟨hf, ht1, ht2, HLF.out, h, fun j h1 h2 => by
          by_cases e : j ≤ k
          · exact hno.out j h1 e
          · exact hnt.out j (by omega) h2⟩
        have FIN := hide fin
        have hws : IntKind.i64.wrap ((t : Int) - (f : Int)) = (t : Int) - (f : Int) := by rw [IntKind.wrap_i64]; omega
        clear fin
        by_cases hlt : t < n2
        · have ht0 : (0 : Int) ≤ (t : Int) := by omega
          have htn : (t : Int) < (n2 : Int) := by omega
          have cf := CL.out t wr hR.out.2.2 hlt
          cases hL : ldr l t with
          | false =>
            rw [hL] at cf
            have HNT := hide (show ∀ i, k < i → i < t + 1 → ldr l i = false from fun i h1 h2 => by
              by_cases e : i = t
              · rw [e]; exact hL
              · exact hnt.out i h1 (by omega))
            clear hL hnt FIN
            go_wp2_with fail
            refine cf.mono ?_
            rintro e w3 ⟨rfl, hb3⟩
            have R3 := hide (hR.out.call hb3)
            clear cf hb3 q0 q1 q2
            go_wp2_with fail
            go_roundw
            case rel => exact ⟨t + 1, by go_num, by omega, by omega, HNT, R3⟩
            case measure => simp [intOf]; omega
          | true =>
            rw [hL] at cf
            have HB := hide (FIN.out (.inr hL))
            clear hL hnt FIN hno
            go_wp2_with fail
            refine cf.mono ?_
            rintro e w3 ⟨rfl, hb3⟩
            have R3 := hide (hR.out.call hb3)
            clear cf hb3 q0 q1 q2 hR
            have x0 := R3.out.2.1.cell (k := 0) rfl
            have x1 := R3.out.2.1.cell (k := 1) rfl
            have f0 := R3.out.2.1.free 0
            have f1 := R3.out.2.1.free 1
            have Z4 := hide ((R3.out.2.1.set_ 0 (.int .i64 (f : Int))).set_ 1 (.int .i64 ((t : Int) - (f : Int))))
            go_wp2_with fail
            have y0 := Z4.out.cell (k := 0) rfl
            have y1 := Z4.out.cell (k := 1) rfl
            refine bodyPost_ret (v := pv (f : Int) ((t : Int) - (f : Int))) (by simp [results, Try.results11, go_sem, y0, y1]) rfl ⟨f, t, rfl, HB.out, (R3.out.2.2.setCell (p := ⟨w.heap.size + 1, 0, none⟩) (by simp) _).setCell (p := ⟨w.heap.size + 1, 1, none⟩) (by simp) _⟩
        · obtain rfl : t = n2 := by omega
          have HB := hide (FIN.out (.inl rfl))
          clear hnt FIN hno
          have x0 := hR.out.2.1.cell (k := 0) rfl
          have x1 := hR.out.2.1.cell (k := 1) rfl
          have f0 := hR.out.2.1.free 0
          have f1 := hR.out.2.1.free 1
          have Z4 := hide ((hR.out.2.1.set_ 0 (.int .i64 (f : Int))).set_ 1 (.int .i64 ((t : Int) - (f : Int))))
          go_wp2_with fail
          have y0 := Z4.out.cell (k := 0) rfl
          have y1 := Z4.out.cell (k := 1) rfl
          refine bodyPost_ret (v := pv (f : Int) ((t : Int) - (f : Int))) (by simp [results, Try.results11, go_sem, y0, y1]) rfl ⟨f, t, rfl, HB.out, (hR.out.2.2.setCell (p := ⟨w.heap.size + 1, 0, none⟩) (by simp) _).setCell (p := ⟨w.heap.size + 1, 1, none⟩) (by simp) _⟩
end Go.Proofs.Ytipjeihfhnilcab
end
