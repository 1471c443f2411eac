import Derived.Test.YtipjeihfhnilcabMFrl
set_option linter.unusedVariables false
set_option linter.unusedSimpArgs false
section
/-
  The contracts of flow.Block, and of the reference's Leaders and Block (chapter 13). Conditions: those of the types.
-/
namespace Go.Proofs.Ytipjeihfhnilcab
open Go.RowKit

/-- How Block returns: the block of k. -/
def BlkPost (l : List Ins) (n k : Nat) (w : World) (e : Ending) (w' : World) : Prop :=
  ∃ f t : Nat, e = .returned (pv (f : Int) ((t : Int) - (f : Int))) ∧ IsBlk (ldr l) n k f t ∧ Below w.heap.size w w'
set_option maxRecDepth 100000 in
set_option maxHeartbeats 2000000 in
theorem block_out {P : Int} {A1 : Option Addr} {n1 c1 : Nat} {A2 : Option Addr} {n2 c2 : Nat} (z : Int) (w : World) (hz : withB z n2 = false) :
    Calls Try.prog 10 #[fv P A1 n1 c1 A2 n2 c2, .int .i64 z] w fun e w' => e = .returned (pv 0 0) ∧ Below w.heap.size w w' := by
  obtain ⟨W1, hW1⟩ : ∃ W, (w.alloc (.cells #[.int .i64 P, .slice A1 n1 c1, .slice A2 n2 c2] 27)).alloc (.cells #[.int .i64 0, .int .i64 0] 35) = W := ⟨_, rfl⟩
  have R1 := hide (show Row W1 w.heap.size 27 [.int .i64 P, .slice A1 n1 c1, .slice A2 n2 c2] by rw [← hW1]; exact (Row.new w _ _).alloc _)
  have RZ := hide (show Row W1 (w.heap.size + 1) 35 [.int .i64 0, .int .i64 0] by rw [← hW1]; exact (Row.new (w.alloc _) 35 [.int .i64 0, .int .i64 0]).at_ (by simp))
  have B1 := hide (show Below w.heap.size w W1 by rw [← hW1]; exact below2 w _ _)
  have HW1 := hide hW1
  have ce := exists_any P A1 n1 c1 A2 n2 c2 z W1
  rw [hz] at ce
  clear hW1 hz
  go_enter Try.func10, Try.ntmps10
  go_upto_region 1 with (fail)
  rw [HW1.out]
  have q0 := R1.out.cell (k := 0) rfl
  have q1 := R1.out.cell (k := 1) rfl
  have q2 := R1.out.cell (k := 2) rfl
  go_wp2_with fail
  refine ce.mono ?_
  rintro e w2 ⟨rfl, hb2⟩
  have Z2 := hide (RZ.out.call hb2)
  have B2 := hide (below_call B1.out hb2)
  clear hb2 ce q0 q1 q2 HW1 R1 RZ B1
  have z0 := Z2.out.cell (k := 0) rfl
  have z1 := Z2.out.cell (k := 1) rfl
  have f0 := Z2.out.free 0
  have f1 := Z2.out.free 1
  have Z3 := hide ((Z2.out.set_ 0 (.int .i64 0)).set_ 1 (.int .i64 0))
  go_wp2_with fail
  have y0 := Z3.out.cell (k := 0) rfl
  have y1 := Z3.out.cell (k := 1) rfl
  refine bodyPost_ret (v := pv 0 0) (by simp [results, Try.results10, go_sem, y0, y1]) rfl ⟨rfl, (B2.out.setCell (p := ⟨w.heap.size + 1, 0, none⟩) (by simp) _).setCell (p := ⟨w.heap.size + 1, 1, none⟩) (by simp) _⟩
set_option maxRecDepth 100000 in
set_option maxHeartbeats 2000000 in
theorem block_any {P : Int} {A1 : Option Addr} {n1 c1 : Nat} {A2 : Option Addr} {n2 c2 : Nat} {l : List Ins} (k : Nat) (w : World) (hC : Hid (CdAt w A2 n2 l)) (hk : k < n2) :
    Calls Try.prog 10 #[fv P A1 n1 c1 A2 n2 c2, .int .i64 (k : Int)] w (BlkPost l n2 k w) := by
  have hlen := hC.out.len
  have hn2 := hC.out.few
  obtain ⟨W1, hW1⟩ : ∃ W, (w.alloc (.cells #[.int .i64 P, .slice A1 n1 c1, .slice A2 n2 c2] 27)).alloc (.cells #[.int .i64 0, .int .i64 0] 35) = W := ⟨_, rfl⟩
  have R1 := hide (show Row W1 w.heap.size 27 [.int .i64 P, .slice A1 n1 c1, .slice A2 n2 c2] by rw [← hW1]; exact (Row.new w _ _).alloc _)
  have RZ := hide (show Row W1 (w.heap.size + 1) 35 [.int .i64 0, .int .i64 0] by rw [← hW1]; exact (Row.new (w.alloc _) 35 [.int .i64 0, .int .i64 0]).at_ (by simp))
  have B1 := hide (show Below w.heap.size w W1 by rw [← hW1]; exact below2 w _ _)
  have HW1 := hide hW1
  have ce := exists_any P A1 n1 c1 A2 n2 c2 (k : Int) W1
  rw [withB_true.2 ⟨by omega, by omega⟩] at ce
  have cl := fun (W : World) (hb : Below w.heap.size w W) => leading_any (P := P) (A1 := A1) (n1 := n1) (c1 := c1) (c2 := c2) W (hide (hC.out.below hb))
  have CL := hide cl
  have HL := hide hlen
  have hwk : IntKind.i64.wrap ((k : Int) + 1) = (k : Int) + 1 := by rw [IntKind.wrap_i64]; omega
  clear hW1 hlen cl
  go_enter Try.func10, Try.ntmps10
  go_upto_region 1 with (fail)
  rw [HW1.out]
  have q0 := R1.out.cell (k := 0) rfl
  have q1 := R1.out.cell (k := 1) rfl
  have q2 := R1.out.cell (k := 2) rfl
  go_wp2_with fail
  refine ce.mono ?_
  rintro e w2 ⟨rfl, hb2⟩
  have R2 := hide (R1.out.call hb2)
  have Z2 := hide (RZ.out.call hb2)
  have B2 := hide (below_call B1.out hb2)
  clear hb2 ce q0 q1 q2 HW1 R1 RZ B1
  have q0 := R2.out.cell (k := 0) rfl
  have q1 := R2.out.cell (k := 1) rfl
  have q2 := R2.out.cell (k := 2) rfl
  go_wp2_with fail
  refine (CL.out w2 B2.out).mono ?_
  rintro e w3 ⟨G, rfl, hG, hGs, hb3⟩
  rw [ldrL_len, HL.out]
  have Z3 := hide (Z2.out.call hb3)
  have B3 := hide (below_call B2.out hb3)
  have HG := hide hG
  clear hG hGs hb3 CL q0 q1 q2 R2 Z2 B2
  have at_ : ∀ j : Nat, j < n2 → w3.cell? ⟨G, j, none⟩ = some (.bool (ldr l j)) := fun j hj => HG.out.cell (bcells_at (ldrL_end (by have := HL.out; omega)))
  have AT := hide at_
  clear at_
  go_wp2_with fail
  go_loop [6] (fun s => ∃ f : Nat, s = .int .i64 f ∧ f ≤ k ∧ Hid (∀ j, f < j → j ≤ k → ldr l j = false)) (fun s => (intOf s).toNat)
  case atStart => exact ⟨k, rfl, Nat.le_refl _, hide (fun j h1 h2 => by omega)⟩
  case round =>
    obtain ⟨f, rfl, hf, hno⟩ := hrel
    have z0 := AT.out f (by omega)
    have hf0 : (0 : Int) ≤ (f : Int) := by omega
    have hfn : (f : Int) < (n2 : Int) := by omega
    cases hL : ldr l f with
    | false =>
      rw [hL] at z0
      have hfp : f ≠ 0 := by
        intro e
        rw [e, ldr_zero] at hL
        cases hL
      obtain ⟨j, rfl⟩ : ∃ j, f = j + 1 := ⟨f - 1, by omega⟩
      have HNO := hide (show ∀ i, j < i → i ≤ k → ldr l i = false from fun i h1 h2 => by
        by_cases e : i = j + 1
        · rw [e]; exact hL
        · exact hno.out i (by omega) h2)
      have hwj : IntKind.i64.wrap ((j : Int) + 1 - 1) = (j : Int) := by rw [IntKind.wrap_i64]; omega
      clear hL hno
      go_wp2_with fail
      go_round
      case rel => exact ⟨j, by go_num, by omega, HNO⟩
      case measure => simp [intOf]
    | true =>
      rw [hL] at z0
      have HLF := hide hL
      clear hL
      go_wp2_with fail
      clear z0
      go_loop [7] (fun s => ∃ t : Nat, s = .int .i64 t ∧ k < t ∧ t ≤ n2 ∧ Hid (∀ j, k < j → j < t → ldr l j = false)) (fun s => n2 - (intOf s).toNat)
      case atStart => exact ⟨k + 1, by go_num, by omega, by omega, hide (fun j h1 h2 => by omega)⟩
      case round =>
        obtain ⟨t, rfl, ht1, ht2, hnt⟩ := hrel
        have fin : (t = n2 ∨ ldr l t = true) → IsBlk (ldr l) n2 k f t := fun h => ⟨hf, ht1, ht2, HLF.out, h, fun j h1 h2 => by
          by_cases e : j ≤ k
          · exact hno.out j h1 e
          · exact hnt.out j (by omega) h2⟩
        have FIN := hide fin
        clear fin
        by_cases hlt : t < n2
        · have z0 := AT.out t hlt
          have ht0 : (0 : Int) ≤ (t : Int) := by omega
          have htn : (t : Int) < (n2 : Int) := by omega
          cases hL : ldr l t with
          | false =>
            rw [hL] at z0
            have HNT := hide (show ∀ i, k < i → i < t + 1 → ldr l i = false from fun i h1 h2 => by
              by_cases e : i = t
              · rw [e]; exact hL
              · exact hnt.out i h1 (by omega))
            clear hL hnt FIN
            go_wp2_with fail
            go_round
            case rel => exact ⟨t + 1, by go_num, by omega, by omega, HNT⟩
            case measure => simp [intOf]; omega
          | true =>
            rw [hL] at z0
            have HB := hide (FIN.out (.inr hL))
            have hws : IntKind.i64.wrap ((t : Int) - (f : Int)) = (t : Int) - (f : Int) := by rw [IntKind.wrap_i64]; omega
            clear hL hnt FIN hno
            have x0 := Z3.out.cell (k := 0) rfl
            have x1 := Z3.out.cell (k := 1) rfl
            have f0 := Z3.out.free 0
            have f1 := Z3.out.free 1
            have Z4 := hide ((Z3.out.set_ 0 (.int .i64 (f : Int))).set_ 1 (.int .i64 ((t : Int) - (f : Int))))
            go_wp2_with fail
            have y0 := Z4.out.cell (k := 0) rfl
            have y1 := Z4.out.cell (k := 1) rfl
            refine bodyPost_ret (v := pv (f : Int) ((t : Int) - (f : Int))) (by simp [results, Try.results10, go_sem, y0, y1]) rfl ⟨f, t, rfl, HB.out, (B3.out.setCell (p := ⟨w.heap.size + 1, 0, none⟩) (by simp) _).setCell (p := ⟨w.heap.size + 1, 1, none⟩) (by simp) _⟩
        · obtain rfl : t = n2 := by omega
          have HB := hide (FIN.out (.inl rfl))
          have hws : IntKind.i64.wrap ((t : Int) - (f : Int)) = (t : Int) - (f : Int) := by rw [IntKind.wrap_i64]; omega
          clear hnt FIN hno
          have x0 := Z3.out.cell (k := 0) rfl
          have x1 := Z3.out.cell (k := 1) rfl
          have f0 := Z3.out.free 0
          have f1 := Z3.out.free 1
          have Z4 := hide ((Z3.out.set_ 0 (.int .i64 (f : Int))).set_ 1 (.int .i64 ((t : Int) - (f : Int))))
          go_wp2_with fail
          have y0 := Z4.out.cell (k := 0) rfl
          have y1 := Z4.out.cell (k := 1) rfl
          refine bodyPost_ret (v := pv (f : Int) ((t : Int) - (f : Int))) (by simp [results, Try.results10, go_sem, y0, y1]) rfl ⟨f, t, rfl, HB.out, (B3.out.setCell (p := ⟨w.heap.size + 1, 0, none⟩) (by simp) _).setCell (p := ⟨w.heap.size + 1, 1, none⟩) (by simp) _⟩
end Go.Proofs.Ytipjeihfhnilcab
end
