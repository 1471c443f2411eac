import Derived.Test.YtlcmcmocjbeocaaMGrep
import Derived.Test.YtlcmcmocjbeocaaMGro
import Derived.Test.YtlcmcmocjbeocaaMGrk
set_option linter.unusedVariables false
set_option linter.unusedSimpArgs false
section
/-
  The contracts of postorder.ranks and Rank, and of the reference's Rank (chapter 14). Conditions: those of the types; the function is right and has an instruction.
-/
namespace Go.Proofs.Ytlcmcmocjbeocaa
open Go.RowKit

/-- What a function leaves that hands back ints in a row of the call's own, known whole. -/
def IntsPost (Q : List Int) (w : World) (e : Ending) (w' : World) : Prop :=
  ∃ G, e = .returned (.slice (some ⟨G, 0, none⟩) Q.length Q.length) ∧ Row w' G 3 (cellsI Q) ∧ w.heap.size ≤ G ∧ Below w.heap.size w w'
/-- The ranks of an order. -/
def RnkPost (n : Nat) (O : List Nat) (w : World) (e : Ending) (w' : World) : Prop := ∃ Q, IsRk n O Q ∧ IntsPost Q w e w'
theorem cellsI_at {zs : List Int} {k : Nat} {z : Int} (h : zs[k]? = some z) : (cellsI zs)[k]? = some (.int .i64 z) := by rw [cellsI, List.getElem?_map, h]; rfl
theorem int_get {zs : List Int} {k : Nat} (h : k < zs.length) : ∃ z, zs[k]? = some z := ⟨_, List.getElem?_eq_getElem h⟩
/-- One number of a list that can be read. -/
theorem sees_at {w : World} {B : Nat} {A : Option Addr} {O : List Nat} (h : Sees w B A (cellsI (toI O))) {i : Nat} (hi : i < O.length) : ∃ b off, A = some ⟨b, off, none⟩ ∧ b < B ∧ w.cell? ⟨b, off + i, none⟩ = some (.int .i64 (O[i] : Int)) :=
  h i _ (cellsI_at (z := (O[i] : Int)) (by rw [toI_get, List.getElem?_eq_getElem hi]; rfl))
section
variable {P : Int} {A1 : Option Addr} {n1 c1 : Nat} {A2 : Option Addr} {n2 c2 : Nat} {l : List Ins} {w : World}
set_option maxRecDepth 100000 in
set_option maxHeartbeats 4000000 in
theorem ranks_any (w : World) (hn1 : 1 ≤ n2) (hn2 : n2 ≤ 1024) (A : Option Addr) (co : Nat) (O : List Nat) (hO : O.Nodup) (hlt : ∀ x ∈ O, x < n2) (hS : Hid (Sees w w.heap.size A (cellsI (toI O)))) (hm : O.length ≤ 1024) :
    Calls Try.prog 28 #[fv P A1 n1 c1 A2 n2 c2, .slice A O.length co] w (RnkPost n2 O w) := by
  obtain ⟨W1, hW1⟩ : ∃ W, w.alloc (.cells #[.int .i64 P, .slice A1 n1 c1, .slice A2 n2 c2] 27) = W := ⟨_, rfl⟩
  obtain ⟨W2, hW2⟩ : ∃ W, W1.alloc (.cells #[.int .i64 (-1)] 3) = W := ⟨_, rfl⟩
  have R1 := hide (show Row W1 w.heap.size 27 [.int .i64 P, .slice A1 n1 c1, .slice A2 n2 c2] by rw [← hW1]; exact Row.new w _ _)
  have hb1 : Below w.heap.size w W1 := by rw [← hW1]; exact below1 _ _
  have hb2 : Below W1.heap.size W1 W2 := by rw [← hW2]; exact below1 _ _
  have B2 := hide (below_call hb1 hb2)
  have R2 := hide (R1.out.call hb2)
  have x2 : W2.cell? ⟨W1.heap.size, 0, none⟩ = some (.int .i64 (-1)) := by rw [← hW2]; exact (Row.new W1 _ [.int .i64 (-1)]).cell rfl
  have cr := repeat_any (-1) W1.heap.size 0 1 n2 W2 (hide x2) hn1 (by omega)
  have HW1 := hide hW1
  have HW2 := hide hW2
  clear hW1 hW2 hb1 hb2 x2
  go_enter Try.func28, Try.ntmps28
  go_upto_region 1 with (fail)
  rw [HW1.out]
  have q2 := keep_cellB (below1 W1 (.cells #[.int .i64 (-1)] 3)) (R1.out.cell (k := 2) rfl)
  go_wp2_with fail
  rw [HW2.out]
  refine cr.mono ?_
  rintro e w3 ⟨rfl, hr3, hb3⟩
  have HR := hide hr3
  have B3 := hide (below_call B2.out hb3)
  obtain ⟨G, hG⟩ : ∃ G, W2.heap.size = G := ⟨_, rfl⟩
  have hGb : w.heap.size ≤ G := by have := B2.out.size; omega
  rw [hG] at HR ⊢
  clear hr3 hb3 hG cr q2 HW1 HW2 R1 R2 B2
  go_wp2_with fail
  go_loopw [15] (fun s15 wr => ∃ (i : Nat) (Q : List Int), s15 = .int .i64 (i : Int) ∧ i ≤ O.length ∧ Hid (RkI n2 O i Q) ∧ Hid (Row wr G 3 (cellsI Q)) ∧ Hid (Below w.heap.size w wr)) (fun s15 _ => O.length - (intOf s15).toNat)
  case atStart => exact ⟨0, _, rfl, by omega, hide (RkI.start n2 O), HR, B3⟩
  case round =>
    obtain ⟨i, Q, rfl, hiO, hQ, hR, hB⟩ := hrel
    clear HR B3
    by_cases hlt2 : i < O.length
    · obtain ⟨b, off, rfl, hbb, x0⟩ := sees_at hS.out hlt2
      have x0 := keep_cellB hB.out x0
      have hx := List.getElem?_eq_getElem hlt2
      have hxn := hlt _ (List.getElem_mem hlt2)
      have HX := hide hx
      have HS2 := hQ.out.step hO hx hxn
      generalize O[i] = x at x0 hxn HS2
      obtain ⟨z, hz⟩ := int_get (zs := Q) (k := x) (by rw [hQ.out.len]; exact hxn)
      have y0 := hR.out.cell (cellsI_at hz)
      have y1 := hR.out.free x
      obtain ⟨W4, hW4⟩ : ∃ W, wr.setCell ⟨G, x, none⟩ (.int .i64 (i : Int)) = W := ⟨_, rfl⟩
      have R4 := hide (show Row W4 G 3 (cellsI (Q.set x (i : Int))) by rw [← hW4, ← cellsI_set]; exact hR.out.set_ x _)
      have B4 := hide (show Below w.heap.size w W4 by rw [← hW4]; exact hB.out.setCell (p := ⟨G, x, none⟩) hGb _)
      have HW4 := hide hW4
      have HS3 := hide HS2
      have hi0 : (0 : Int) ≤ (i : Int) := by omega
      have hi1 : (i : Int) < (O.length : Int) := by omega
      have hx0 : (0 : Int) ≤ (x : Int) := by omega
      have hx1 : (x : Int) < (n2 : Int) := by omega
      clear hx hz hW4 HS2 HX
      go_upto_region 6 with (fail)
      rw [HW4.out]
      clear HW4 hR hB hQ y0 y1 x0
      go_wp2_with fail
      go_roundw
      case rel => exact ⟨i + 1, _, by go_num, by omega, HS3, R4, B4⟩
      case measure => simp [intOf]; omega
    · obtain rfl : i = O.length := by omega
      have FIN := hide (show RnkPost n2 O w (.returned (.slice (some ⟨G, 0, none⟩) n2 n2)) wr from ⟨Q, hQ.out.end_, G, by rw [hQ.out.len], hR.out, hGb, hB.out⟩)
      clear hQ hR hB
      go_wp2_with fail
      go_ret
      exact FIN.out
/-- What Rank hands back. -/
def RankPost (l : List Ins) (n : Nat) (w : World) (e : Ending) (w' : World) : Prop := ∃ L, IsLft (suc l) n L ∧ RnkPost n L.reverse w e w'
set_option maxRecDepth 100000 in
set_option maxHeartbeats 4000000 in
theorem rank_any (w : World) (hC : Hid (CdAt w A2 n2 l)) (hok : Hid (FlowOk l)) (hn1 : 1 ≤ n2) :
    Calls Try.prog 13 #[fv P A1 n1 c1 A2 n2 c2] w (RankPost l n2 w) := by
  have hn2 := hC.out.few
  obtain ⟨W1, hW1⟩ : ∃ W, w.alloc (.cells #[.int .i64 P, .slice A1 n1 c1, .slice A2 n2 c2] 27) = W := ⟨_, rfl⟩
  have R1 := hide (show Row W1 w.heap.size 27 [.int .i64 P, .slice A1 n1 c1, .slice A2 n2 c2] by rw [← hW1]; exact Row.new w _ _)
  have B1 := hide (show Below w.heap.size w W1 by rw [← hW1]; exact below1 _ _)
  have HW1 := hide hW1
  have co := order_any (P := P) (A1 := A1) (n1 := n1) (c1 := c1) (c2 := c2) W1.drew (hide (hC.out.below B1.out.drew)) hok hn1
  have co2 : Calls Try.prog 11 #[fv P A1 n1 c1 A2 n2 c2] W1.drew (fun e w5 => ∃ (L : List Nat) (A5 : Option Addr) (c5 : Nat), e = .returned (.slice A5 L.length c5) ∧ Hid (IsLft (suc l) n2 L) ∧ Hid (Below w.heap.size w w5) ∧
      Calls Try.prog 28 #[fv P A1 n1 c1 A2 n2 c2, .slice A5 L.length c5] w5 (RnkPost n2 L.reverse w5) ∧ w5.cell? ⟨w.heap.size, 0, none⟩ = some (.int .i64 P) ∧ w5.cell? ⟨w.heap.size, 1, none⟩ = some (.slice A1 n1 c1) ∧ w5.cell? ⟨w.heap.size, 2, none⟩ = some (.slice A2 n2 c2)) := by
    refine co.mono ?_
    rintro e w5 ⟨L, hL, A5, c5, rfl, ho5, hb5⟩
    have ho := hL.ord (by omega)
    have hr := R1.out.drew.call hb5
    have cr := ranks_any (P := P) (A1 := A1) (n1 := n1) (c1 := c1) (A2 := A2) (c2 := c2) w5 hn1 hn2 A5 c5 L.reverse ho.nodup ho.lt (hide (Sees.ownN ho5)) (by have := ho.len; omega)
    rw [List.length_reverse] at cr
    exact ⟨L, A5, c5, by rw [toI_len, List.length_reverse], hide hL, hide (below_call B1.out.drew hb5), cr, hr.cell (k := 0) rfl, hr.cell (k := 1) rfl, hr.cell (k := 2) rfl⟩
  clear hW1 co
  go_enter Try.func13, Try.ntmps13
  go_upto_region 1 with (fail)
  rw [HW1.out]
  have q0 := R1.out.cell (k := 0) rfl
  have q1 := R1.out.cell (k := 1) rfl
  have q2 := R1.out.cell (k := 2) rfl
  go_region_law
    (first
      | (go_simp; go_at_call 11; refine co2.mono ?_; rintro e w5 ⟨L, A5, c5, rfl, HL, B5, cr, r0, r1, r2⟩)
      | (go_simp; go_at_call 28; refine cr.mono ?_; rintro e w6 ⟨Q, hQ, G, rfl, hr6, hG6, hb6⟩))
  all_goals
    have FIN := hide (show RankPost l n2 w (.returned (.slice (some ⟨G, 0, none⟩) Q.length Q.length)) w6 from ⟨L, HL.out, Q, hQ, G, rfl, hr6, Nat.le_trans B5.out.size hG6, below_call B5.out hb6⟩)
    clear hQ hr6 hG6 hb6 cr r0 r1 r2
    go_wp2_with fail
    go_ret
    exact FIN.out
theorem repL_set (x : Int) (n k : Nat) (h : k < n) : (repL x n k).set k x = repL x n (k + 1) := by
  unfold repL
  rw [List.set_append_right _ _ (by simp), List.length_replicate, Nat.sub_self, show n - k = (n - (k + 1)) + 1 by omega, List.replicate_succ, List.set_cons_zero, List.replicate_succ', List.append_assoc]
  rfl
theorem repL_get (x : Int) (n k j : Nat) (h : j < n) : ∃ z, (repL x n k)[j]? = some z := by
  refine ⟨_, List.getElem?_eq_getElem (?_ : j < (repL x n k).length)⟩
  simp [repL]; omega
set_option maxRecDepth 100000 in
set_option maxHeartbeats 4000000 in
theorem rrank_any (w : World) (hC : Hid (CdAt w A2 n2 l)) (hok : Hid (FlowOk l)) (hn1 : 1 ≤ n2) :
    Calls Try.prog 14 #[fv P A1 n1 c1 A2 n2 c2] w (RankPost l n2 w) := by
  obtain ⟨i0, hi, hz0, hz1, hz2⟩ := info_parts infoI
  have hn2 := hC.out.few
  have hmk := fmade (P := Try.prog) Try.underlying30 hi hz0 hz1 (by omega) rfl n2 (by omega) (L := cellsI (List.replicate n2 0)) (by simp [cellsI])
  obtain ⟨W1, hW1⟩ : ∃ W, w.alloc (.cells #[.int .i64 P, .slice A1 n1 c1, .slice A2 n2 c2] 27) = W := ⟨_, rfl⟩
  obtain ⟨W2, hW2⟩ : ∃ W, W1.alloc (.cells (cellsI (List.replicate n2 0)).toArray 3) = W := ⟨_, rfl⟩
  have R1 := hide (show Row W1 w.heap.size 27 [.int .i64 P, .slice A1 n1 c1, .slice A2 n2 c2] by rw [← hW1]; exact Row.new w _ _)
  have hb1 : Below w.heap.size w W1 := by rw [← hW1]; exact below1 _ _
  have hb2 : Below W1.heap.size W1 W2 := by rw [← hW2]; exact below1 _ _
  have B2 := hide (below_call hb1 hb2)
  have F2 := hide (R1.out.call hb2)
  obtain ⟨G, hG⟩ : ∃ G, W1.heap.size = G := ⟨_, rfl⟩
  have hGb : w.heap.size ≤ G := by rw [← hG]; exact hb1.size
  have hGne : w.heap.size < G := by have := R1.out.lt; omega
  have R2 := hide (show Row W2 G 3 (cellsI (repL (-1) n2 0)) by rw [← hW2, ← hG, repL_zero]; exact Row.new W1 _ _)
  have HW1 := hide hW1
  have HW2 := hide hW2
  clear hW1 hW2 hb1 hb2
  go_enter Try.func14, Try.ntmps14
  go_upto_region 1 with (fail)
  rw [HW1.out]
  have q2 := R1.out.cell (k := 2) rfl
  go_upto_region 2 with (fail)
  rw [HW2.out]
  clear q2 hmk HW1 HW2 R1 hG
  go_wp2_with fail
  go_loopw [4] (fun s4 wr => ∃ (k : Nat), s4 = .int .i64 (k : Int) ∧ k ≤ n2 ∧ Hid (Row wr G 3 (cellsI (repL (-1) n2 k))) ∧ Hid (Row wr w.heap.size 27 [.int .i64 P, .slice A1 n1 c1, .slice A2 n2 c2]) ∧ Hid (Below w.heap.size w wr)) (fun s4 _ => n2 - (intOf s4).toNat)
  case atStart => exact ⟨0, rfl, by omega, R2, F2, B2⟩
  case round =>
    obtain ⟨k, rfl, hkn, hR, hF, hB⟩ := hrel
    clear R2 B2 F2
    by_cases hlt : k < n2
    · obtain ⟨z, hz⟩ := repL_get (-1) n2 k k hlt
      have y0 := hR.out.cell (cellsI_at hz)
      have y1 := hR.out.free k
      obtain ⟨W3, hW3⟩ : ∃ W, wr.setCell ⟨G, k, none⟩ (.int .i64 (-1)) = W := ⟨_, rfl⟩
      have R3 := hide (show Row W3 G 3 (cellsI (repL (-1) n2 (k + 1))) by rw [← hW3, ← repL_set _ _ _ hlt, ← cellsI_set]; exact hR.out.set_ k _)
      have F3 := hide (show Row W3 w.heap.size 27 [.int .i64 P, .slice A1 n1 c1, .slice A2 n2 c2] by rw [← hW3]; exact hF.out.far (p := ⟨G, k, none⟩) (Nat.ne_of_lt hGne) _)
      have B3 := hide (show Below w.heap.size w W3 by rw [← hW3]; exact hB.out.setCell (p := ⟨G, k, none⟩) hGb _)
      have HW3 := hide hW3
      have hk0 : (0 : Int) ≤ (k : Int) := by omega
      have hk1 : (k : Int) < (n2 : Int) := by omega
      clear hz hW3
      go_upto_region 4 with (fail)
      rw [HW3.out]
      clear HW3 hR hF hB y0 y1
      go_wp2_with fail
      go_roundw
      case rel => exact ⟨k + 1, by go_num, by omega, R3, F3, B3⟩
      case measure => simp [intOf]; omega
    · obtain rfl : k = n2 := by omega
      have HR := hide (show Row wr G 3 (cellsI (List.replicate k (-1))) by rw [← repL_all]; exact hR.out)
      have co := rorder_any (P := P) (A1 := A1) (n1 := n1) (c1 := c1) (c2 := c2) wr (hide (hC.out.below hB.out)) hok hn1
      have q0 := hF.out.cell (k := 0) rfl
      have q1 := hF.out.cell (k := 1) rfl
      have q2 := hF.out.cell (k := 2) rfl
      clear hR
      go_wp2_with fail
      refine co.mono ?_
      rintro e w5 ⟨L, hL, A5, c5, rfl, ho5, hb5⟩
      have hord := hL.ord (by omega)
      have hOn := hide hord.nodup
      have hlt5 := hide hord.lt
      have hlen := hord.len
      have HL := hide hL
      have HGS : G < wr.heap.size := HR.out.lt
      have HS5 := hide (own_lower ho5 (show G + 1 ≤ wr.heap.size by omega))
      have HR5 := hide (HR.out.call hb5)
      have B5 := hide (below_call hB.out hb5)
      rw [toI_len] at HS5 ⊢
      obtain ⟨O, hO⟩ : ∃ O, L.reverse = O := ⟨_, rfl⟩
      rw [hO] at hOn hlt5 hlen HS5 ⊢
      have HO := hide hO
      clear hL hord ho5 hb5 co q0 q1 q2 HR hF hB hO
      go_wp2_with fail
      go_loopw [6] (fun s6 wr => ∃ (i : Nat) (Q : List Int), s6 = .int .i64 (i : Int) ∧ i ≤ O.length ∧ Hid (RkI k O i Q) ∧ Hid (Row wr G 3 (cellsI Q)) ∧ Hid (Below w.heap.size w wr) ∧ Hid (wr.ownsRow (G + 1) 3 1 (.slice A5 O.length c5) O.length (cellsI (toI O)))) (fun s6 _ => O.length - (intOf s6).toNat)
      case atStart => exact ⟨0, _, rfl, by omega, hide (RkI.start k O), HR5, B5, HS5⟩
      case round =>
        obtain ⟨i, Q, rfl, hiO, hQ, hR, hB, hS⟩ := hrel
        clear HR5 B5 HS5
        by_cases hlt2 : i < O.length
        · obtain ⟨b, off, rfl, hbb, x0⟩ := sees_at (Sees.ownN hS.out) hlt2
          have hx := List.getElem?_eq_getElem hlt2
          have hxn := hlt5.out _ (List.getElem_mem hlt2)
          have HS2 := hide (hQ.out.step hOn.out hx hxn)
          generalize O[i] = x at x0 hxn HS2
          obtain ⟨z, hz⟩ := int_get (zs := Q) (k := x) (by rw [hQ.out.len]; exact hxn)
          have y0 := hR.out.cell (cellsI_at hz)
          have y1 := hR.out.free x
          obtain ⟨W4, hW4⟩ : ∃ W, wr.setCell ⟨G, x, none⟩ (.int .i64 (i : Int)) = W := ⟨_, rfl⟩
          have R4 := hide (show Row W4 G 3 (cellsI (Q.set x (i : Int))) by rw [← hW4, ← cellsI_set]; exact hR.out.set_ x _)
          have B4 := hide (show Below w.heap.size w W4 by rw [← hW4]; exact hB.out.setCell (p := ⟨G, x, none⟩) hGb _)
          have S4 := hide (show W4.ownsRow (G + 1) 3 1 (.slice (some ⟨b, off, none⟩) O.length c5) O.length (cellsI (toI O)) by
            rw [← hW4]
            refine hS.out.kept (fgrown_set wr G x _) (.inr fun e => ?_)
            have := (hS.out.lt G e).1
            omega)
          have HW4 := hide hW4
          have hi0 : (0 : Int) ≤ (i : Int) := by omega
          have hi1 : (i : Int) < (O.length : Int) := by omega
          have hx0 : (0 : Int) ≤ (x : Int) := by omega
          have hx1 : (x : Int) < (k : Int) := by omega
          clear hx hz hW4
          go_upto_region 9 with (fail)
          rw [HW4.out]
          clear HW4 hR hB hQ y0 y1 x0 hS
          go_wp2_with fail
          go_roundw
          case rel => exact ⟨i + 1, _, by go_num, by omega, HS2, R4, B4, S4⟩
          case measure => simp [intOf]; omega
        · obtain rfl : i = O.length := by omega
          have FIN := hide (show RankPost l k w (.returned (.slice (some ⟨G, 0, none⟩) k k)) wr from ⟨L, HL.out, Q, by rw [HO.out]; exact hQ.out.end_, G, by rw [hQ.out.len], hR.out, hGb, hB.out⟩)
          clear hQ hR hB hS
          go_wp2_with fail
          go_ret
          exact FIN.out
end
end Go.Proofs.Ytlcmcmocjbeocaa
end
