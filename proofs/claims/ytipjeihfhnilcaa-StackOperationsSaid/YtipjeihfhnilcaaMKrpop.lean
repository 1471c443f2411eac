import Derived.Test.YtipjeihfhnilcaaMKmem
import Derived.Test.YtipjeihfhnilcaaMKuse
import Derived.Test.YtipjeihfhnilcaaMInv
set_option linter.unusedVariables false
set_option linter.unusedSimpArgs false
section
/-
  The contracts of the reference's Pop and Check (chapter 9). Conditions: those of the types; the stack is one for which Check is true.
-/
namespace Go.Proofs.Ytipjeihfhnilcaa
open Go.RowKit
theorem StkAt.set_ {w w' : World} {B : Nat} {A1 A2 : Option Addr} {c1 c2 : Nat} {S : Sk} (h : StkAt w B A1 c1 A2 c2 S) (hb : Below B w w') (hB : B ≤ w'.heap.size) : StkAt w' w'.heap.size A1 c1 A2 c2 S := (h.below hb).more hB
theorem StkAt.up {w w' : World} {A1 A2 : Option Addr} {c1 c2 : Nat} {S : Sk} (h : StkAt w w.heap.size A1 c1 A2 c2 S) (hb : Below w.heap.size w w') : StkAt w' w'.heap.size A1 c1 A2 c2 S := h.call hb

set_option maxRecDepth 100000 in
set_option maxHeartbeats 4000000 in
theorem rpop_any {A1 A2 : Option Addr} {c1 c2 : Nat} {S : Sk} (n : Int) (w : World) (hS : Hid (StkAt w w.heap.size A1 c1 A2 c2 S)) :
    Calls Try.prog 35 #[sv A1 c1 A2 c2 S, .int .i64 n] w (StkPost (popR S n) (popE S n) w) := by
  have hok := hide hS.out.ok
  have hmost := hS.out.ok.most
  have hsp := hS.out.ok.sp
  have hm1 := hS.out.m1
  have hm2 := hS.out.m2
  obtain ⟨W0, hW0⟩ : ∃ W, (w.alloc (.cells #[.slice A1 S.bs.length c1, .slice A2 S.bs.length c2, .int .i64 (S.sp : Int)] 29)).alloc (.cells #[.slice none 0 0, .slice none 0 0, .int .i64 0] 29) = W := ⟨_, rfl⟩
  have HW0 := hide hW0
  have RX0 := hide (show Row W0 (w.heap.size) 29 [.slice A1 S.bs.length c1, .slice A2 S.bs.length c2, .int .i64 (S.sp : Int)] by rw [← hW0]; exact ((Row.new w 29 [.slice A1 S.bs.length c1, .slice A2 S.bs.length c2, .int .i64 (S.sp : Int)]).alloc _))
  have RZ0 := hide (show Row W0 (w.heap.size + 1) 29 [.slice none 0 0, .slice none 0 0, .int .i64 0] by rw [← hW0]; exact (Row.new (w.alloc (.cells #[.slice A1 S.bs.length c1, .slice A2 S.bs.length c2, .int .i64 (S.sp : Int)] 29)) 29 [.slice none 0 0, .slice none 0 0, .int .i64 0]).at_ (by simp))
  have B0 := hide (show Below w.heap.size w W0 by rw [← hW0]; exact below2 w _ _)
  have Z0 := hide (show W0.heap.size = w.heap.size + 2 by rw [← hW0]; simp)
  clear hW0
  by_cases h0 : n < 0
  · have hE := hide (show popE S n = 4 by simp [popE, h0])
    have hR := hide (show popR S n = S by simp [popR, hE.out])
    go_enter Try.func35, Try.ntmps35
    go_upto_region 1 with (fail)
    rw [HW0.out]
    have fX0 := RX0.out.cell (k := 0) rfl
    have fX1 := RX0.out.cell (k := 1) rfl
    have fX2 := RX0.out.cell (k := 2) rfl
    have fZ0 := RZ0.out.cell (k := 0) rfl
    have fZ1 := RZ0.out.cell (k := 1) rfl
    have fZ2 := RZ0.out.cell (k := 2) rfl
    have yZ0 := RZ0.out.free 0
    have yZ1 := RZ0.out.free 1
    have yZ2 := RZ0.out.free 2
    go_wp2_with fail
    obtain ⟨W1, hW1⟩ : ∃ W, ((W0.setCell ⟨w.heap.size + 1, 0, none⟩ (.slice A1 S.bs.length c1)).setCell ⟨w.heap.size + 1, 1, none⟩ (.slice A2 S.bs.length c2)).setCell ⟨w.heap.size + 1, 2, none⟩ (.int .i64 (S.sp : Int)) = W := ⟨_, rfl⟩
    have HW1 := hide hW1
    have RZ1 := hide (show Row W1 (w.heap.size + 1) 29 [.slice A1 S.bs.length c1, .slice A2 S.bs.length c2, .int .i64 (S.sp : Int)] by rw [← hW1]; exact (((RZ0.out).set_ 0 _).set_ 1 _).set_ 2 _)
    have RX1 := hide (show Row W1 (w.heap.size) 29 [.slice A1 S.bs.length c1, .slice A2 S.bs.length c2, .int .i64 (S.sp : Int)] by rw [← hW1]; exact (((RX0.out).far (p := ⟨w.heap.size + 1, 0, none⟩) (by simp) _).far (p := ⟨w.heap.size + 1, 1, none⟩) (by simp) _).far (p := ⟨w.heap.size + 1, 2, none⟩) (by simp) _)
    clear RX0
    have B1 := hide (show Below w.heap.size w W1 by rw [← hW1]; exact below_put (below_put (below_put (B0.out) (by omega)) (by omega)) (by omega))
    clear hW1 RZ0
    clear fX0 fX1 fX2 fZ0 fZ1 fZ2 yZ0 yZ1 yZ2
    have fZ0 := RZ1.out.cell (k := 0) rfl
    have fZ1 := RZ1.out.cell (k := 1) rfl
    have fZ2 := RZ1.out.cell (k := 2) rfl
    rw [HW1.out]
    refine bodyPost_ret (v := .tuple #[.agg #[.slice A1 S.bs.length c1, .slice A2 S.bs.length c2, .int .i64 (S.sp : Int)], .int .i64 4]) (by simp [results, Try.results35, go_sem, fZ0, fZ1, fZ2]) rfl ?_
    exact ⟨A1, c1, A2, c2, by rw [hR.out, hE.out], by rw [hR.out]; exact hS.out.up B1.out, B1.out⟩
  · by_cases h1 : (S.bs.length : Int) - (S.sp : Int) < n
    · have hE := hide (show popE S n = 4 by simp [popE, h1])
      have hR := hide (show popR S n = S by simp [popR, hE.out])
      go_enter Try.func35, Try.ntmps35
      go_upto_region 1 with (fail)
      rw [HW0.out]
      have fX0 := RX0.out.cell (k := 0) rfl
      have fX1 := RX0.out.cell (k := 1) rfl
      have fX2 := RX0.out.cell (k := 2) rfl
      have fZ0 := RZ0.out.cell (k := 0) rfl
      have fZ1 := RZ0.out.cell (k := 1) rfl
      have fZ2 := RZ0.out.cell (k := 2) rfl
      have yZ0 := RZ0.out.free 0
      have yZ1 := RZ0.out.free 1
      have yZ2 := RZ0.out.free 2
      go_wp2_with fail
      obtain ⟨W1, hW1⟩ : ∃ W, ((W0.setCell ⟨w.heap.size + 1, 0, none⟩ (.slice A1 S.bs.length c1)).setCell ⟨w.heap.size + 1, 1, none⟩ (.slice A2 S.bs.length c2)).setCell ⟨w.heap.size + 1, 2, none⟩ (.int .i64 (S.sp : Int)) = W := ⟨_, rfl⟩
      have HW1 := hide hW1
      have RZ1 := hide (show Row W1 (w.heap.size + 1) 29 [.slice A1 S.bs.length c1, .slice A2 S.bs.length c2, .int .i64 (S.sp : Int)] by rw [← hW1]; exact (((RZ0.out).set_ 0 _).set_ 1 _).set_ 2 _)
      have RX1 := hide (show Row W1 (w.heap.size) 29 [.slice A1 S.bs.length c1, .slice A2 S.bs.length c2, .int .i64 (S.sp : Int)] by rw [← hW1]; exact (((RX0.out).far (p := ⟨w.heap.size + 1, 0, none⟩) (by simp) _).far (p := ⟨w.heap.size + 1, 1, none⟩) (by simp) _).far (p := ⟨w.heap.size + 1, 2, none⟩) (by simp) _)
      clear RX0
      have B1 := hide (show Below w.heap.size w W1 by rw [← hW1]; exact below_put (below_put (below_put (B0.out) (by omega)) (by omega)) (by omega))
      clear hW1 RZ0
      clear fX0 fX1 fX2 fZ0 fZ1 fZ2 yZ0 yZ1 yZ2
      have fZ0 := RZ1.out.cell (k := 0) rfl
      have fZ1 := RZ1.out.cell (k := 1) rfl
      have fZ2 := RZ1.out.cell (k := 2) rfl
      rw [HW1.out]
      refine bodyPost_ret (v := .tuple #[.agg #[.slice A1 S.bs.length c1, .slice A2 S.bs.length c2, .int .i64 (S.sp : Int)], .int .i64 4]) (by simp [results, Try.results35, go_sem, fZ0, fZ1, fZ2]) rfl ?_
      exact ⟨A1, c1, A2, c2, by rw [hR.out, hE.out], by rw [hR.out]; exact hS.out.up B1.out, B1.out⟩
    · obtain ⟨m, rfl⟩ : ∃ m : Nat, n = (m : Int) := ⟨n.toNat, by omega⟩
      have hE := hide (show popE S (m : Int) = 0 by simp only [popE]; rw [if_neg (by omega)])
      have hR := hide (show popR S (m : Int) = popS S m by simp [popR, hE.out])
      have hms : S.sp + m ≤ S.bs.length := by omega
      go_enter Try.func35, Try.ntmps35
      go_upto_region 1 with (fail)
      rw [HW0.out]
      have fX0 := RX0.out.cell (k := 0) rfl
      have fX1 := RX0.out.cell (k := 1) rfl
      have fX2 := RX0.out.cell (k := 2) rfl
      have yX0 := RX0.out.free 0
      have yX1 := RX0.out.free 1
      have yX2 := RX0.out.free 2
      go_upto_region 4 with (fail)
      obtain ⟨W1, hW1⟩ : ∃ W, W0.setCell ⟨w.heap.size, 2, none⟩ (.int .i64 ((S.sp : Int) + (m : Int))) = W := ⟨_, rfl⟩
      have HW1 := hide hW1
      have RX1 := hide (show Row W1 (w.heap.size) 29 [.slice A1 S.bs.length c1, .slice A2 S.bs.length c2, .int .i64 ((S.sp : Int) + (m : Int))] by rw [← hW1]; exact (RX0.out).set_ 2 _)
      have RZ1 := hide (show Row W1 (w.heap.size + 1) 29 [.slice none 0 0, .slice none 0 0, .int .i64 0] by rw [← hW1]; exact (RZ0.out).far (p := ⟨w.heap.size, 2, none⟩) (by simp) _)
      clear RZ0
      have B1 := hide (show Below w.heap.size w W1 by rw [← hW1]; exact below_put (B0.out) (by omega))
      clear hW1 RX0
      rw [HW1.out]
      clear fX0 fX1 fX2 yX0 yX1 yX2
      have fX0 := RX1.out.cell (k := 0) rfl
      have fX1 := RX1.out.cell (k := 1) rfl
      have fX2 := RX1.out.cell (k := 2) rfl
      have fZ0 := RZ1.out.cell (k := 0) rfl
      have fZ1 := RZ1.out.cell (k := 1) rfl
      have fZ2 := RZ1.out.cell (k := 2) rfl
      have yZ0 := RZ1.out.free 0
      have yZ1 := RZ1.out.free 1
      have yZ2 := RZ1.out.free 2
      go_wp2_with fail
      obtain ⟨W2, hW2⟩ : ∃ W, ((W1.setCell ⟨w.heap.size + 1, 0, none⟩ (.slice A1 S.bs.length c1)).setCell ⟨w.heap.size + 1, 1, none⟩ (.slice A2 S.bs.length c2)).setCell ⟨w.heap.size + 1, 2, none⟩ (.int .i64 ((S.sp : Int) + (m : Int))) = W := ⟨_, rfl⟩
      have HW2 := hide hW2
      have RZ2 := hide (show Row W2 (w.heap.size + 1) 29 [.slice A1 S.bs.length c1, .slice A2 S.bs.length c2, .int .i64 ((S.sp : Int) + (m : Int))] by rw [← hW2]; exact (((RZ1.out).set_ 0 _).set_ 1 _).set_ 2 _)
      have RX2 := hide (show Row W2 (w.heap.size) 29 [.slice A1 S.bs.length c1, .slice A2 S.bs.length c2, .int .i64 ((S.sp : Int) + (m : Int))] by rw [← hW2]; exact (((RX1.out).far (p := ⟨w.heap.size + 1, 0, none⟩) (by simp) _).far (p := ⟨w.heap.size + 1, 1, none⟩) (by simp) _).far (p := ⟨w.heap.size + 1, 2, none⟩) (by simp) _)
      clear RX1
      have B2 := hide (show Below w.heap.size w W2 by rw [← hW2]; exact below_put (below_put (below_put (B1.out) (by omega)) (by omega)) (by omega))
      clear hW2 RZ1
      clear fX0 fX1 fX2 fZ0 fZ1 fZ2 yZ0 yZ1 yZ2
      have fZ0 := RZ2.out.cell (k := 0) rfl
      have fZ1 := RZ2.out.cell (k := 1) rfl
      have fZ2 := RZ2.out.cell (k := 2) rfl
      rw [HW2.out]
      refine bodyPost_ret (v := .tuple #[.agg #[.slice A1 S.bs.length c1, .slice A2 S.bs.length c2, .int .i64 ((S.sp : Int) + (m : Int))], .int .i64 0]) (by simp [results, Try.results35, go_sem, fZ0, fZ1, fZ2]) rfl ?_
      exact ⟨A1, c1, A2, c2, by rw [hR.out, hE.out]; rfl, by rw [hR.out]; exact (hS.out.up B2.out).pop hms, B2.out⟩

end Go.Proofs.Ytipjeihfhnilcaa
end
