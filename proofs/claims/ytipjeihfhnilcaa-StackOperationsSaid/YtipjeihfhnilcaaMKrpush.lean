import Derived.Test.YtipjeihfhnilcaaMKfn
import Derived.Test.YtipjeihfhnilcaaMKrpop
import Derived.Test.YtipjeihfhnilcaaMKcopy
import Derived.Lib.SliceRun
import Derived.Laws.CopyOwn
import Derived.Deep.DeepFit
set_option linter.unusedVariables false
set_option linter.unusedSimpArgs false
section
/-
  The contract of the reference's Push: the stack behind it, or the stack as it was with the error. Conditions: those of the types; the stack is one for which Check is true.
-/
namespace Go.Proofs.Ytipjeihfhnilcaa
open Go.RowKit
attribute [local go_sem ↓] Go.wp_at_zero Go.wp_at_succ

theorem own_put_ty {w : World} {base e size n g t k : Nat} {v u : Value} {xs cs : List Value} (h : w.ownsRow base e size v n xs) (hr : Row w g t cs) (ht : t ≠ e) : (w.setCell ⟨g, k, none⟩ u).ownsRow base e size v n xs := by
  refine h.kept (grown_one w g k u) (.inr ?_)
  rcases h.2 with ⟨rfl, _⟩ | ⟨g', cap, cur, rfl, _, hg, _⟩
  · simp [Value.ownBlock]
  · intro he
    simp only [Value.ownBlock, Option.some.injEq] at he
    subst he
    have : some (Obj.cells cs.toArray t (0, 0)) = some (Obj.cells cur e (0, 0)) := hr.symm.trans hg
    injection this with this
    injection this with _ h2 _
    exact ht h2
theorem ownrow_ne {w : World} {base e size n g t : Nat} {v : Value} {xs cs : List Value} (h : w.ownsRow base e size v n xs) (hr : Row w g t cs) (ht : t ≠ e) : some g ≠ v.ownBlock := by
  rcases h.2 with ⟨rfl, _⟩ | ⟨g', cap, cur, rfl, _, hg, _⟩
  · simp [Value.ownBlock]
  · intro he
    simp only [Value.ownBlock, Option.some.injEq] at he
    subst he
    have : some (Obj.cells cs.toArray t (0, 0)) = some (Obj.cells cur e (0, 0)) := hr.symm.trans hg
    injection this with this
    injection this with _ h2 _
    exact ht h2
/-- What holds at the head of the loop. -/
def PuRel (S : Sk) (A1 : Option Addr) (c1 : Nat) (A2 : Option Addr) (c2 : Nat) (a1 : Option Addr) (k1 : Nat) (a2 : Option Addr) (k2 : Nat) (w : World) (g q m : Nat) (i : Value) (wr : World) : Prop :=
  ∃ k : Nat, k ≤ m ∧ i = .int .i64 ((q + k : Nat) : Int) ∧ Hid (Row wr w.heap.size 29 [.slice A1 S.bs.length c1, .slice A2 S.bs.length c2, .int .i64 (S.sp : Int)]) ∧ Hid (Row wr (w.heap.size + 1) 29 [.slice none 0 0, .slice none 0 0, .int .i64 0]) ∧ Hid (Row wr g 29 [.slice a1 S.bs.length k1, .slice a2 S.bs.length k2, .int .i64 (q : Int)]) ∧
    Hid (wr.ownsRow (w.heap.size + 2) 5 1 (.slice a1 S.bs.length k1) S.bs.length (cellsU8 S.bs)) ∧ Hid (wr.ownsRow (w.heap.size + 2) 4 1 (.slice a2 S.bs.length k2) S.bs.length (splice (cellsB S.us) q ((List.replicate m (Value.bool false)).take k))) ∧ Hid (Below w.heap.size w wr)

set_option maxRecDepth 100000 in
set_option maxHeartbeats 4000000 in
theorem rpush_any {A1 A2 : Option Addr} {c1 c2 : Nat} {S : Sk} (n : Int) (w : World) (hS : Hid (StkAt w w.heap.size A1 c1 A2 c2 S)) :
    Calls Try.prog 33 #[sv A1 c1 A2 c2 S, .int .i64 n] w (StkPost (pushR S n) (pushE S n) w) := by
  have hok := hide hS.out.ok
  have hmost := hS.out.ok.most
  have hsp := hS.out.ok.sp
  have hm1 := hS.out.m1
  have hm2 := hS.out.m2
  obtain ⟨W0, hW0⟩ : ∃ W, (w.alloc (.cells #[.slice A1 S.bs.length c1, .slice A2 S.bs.length c2, .int .i64 (S.sp : Int)] 29)).alloc (.cells #[.slice none 0 0, .slice none 0 0, .int .i64 0] 29) = W := ⟨_, rfl⟩
  have HW0 := hide hW0
  have RX0 := hide (show Row W0 (w.heap.size) 29 [.slice A1 S.bs.length c1, .slice A2 S.bs.length c2, .int .i64 (S.sp : Int)] by rw [← hW0]; exact ((Row.new w 29 [.slice A1 S.bs.length c1, .slice A2 S.bs.length c2, .int .i64 (S.sp : Int)]).alloc _))
  have RZ0 := hide (show Row W0 (w.heap.size + 1) 29 [.slice none 0 0, .slice none 0 0, .int .i64 0] by rw [← hW0]; exact (Row.new (w.alloc (.cells #[.slice A1 S.bs.length c1, .slice A2 S.bs.length c2, .int .i64 (S.sp : Int)] 29)) 29 [.slice none 0 0, .slice none 0 0, .int .i64 0]).at_ (by simp))
  have B0 := hide (show Below w.heap.size w W0 by rw [← hW0]; exact below2 w _ _)
  have Z0 := hide (show W0.heap.size = w.heap.size + 2 by rw [← hW0]; simp)
  clear hW0
  by_cases h0 : n < 0
  · have hE := hide (show pushE S n = 4 by simp [pushE, h0])
    have hR := hide (show pushR S n = S by simp [pushR, hE.out])
    go_enter Try.func33, Try.ntmps33
    go_upto_region 1 with (fail)
    rw [HW0.out]
    have fX0 := RX0.out.cell (k := 0) rfl
    have fX1 := RX0.out.cell (k := 1) rfl
    have fX2 := RX0.out.cell (k := 2) rfl
    have fZ0 := RZ0.out.cell (k := 0) rfl
    have fZ1 := RZ0.out.cell (k := 1) rfl
    have fZ2 := RZ0.out.cell (k := 2) rfl
    have yZ0 := RZ0.out.free 0
    have yZ1 := RZ0.out.free 1
    have yZ2 := RZ0.out.free 2
    go_wp2_with fail
    obtain ⟨W1, hW1⟩ : ∃ W, ((W0.setCell ⟨w.heap.size + 1, 0, none⟩ (.slice A1 S.bs.length c1)).setCell ⟨w.heap.size + 1, 1, none⟩ (.slice A2 S.bs.length c2)).setCell ⟨w.heap.size + 1, 2, none⟩ (.int .i64 (S.sp : Int)) = W := ⟨_, rfl⟩
    have HW1 := hide hW1
    have RZ1 := hide (show Row W1 (w.heap.size + 1) 29 [.slice A1 S.bs.length c1, .slice A2 S.bs.length c2, .int .i64 (S.sp : Int)] by rw [← hW1]; exact (((RZ0.out).set_ 0 _).set_ 1 _).set_ 2 _)
    have RX1 := hide (show Row W1 (w.heap.size) 29 [.slice A1 S.bs.length c1, .slice A2 S.bs.length c2, .int .i64 (S.sp : Int)] by rw [← hW1]; exact (((RX0.out).far (p := ⟨w.heap.size + 1, 0, none⟩) (by simp) _).far (p := ⟨w.heap.size + 1, 1, none⟩) (by simp) _).far (p := ⟨w.heap.size + 1, 2, none⟩) (by simp) _)
    clear RX0
    have B1 := hide (show Below w.heap.size w W1 by rw [← hW1]; exact below_put (below_put (below_put (B0.out) (by omega)) (by omega)) (by omega))
    clear hW1 RZ0
    clear fX0 fX1 fX2 fZ0 fZ1 fZ2 yZ0 yZ1 yZ2
    have fZ0 := RZ1.out.cell (k := 0) rfl
    have fZ1 := RZ1.out.cell (k := 1) rfl
    have fZ2 := RZ1.out.cell (k := 2) rfl
    rw [HW1.out]
    refine bodyPost_ret (v := .tuple #[.agg #[.slice A1 S.bs.length c1, .slice A2 S.bs.length c2, .int .i64 (S.sp : Int)], .int .i64 4]) (by simp [results, Try.results33, go_sem, fZ0, fZ1, fZ2]) rfl ?_
    exact ⟨A1, c1, A2, c2, by rw [hR.out, hE.out], by rw [hR.out]; exact hS.out.up B1.out, B1.out⟩
  · by_cases h1 : (S.sp : Int) < n
    · have hE := hide (show pushE S n = 9 by simp [pushE, h0, h1])
      have hR := hide (show pushR S n = S by simp [pushR, hE.out])
      go_enter Try.func33, Try.ntmps33
      go_upto_region 1 with (fail)
      rw [HW0.out]
      have fX0 := RX0.out.cell (k := 0) rfl
      have fX1 := RX0.out.cell (k := 1) rfl
      have fX2 := RX0.out.cell (k := 2) rfl
      have fZ0 := RZ0.out.cell (k := 0) rfl
      have fZ1 := RZ0.out.cell (k := 1) rfl
      have fZ2 := RZ0.out.cell (k := 2) rfl
      have yZ0 := RZ0.out.free 0
      have yZ1 := RZ0.out.free 1
      have yZ2 := RZ0.out.free 2
      go_wp2_with fail
      obtain ⟨W1, hW1⟩ : ∃ W, ((W0.setCell ⟨w.heap.size + 1, 0, none⟩ (.slice A1 S.bs.length c1)).setCell ⟨w.heap.size + 1, 1, none⟩ (.slice A2 S.bs.length c2)).setCell ⟨w.heap.size + 1, 2, none⟩ (.int .i64 (S.sp : Int)) = W := ⟨_, rfl⟩
      have HW1 := hide hW1
      have RZ1 := hide (show Row W1 (w.heap.size + 1) 29 [.slice A1 S.bs.length c1, .slice A2 S.bs.length c2, .int .i64 (S.sp : Int)] by rw [← hW1]; exact (((RZ0.out).set_ 0 _).set_ 1 _).set_ 2 _)
      have RX1 := hide (show Row W1 (w.heap.size) 29 [.slice A1 S.bs.length c1, .slice A2 S.bs.length c2, .int .i64 (S.sp : Int)] by rw [← hW1]; exact (((RX0.out).far (p := ⟨w.heap.size + 1, 0, none⟩) (by simp) _).far (p := ⟨w.heap.size + 1, 1, none⟩) (by simp) _).far (p := ⟨w.heap.size + 1, 2, none⟩) (by simp) _)
      clear RX0
      have B1 := hide (show Below w.heap.size w W1 by rw [← hW1]; exact below_put (below_put (below_put (B0.out) (by omega)) (by omega)) (by omega))
      clear hW1 RZ0
      clear fX0 fX1 fX2 fZ0 fZ1 fZ2 yZ0 yZ1 yZ2
      have fZ0 := RZ1.out.cell (k := 0) rfl
      have fZ1 := RZ1.out.cell (k := 1) rfl
      have fZ2 := RZ1.out.cell (k := 2) rfl
      rw [HW1.out]
      refine bodyPost_ret (v := .tuple #[.agg #[.slice A1 S.bs.length c1, .slice A2 S.bs.length c2, .int .i64 (S.sp : Int)], .int .i64 9]) (by simp [results, Try.results33, go_sem, fZ0, fZ1, fZ2]) rfl ?_
      exact ⟨A1, c1, A2, c2, by rw [hR.out, hE.out], by rw [hR.out]; exact hS.out.up B1.out, B1.out⟩
    · obtain ⟨m, rfl⟩ : ∃ m : Nat, n = (m : Int) := ⟨n.toNat, by omega⟩
      have hE := hide (show pushE S (m : Int) = 0 by simp only [pushE]; rw [if_neg h0, if_neg h1])
      have hR := hide (show pushR S (m : Int) = pushS S m by simp [pushR, hE.out])
      have hms : m ≤ S.sp := by omega
      have hsub : ((S.sp : Int) - (m : Int)) = ((S.sp - m : Nat) : Int) := by omega
      obtain ⟨q, hq⟩ : ∃ q, S.sp - m = q := ⟨_, rfl⟩
      have hqm := hide (show q + m = S.sp by omega)
      have hql : q + m ≤ S.sp := by omega
      rw [hq] at hsub
      have hq := hide hq
      have hS0 := hide ((hS.out.below B0.out).more B0.out.size)
      have cc := rcopy_any A1 S.bs.length c1 A2 c2 (S.sp : Int) S.bs S.us W0 (hide hS0.out.k1) (hide hS0.out.k2) hm1 hm2 hmost (hide rfl) (hide hS0.out.ok.len) (hide hS0.out.s1) (hide hS0.out.s2)
      go_enter Try.func33, Try.ntmps33
      go_upto_region 1 with (fail)
      rw [HW0.out]
      have fX0 := RX0.out.cell (k := 0) rfl
      have fX1 := RX0.out.cell (k := 1) rfl
      have fX2 := RX0.out.cell (k := 2) rfl
      go_wp2_with fail
      refine (cc).mono ?_
      rintro e w1 ⟨a1, k1, a2, k2, rfl, o1, o2, hb1⟩
      have RX2 := hide (RX0.out.call hb1)
      clear RX0
      have RZ2 := hide (RZ0.out.call hb1)
      clear RZ0
      have B2 := hide (below_call B0.out hb1)
      clear B0
      clear hb1
      have O11 := hide (own_raise o1 (show w.heap.size + 2 ≤ W0.heap.size + 2 by have := Z0.out; omega))
      have O21 := hide (own_raise o2 (show w.heap.size + 2 ≤ W0.heap.size + 2 by have := Z0.out; omega))
      clear o1 o2
      clear fX0 fX1 fX2
      have fX0 := RX2.out.cell (k := 0) rfl
      have fX1 := RX2.out.cell (k := 1) rfl
      have fX2 := RX2.out.cell (k := 2) rfl
      go_upto_region 6 with (fail)
      have DZ := hide (show w.heap.size + 1 < w1.heap.size from RZ2.out.lt)
      obtain ⟨W3, hW3⟩ : ∃ W, w1.alloc (.cells #[.slice a1 S.bs.length k1, .slice a2 S.bs.length k2, .int .i64 (S.sp : Int)] 29) = W := ⟨_, rfl⟩
      have HW3 := hide hW3
      have RX3 := hide (show Row W3 (w.heap.size) 29 [.slice A1 S.bs.length c1, .slice A2 S.bs.length c2, .int .i64 (S.sp : Int)] by rw [← hW3]; exact RX2.out.alloc _)
      clear RX2
      have RZ3 := hide (show Row W3 (w.heap.size + 1) 29 [.slice none 0 0, .slice none 0 0, .int .i64 0] by rw [← hW3]; exact RZ2.out.alloc _)
      clear RZ2
      have RY3 := hide (show Row W3 (w1.heap.size) 29 [.slice a1 S.bs.length k1, .slice a2 S.bs.length k2, .int .i64 (S.sp : Int)] by rw [← hW3]; exact Row.new w1 _ _)
      have O13 := hide (show W3.ownsRow (w.heap.size + 2) 5 1 (.slice a1 S.bs.length k1) S.bs.length (cellsU8 S.bs) by rw [← hW3]; exact own_below O11.out (below1 _ _))
      clear O11
      have O23 := hide (show W3.ownsRow (w.heap.size + 2) 4 1 (.slice a2 S.bs.length k2) S.bs.length (cellsB S.us) by rw [← hW3]; exact own_below O21.out (below1 _ _))
      clear O21
      have L3 := hide (show w1.heap.size < W3.heap.size by rw [← hW3]; simp)
      have G3 := hide B2.out.size
      have B3 := hide (show Below w.heap.size w W3 by rw [← hW3]; exact B2.out.alloc B2.out.size _)
      clear hW3
      rw [HW3.out]
      clear fX0 fX1 fX2
      have fX0 := RX3.out.cell (k := 0) rfl
      have fX1 := RX3.out.cell (k := 1) rfl
      have fX2 := RX3.out.cell (k := 2) rfl
      have fY0 := RY3.out.cell (k := 0) rfl
      have fY1 := RY3.out.cell (k := 1) rfl
      have fY2 := RY3.out.cell (k := 2) rfl
      have yY0 := RY3.out.free 0
      have yY1 := RY3.out.free 1
      have yY2 := RY3.out.free 2
      go_upto_region 7 with (fail)
      have DY := hide (show w.heap.size + 1 < w1.heap.size from DZ.out)
      obtain ⟨W4, hW4⟩ : ∃ W, W3.setCell ⟨w1.heap.size, 2, none⟩ (.int .i64 (q : Int)) = W := ⟨_, rfl⟩
      have HW4 := hide hW4
      have RY4 := hide (show Row W4 (w1.heap.size) 29 [.slice a1 S.bs.length k1, .slice a2 S.bs.length k2, .int .i64 (q : Int)] by rw [← hW4]; exact (RY3.out).set_ 2 _)
      have RX4 := hide (show Row W4 (w.heap.size) 29 [.slice A1 S.bs.length c1, .slice A2 S.bs.length c2, .int .i64 (S.sp : Int)] by rw [← hW4]; exact (RX3.out).far (p := ⟨w1.heap.size, 2, none⟩) (by have := DY.out; simp; omega) _)
      clear RX3
      have RZ4 := hide (show Row W4 (w.heap.size + 1) 29 [.slice none 0 0, .slice none 0 0, .int .i64 0] by rw [← hW4]; exact (RZ3.out).far (p := ⟨w1.heap.size, 2, none⟩) (by have := DY.out; simp; omega) _)
      clear RZ3
      have O14 := hide (show W4.ownsRow (w.heap.size + 2) 5 1 (.slice a1 S.bs.length k1) S.bs.length (cellsU8 S.bs) by rw [← hW4]; exact own_put_ty (O13.out) RY3.out (by decide))
      clear O13
      have O24 := hide (show W4.ownsRow (w.heap.size + 2) 4 1 (.slice a2 S.bs.length k2) S.bs.length (cellsB S.us) by rw [← hW4]; exact own_put_ty (O23.out) RY3.out (by decide))
      clear O23
      have B4 := hide (show Below w.heap.size w W4 by rw [← hW4]; exact below_put (B3.out) (by have := G3.out; omega))
      clear hW4 RY3
      rw [HW4.out]
      clear fX0 fX1 fX2 fY0 fY1 fY2 yY0 yY1 yY2
      have fX0 := RX4.out.cell (k := 0) rfl
      have fX1 := RX4.out.cell (k := 1) rfl
      have fX2 := RX4.out.cell (k := 2) rfl
      have fY0 := RY4.out.cell (k := 0) rfl
      have fY1 := RY4.out.cell (k := 1) rfl
      have fY2 := RY4.out.cell (k := 2) rfl
      have fZ0 := RZ4.out.cell (k := 0) rfl
      have fZ1 := RZ4.out.cell (k := 1) rfl
      have fZ2 := RZ4.out.cell (k := 2) rfl
      clear hsub
      go_wp2_with fail
      go_loopw [7] (fun i wr => PuRel S A1 c1 A2 c2 a1 k1 a2 k2 w w1.heap.size q m i wr) (fun i _ => S.sp - (intOf i).toNat)
      case atStart =>
        refine ⟨0, by omega, rfl, RX4, RZ4, RY4, O14, hide ?_, B4⟩
        rw [List.take_zero, splice_none _ _ (by rw [cellsB_length, hok.out.len]; omega)]
        exact O24.out
      case round =>
        obtain ⟨k, hk, rfl, RX, RZ, RY, O1, O2, BB⟩ := hrel
        clear fX0 fX1 fX2 fY0 fY1 fY2 fZ0 fZ1 fZ2 RX4 RY4 RZ4 O14 O24 B4
        by_cases hlt : k < m
        · obtain ⟨b, k2', hv, hbb, hblt, hnk, _⟩ := own_block O2.out (show 0 < S.bs.length by omega)
          injection hv with hv1 hv2 hv3
          subst hv1 hv3
          clear hv2
          have fX0 := RX.out.cell (k := 0) rfl
          have fX1 := RX.out.cell (k := 1) rfl
          have fX2 := RX.out.cell (k := 2) rfl
          have fY0 := RY.out.cell (k := 0) rfl
          have fY1 := RY.out.cell (k := 1) rfl
          have fY2 := RY.out.cell (k := 2) rfl
          have hlen := hide O2.out.1
          have hc : (wr.cell? ⟨b, q + k, none⟩).isSome = true := by rw [O2.out.cellAt (q + k) (by omega), List.getElem?_eq_getElem (by rw [hlen.out]; omega)]; rfl
          obtain ⟨u, hc⟩ := Option.isSome_iff_exists.1 hc
          have hf : wr.frozen? ⟨b, q + k, none⟩ = false := O2.out.frozenAt (q + k)
          have hst := O2.out.stored (q + k) (.bool false)
          rw [splice_step _ _ _ _ (Value.bool false) (by rw [cellsB_length, hok.out.len]; simp; omega) (by rw [List.getElem?_replicate]; simp [hlt])] at hst
          have Hst1 := hide hst.1
          have nY := hide (ownrow_ne O2.out RY.out (by decide))
          have n1 := hide (kown_apart O1.out O2.out (by decide))
          have Hst2 := hide hst.2
          clear hst
          go_wp2_with fail
          refine ⟨⟨k + 1, by omega, by go_num, ?_, ?_, ?_, ?_, Hst1, ?_⟩, by simp [intOf]; omega⟩
          · exact hide (RX.out.far (p := ⟨b, q + k, none⟩) (by simp; omega) _)
          · exact hide (RZ.out.far (p := ⟨b, q + k, none⟩) (by simp; omega) _)
          · exact hide (RY.out.far (p := ⟨b, q + k, none⟩) (fun h => nY.out (by rw [h]; rfl)) _)
          · exact hide (O1.out.kept Hst2.out n1.out)
          · exact hide (BB.out.setCell (p := ⟨b, q + k, none⟩) (by simp; omega) _)
        · obtain rfl : k = m := by omega
          rw [List.take_of_length_le (by simp)] at O2
          have fX0 := RX.out.cell (k := 0) rfl
          have fX1 := RX.out.cell (k := 1) rfl
          have fX2 := RX.out.cell (k := 2) rfl
          have fY0 := RY.out.cell (k := 0) rfl
          have fY1 := RY.out.cell (k := 1) rfl
          have fY2 := RY.out.cell (k := 2) rfl
          clear fX0 fX1 fX2 fY0 fY1 fY2
          have fX0 := RX.out.cell (k := 0) rfl
          have fX1 := RX.out.cell (k := 1) rfl
          have fX2 := RX.out.cell (k := 2) rfl
          have fY0 := RY.out.cell (k := 0) rfl
          have fY1 := RY.out.cell (k := 1) rfl
          have fY2 := RY.out.cell (k := 2) rfl
          have fZ0 := RZ.out.cell (k := 0) rfl
          have fZ1 := RZ.out.cell (k := 1) rfl
          have fZ2 := RZ.out.cell (k := 2) rfl
          have yZ0 := RZ.out.free 0
          have yZ1 := RZ.out.free 1
          have yZ2 := RZ.out.free 2
          go_wp2_with fail
          obtain ⟨W5, hW5⟩ : ∃ W, ((wr.setCell ⟨w.heap.size + 1, 0, none⟩ (.slice a1 S.bs.length k1)).setCell ⟨w.heap.size + 1, 1, none⟩ (.slice a2 S.bs.length k2)).setCell ⟨w.heap.size + 1, 2, none⟩ (.int .i64 (q : Int)) = W := ⟨_, rfl⟩
          have HW5 := hide hW5
          have RZ5 := hide (show Row W5 (w.heap.size + 1) 29 [.slice a1 S.bs.length k1, .slice a2 S.bs.length k2, .int .i64 (q : Int)] by rw [← hW5]; exact (((RZ.out).set_ 0 _).set_ 1 _).set_ 2 _)
          have RX5 := hide (show Row W5 (w.heap.size) 29 [.slice A1 S.bs.length c1, .slice A2 S.bs.length c2, .int .i64 (S.sp : Int)] by rw [← hW5]; exact (((RX.out).far (p := ⟨w.heap.size + 1, 0, none⟩) (by have := DY.out; simp <;> omega) _).far (p := ⟨w.heap.size + 1, 1, none⟩) (by have := DY.out; simp <;> omega) _).far (p := ⟨w.heap.size + 1, 2, none⟩) (by have := DY.out; simp <;> omega) _)
          clear RX
          have RY5 := hide (show Row W5 (w1.heap.size) 29 [.slice a1 S.bs.length k1, .slice a2 S.bs.length k2, .int .i64 (q : Int)] by rw [← hW5]; exact (((RY.out).far (p := ⟨w.heap.size + 1, 0, none⟩) (by have := DY.out; simp <;> omega) _).far (p := ⟨w.heap.size + 1, 1, none⟩) (by have := DY.out; simp <;> omega) _).far (p := ⟨w.heap.size + 1, 2, none⟩) (by have := DY.out; simp <;> omega) _)
          clear RY
          have O15 := hide (show W5.ownsRow (w.heap.size + 2) 5 1 (.slice a1 S.bs.length k1) S.bs.length (cellsU8 S.bs) by rw [← hW5]; exact own_put (own_put (own_put (O1.out) (by omega)) (by omega)) (by omega))
          clear O1
          have O25 := hide (show W5.ownsRow (w.heap.size + 2) 4 1 (.slice a2 S.bs.length k2) S.bs.length (splice (cellsB S.us) q (List.replicate k (Value.bool false))) by rw [← hW5]; exact own_put (own_put (own_put (O2.out) (by omega)) (by omega)) (by omega))
          clear O2
          have B5 := hide (show Below w.heap.size w W5 by rw [← hW5]; exact below_put (below_put (below_put (BB.out) (by omega)) (by omega)) (by omega))
          clear hW5 RZ
          clear fX0 fX1 fX2 fY0 fY1 fY2 fZ0 fZ1 fZ2 yZ0 yZ1 yZ2
          have fZ0 := RZ5.out.cell (k := 0) rfl
          have fZ1 := RZ5.out.cell (k := 1) rfl
          have fZ2 := RZ5.out.cell (k := 2) rfl
          rw [HW5.out]
          refine bodyPost_ret (v := .tuple #[.agg #[.slice a1 S.bs.length k1, .slice a2 S.bs.length k2, .int .i64 (q : Int)], .int .i64 0]) (by simp [results, Try.results33, go_sem, fZ0, fZ1, fZ2]) rfl ?_
          exact ⟨a1, k1, a2, k2, by rw [hR.out, hE.out, ← hq.out]; rfl, by rw [hR.out]; exact StkOwn.put_ (S := pushS S k) (hok.out.push hms) O15.out (by rw [show (pushS S k).us = splice S.us (S.sp - k) (List.replicate k false) from rfl, cellsB_splice, cellsB_all, hq.out]; exact O25.out), B5.out⟩
end Go.Proofs.Ytipjeihfhnilcaa
end
