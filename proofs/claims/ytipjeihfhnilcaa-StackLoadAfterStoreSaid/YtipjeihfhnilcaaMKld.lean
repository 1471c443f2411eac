import Derived.Test.YtipjeihfhnilcaaMKuse
import Derived.Test.YtipjeihfhnilcaaMKmem
import Derived.Test.YtipjeihfhnilcaaMVfrom
set_option linter.unusedVariables false
set_option linter.unusedSimpArgs false
section
/-
  The contract of stack.Load: the value, whether its bytes are used, or the error. Conditions: those of the types; the stack is one for which Check is true.
-/
namespace Go.Proofs.Ytipjeihfhnilcaa
open Go.RowKit
attribute [local go_sem ↓] Go.wp_at_zero Go.wp_at_succ

set_option maxRecDepth 100000 in
set_option maxHeartbeats 4000000 in
theorem load_any {A1 A2 : Option Addr} {c1 c2 : Nat} {S : Sk} (off n : Int) (ho : isI off) (w : World) (hS : Hid (StkAt w w.heap.size A1 c1 A2 c2 S)) :
    Calls Try.prog 19 #[sv A1 c1 A2 c2 S, .int .i64 off, .int .i64 n] w (LoadPost S off n w) := by
  have hok := hide hS.out.ok
  have hmost := hS.out.ok.most
  have hsp := hS.out.ok.sp
  have hm1 := hS.out.m1
  have hm2 := hS.out.m2
  obtain ⟨W0, hW0⟩ : ∃ W, (w.alloc (.cells #[.slice A1 S.bs.length c1, .slice A2 S.bs.length c2, .int .i64 (S.sp : Int)] 29)).alloc (.cells #[.int .u64 0, .int .u64 0] 39) = W := ⟨_, rfl⟩
  have HW0 := hide hW0
  have RX0 := hide (show Row W0 (w.heap.size) 29 [.slice A1 S.bs.length c1, .slice A2 S.bs.length c2, .int .i64 (S.sp : Int)] by rw [← hW0]; exact ((Row.new w 29 [.slice A1 S.bs.length c1, .slice A2 S.bs.length c2, .int .i64 (S.sp : Int)]).alloc _))
  have RZ0 := hide (show Row W0 (w.heap.size + 1) 39 [.int .u64 0, .int .u64 0] by rw [← hW0]; exact (Row.new (w.alloc (.cells #[.slice A1 S.bs.length c1, .slice A2 S.bs.length c2, .int .i64 (S.sp : Int)] 29)) 39 [.int .u64 0, .int .u64 0]).at_ (by simp))
  have B0 := hide (show Below w.heap.size w W0 by rw [← hW0]; exact below2 w _ _)
  have Z0 := hide (show W0.heap.size = w.heap.size + 2 by rw [← hW0]; simp)
  clear hW0
  have S0 := hide ((hS.out.below B0.out).more B0.out.size)
  cases hf : fitB S off n with
  | false =>
    obtain ⟨hE, hB, hV⟩ := load_no hf
    have HE := hide (show LoadPost S off n w = fun e w' => e = .returned (.tuple #[.agg #[.int .u64 0, .int .u64 0], .bool false, .int .i64 4]) ∧ Below w.heap.size w w' by unfold LoadPost; rw [hE, hB, hV, kvv_zero])
    rw [HE.out]
    clear hE hB hV
    have cf := fun (W : World) (HS : Hid (StkAt W W.heap.size A1 c1 A2 c2 S)) => fits_any (A1 := A1) (A2 := A2) (c1 := c1) (c2 := c2) off n W hok
    rw [hf] at cf
    clear hf
    go_enter Try.func19, Try.ntmps19
    go_upto_region 1 with (fail)
    rw [HW0.out]
    have fX0 := RX0.out.cell (k := 0) rfl
    have fX1 := RX0.out.cell (k := 1) rfl
    have fX2 := RX0.out.cell (k := 2) rfl
    go_wp2_with fail
    refine (cf _ S0).mono ?_
    rintro e w1 ⟨rfl, hb1⟩
    have RX2 := hide (RX0.out.call hb1)
    clear RX0
    have RZ2 := hide (RZ0.out.call hb1)
    clear RZ0
    have S12 := hide (S0.out.call hb1)
    clear S0
    have B2 := hide (below_call B0.out hb1)
    clear B0
    clear hb1
    clear fX0 fX1 fX2
    have fX0 := RX2.out.cell (k := 0) rfl
    have fX1 := RX2.out.cell (k := 1) rfl
    have fX2 := RX2.out.cell (k := 2) rfl
    have fZ0 := RZ2.out.cell (k := 0) rfl
    have fZ1 := RZ2.out.cell (k := 1) rfl
    have yZ0 := RZ2.out.free 0
    have yZ1 := RZ2.out.free 1
    go_wp2_with fail
    obtain ⟨W3, hW3⟩ : ∃ W, (w1.setCell ⟨w.heap.size + 1, 0, none⟩ (.int .u64 0)).setCell ⟨w.heap.size + 1, 1, none⟩ (.int .u64 0) = W := ⟨_, rfl⟩
    have HW3 := hide hW3
    have RZ3 := hide (show Row W3 (w.heap.size + 1) 39 [.int .u64 0, .int .u64 0] by rw [← hW3]; exact ((RZ2.out).set_ 0 _).set_ 1 _)
    have RX3 := hide (show Row W3 (w.heap.size) 29 [.slice A1 S.bs.length c1, .slice A2 S.bs.length c2, .int .i64 (S.sp : Int)] by rw [← hW3]; exact ((RX2.out).far (p := ⟨w.heap.size + 1, 0, none⟩) (by simp) _).far (p := ⟨w.heap.size + 1, 1, none⟩) (by simp) _)
    clear RX2
    have B3 := hide (show Below w.heap.size w W3 by rw [← hW3]; exact below_put (below_put (B2.out) (by omega)) (by omega))
    clear hW3 RZ2
    clear fX0 fX1 fX2 fZ0 fZ1 yZ0 yZ1
    have fZ0 := RZ3.out.cell (k := 0) rfl
    have fZ1 := RZ3.out.cell (k := 1) rfl
    rw [HW3.out]
    refine bodyPost_ret (v := .tuple #[.agg #[.int .u64 0, .int .u64 0], .bool false, .int .i64 4]) (by simp [results, Try.results19, go_sem, fZ0, fZ1]) rfl ?_
    exact ⟨rfl, B3.out⟩
  | true =>
    obtain ⟨o, m, rfl, rfl, hm0, hm16, hfit⟩ := fit_nat hf
    have cf := fun (W : World) (HS : Hid (StkAt W W.heap.size A1 c1 A2 c2 S)) => fits_any (A1 := A1) (A2 := A2) (c1 := c1) (c2 := c2) (o : Int) (m : Int) W hok
    rw [hf] at cf
    have cu := fun (W : World) (HS : Hid (StkAt W W.heap.size A1 c1 A2 c2 S)) => used_any (S.sp + o) m W HS hm0 hfit
    rw [show ((S.sp + o : Nat) : Int) = (S.sp : Int) + (o : Int) by omega] at cu
    cases hu : usedB S (S.sp + o) m with
    | false =>
      obtain ⟨hE, hB, hV⟩ := load_undef hf hu
      have HE := hide (show LoadPost S o m w = fun e w' => e = .returned (.tuple #[.agg #[.int .u64 0, .int .u64 0], .bool false, .int .i64 0]) ∧ Below w.heap.size w w' by unfold LoadPost; rw [hE, hB, hV, kvv_zero])
      rw [HE.out]
      clear hE hB hV hf
      rw [hu] at cu
      clear hu
      go_enter Try.func19, Try.ntmps19
      go_upto_region 1 with (fail)
      rw [HW0.out]
      have fX0 := RX0.out.cell (k := 0) rfl
      have fX1 := RX0.out.cell (k := 1) rfl
      have fX2 := RX0.out.cell (k := 2) rfl
      go_wp2_with fail
      refine (cf _ S0).mono ?_
      rintro e w1 ⟨rfl, hb1⟩
      have RX2 := hide (RX0.out.call hb1)
      clear RX0
      have RZ2 := hide (RZ0.out.call hb1)
      clear RZ0
      have S12 := hide (S0.out.call hb1)
      clear S0
      have B2 := hide (below_call B0.out hb1)
      clear B0
      clear hb1
      clear fX0 fX1 fX2
      have fX0 := RX2.out.cell (k := 0) rfl
      have fX1 := RX2.out.cell (k := 1) rfl
      have fX2 := RX2.out.cell (k := 2) rfl
      go_wp2_with fail
      refine (cu _ S12).mono ?_
      rintro e w3 ⟨rfl, hb3⟩
      have RX4 := hide (RX2.out.call hb3)
      clear RX2
      have RZ4 := hide (RZ2.out.call hb3)
      clear RZ2
      have S14 := hide (S12.out.call hb3)
      clear S12
      have B4 := hide (below_call B2.out hb3)
      clear B2
      clear hb3
      clear fX0 fX1 fX2
      have fX0 := RX4.out.cell (k := 0) rfl
      have fX1 := RX4.out.cell (k := 1) rfl
      have fX2 := RX4.out.cell (k := 2) rfl
      have fZ0 := RZ4.out.cell (k := 0) rfl
      have fZ1 := RZ4.out.cell (k := 1) rfl
      have yZ0 := RZ4.out.free 0
      have yZ1 := RZ4.out.free 1
      go_wp2_with fail
      obtain ⟨W5, hW5⟩ : ∃ W, (w3.setCell ⟨w.heap.size + 1, 0, none⟩ (.int .u64 0)).setCell ⟨w.heap.size + 1, 1, none⟩ (.int .u64 0) = W := ⟨_, rfl⟩
      have HW5 := hide hW5
      have RZ5 := hide (show Row W5 (w.heap.size + 1) 39 [.int .u64 0, .int .u64 0] by rw [← hW5]; exact ((RZ4.out).set_ 0 _).set_ 1 _)
      have RX5 := hide (show Row W5 (w.heap.size) 29 [.slice A1 S.bs.length c1, .slice A2 S.bs.length c2, .int .i64 (S.sp : Int)] by rw [← hW5]; exact ((RX4.out).far (p := ⟨w.heap.size + 1, 0, none⟩) (by simp) _).far (p := ⟨w.heap.size + 1, 1, none⟩) (by simp) _)
      clear RX4
      have B5 := hide (show Below w.heap.size w W5 by rw [← hW5]; exact below_put (below_put (B4.out) (by omega)) (by omega))
      clear hW5 RZ4
      clear fX0 fX1 fX2 fZ0 fZ1 yZ0 yZ1
      have fZ0 := RZ5.out.cell (k := 0) rfl
      have fZ1 := RZ5.out.cell (k := 1) rfl
      rw [HW5.out]
      refine bodyPost_ret (v := .tuple #[.agg #[.int .u64 0, .int .u64 0], .bool false, .int .i64 0]) (by simp [results, Try.results19, go_sem, fZ0, fZ1]) rfl ?_
      exact ⟨rfl, B5.out⟩
    | true =>
      obtain ⟨hE, hB, hV⟩ := load_yes hf hu
      obtain ⟨V, hVV⟩ : ∃ V, valOf ((cutS S (S.sp + o) m).take 16) = V := ⟨_, rfl⟩
      rw [hVV] at hV
      have HE := hide (show LoadPost S o m w = fun e w' => e = .returned (.tuple #[.agg #[.int .u64 (lo V), .int .u64 (hi V)], .bool true, .int .i64 0]) ∧ Below w.heap.size w w' by unfold LoadPost; rw [hE, hB, hV])
      rw [HE.out]
      clear hE hB hV hf
      rw [hu] at cu
      clear hu
      obtain ⟨⟨b, off, hA, hbl⟩, _⟩ := hS.out.place (by omega)
      subst hA
      have hcl := hide (cut_len (S := S) (a := S.sp + o) (n := m) hfit)
      have hcb := hide (cut_byt hok.out (S.sp + o) m)
      have cm := fun (W : World) (HS : Hid (StkAt W W.heap.size (some ⟨b, off, none⟩) c1 A2 c2 S)) => from_any (some ⟨b, off + (S.sp + o), none⟩) m (c1 - (S.sp + o)) (cutS S (S.sp + o) m) W.heap.size W hcl (by omega) (by omega) (by have := HS.out.cut (S.sp + o) m; rwa [Option.map_some, WideShapes.add_plain] at this) (Nat.le_refl _) hcb
      rw [hVV] at cm
      clear hVV
      go_enter Try.func19, Try.ntmps19
      go_upto_region 1 with (fail)
      rw [HW0.out]
      have fX0 := RX0.out.cell (k := 0) rfl
      have fX1 := RX0.out.cell (k := 1) rfl
      have fX2 := RX0.out.cell (k := 2) rfl
      go_wp2_with fail
      refine (cf _ S0).mono ?_
      rintro e w1 ⟨rfl, hb1⟩
      have RX2 := hide (RX0.out.call hb1)
      clear RX0
      have RZ2 := hide (RZ0.out.call hb1)
      clear RZ0
      have S12 := hide (S0.out.call hb1)
      clear S0
      have B2 := hide (below_call B0.out hb1)
      clear B0
      clear hb1
      clear fX0 fX1 fX2
      have fX0 := RX2.out.cell (k := 0) rfl
      have fX1 := RX2.out.cell (k := 1) rfl
      have fX2 := RX2.out.cell (k := 2) rfl
      go_wp2_with fail
      refine (cu _ S12).mono ?_
      rintro e w3 ⟨rfl, hb3⟩
      have RX4 := hide (RX2.out.call hb3)
      clear RX2
      have RZ4 := hide (RZ2.out.call hb3)
      clear RZ2
      have S14 := hide (S12.out.call hb3)
      clear S12
      have B4 := hide (below_call B2.out hb3)
      clear B2
      clear hb3
      clear fX0 fX1 fX2
      have fX0 := RX4.out.cell (k := 0) rfl
      have fX1 := RX4.out.cell (k := 1) rfl
      have fX2 := RX4.out.cell (k := 2) rfl
      go_wp2_with fail
      refine (cm _ S14).mono ?_
      rintro e w5 ⟨rfl, hb5⟩
      have RX6 := hide (RX4.out.call hb5)
      clear RX4
      have RZ6 := hide (RZ4.out.call hb5)
      clear RZ4
      have S16 := hide (S14.out.call hb5)
      clear S14
      have B6 := hide (below_call B4.out hb5)
      clear B4
      clear hb5
      clear fX0 fX1 fX2
      have fX0 := RX6.out.cell (k := 0) rfl
      have fX1 := RX6.out.cell (k := 1) rfl
      have fX2 := RX6.out.cell (k := 2) rfl
      have fZ0 := RZ6.out.cell (k := 0) rfl
      have fZ1 := RZ6.out.cell (k := 1) rfl
      have yZ0 := RZ6.out.free 0
      have yZ1 := RZ6.out.free 1
      go_wp2_with fail
      obtain ⟨W7, hW7⟩ : ∃ W, (w5.setCell ⟨w.heap.size + 1, 0, none⟩ (.int .u64 (lo V))).setCell ⟨w.heap.size + 1, 1, none⟩ (.int .u64 (hi V)) = W := ⟨_, rfl⟩
      have HW7 := hide hW7
      have RZ7 := hide (show Row W7 (w.heap.size + 1) 39 [.int .u64 (lo V), .int .u64 (hi V)] by rw [← hW7]; exact ((RZ6.out).set_ 0 _).set_ 1 _)
      have RX7 := hide (show Row W7 (w.heap.size) 29 [.slice (some ⟨b, off, none⟩) S.bs.length c1, .slice A2 S.bs.length c2, .int .i64 (S.sp : Int)] by rw [← hW7]; exact ((RX6.out).far (p := ⟨w.heap.size + 1, 0, none⟩) (by simp) _).far (p := ⟨w.heap.size + 1, 1, none⟩) (by simp) _)
      clear RX6
      have B7 := hide (show Below w.heap.size w W7 by rw [← hW7]; exact below_put (below_put (B6.out) (by omega)) (by omega))
      clear hW7 RZ6
      clear fX0 fX1 fX2 fZ0 fZ1 yZ0 yZ1
      have fZ0 := RZ7.out.cell (k := 0) rfl
      have fZ1 := RZ7.out.cell (k := 1) rfl
      rw [HW7.out]
      refine bodyPost_ret (v := .tuple #[.agg #[.int .u64 (lo V), .int .u64 (hi V)], .bool true, .int .i64 0]) (by simp [results, Try.results19, go_sem, fZ0, fZ1]) rfl ?_
      exact ⟨rfl, B7.out⟩

end Go.Proofs.Ytipjeihfhnilcaa
end
