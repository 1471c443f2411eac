import Derived.Test.YtipjeihfhnilcaaMKrstore
set_option linter.unusedVariables false
set_option linter.unusedSimpArgs false
section
/-
  The contract of the reference's Move: the stack behind it, or the stack as it was with the error. Conditions: those of the types; the stack is one for which Check is true.
-/
namespace Go.Proofs.Ytipjeihfhnilcaa
open Go.RowKit
attribute [local go_sem ↓] Go.wp_at_zero Go.wp_at_succ

set_option maxRecDepth 100000 in
set_option maxHeartbeats 4000000 in
theorem rmove_any {A1 A2 : Option Addr} {c1 c2 : Nat} {S : Sk} (dst src n : Int) (hd : isI dst) (hsr : isI src) (w : World) (hS : Hid (StkAt w w.heap.size A1 c1 A2 c2 S)) :
    Calls Try.prog 37 #[sv A1 c1 A2 c2 S, .int .i64 dst, .int .i64 src, .int .i64 n] w (StkPost3 (moveR S dst src n) (moveB S dst src n) (moveE S dst src n) w) := by
  have hok := hide hS.out.ok
  have hmost := hS.out.ok.most
  have hsp := hS.out.ok.sp
  have hm1 := hS.out.m1
  have hm2 := hS.out.m2
  obtain ⟨W0, hW0⟩ : ∃ W, (w.alloc (.cells #[.slice A1 S.bs.length c1, .slice A2 S.bs.length c2, .int .i64 (S.sp : Int)] 29)).alloc (.cells #[.slice none 0 0, .slice none 0 0, .int .i64 0] 29) = W := ⟨_, rfl⟩
  have HW0 := hide hW0
  have RX0 := hide (show Row W0 (w.heap.size) 29 [.slice A1 S.bs.length c1, .slice A2 S.bs.length c2, .int .i64 (S.sp : Int)] by rw [← hW0]; exact ((Row.new w 29 [.slice A1 S.bs.length c1, .slice A2 S.bs.length c2, .int .i64 (S.sp : Int)]).alloc _))
  have RZ0 := hide (show Row W0 (w.heap.size + 1) 29 [.slice none 0 0, .slice none 0 0, .int .i64 0] by rw [← hW0]; exact (Row.new (w.alloc (.cells #[.slice A1 S.bs.length c1, .slice A2 S.bs.length c2, .int .i64 (S.sp : Int)] 29)) 29 [.slice none 0 0, .slice none 0 0, .int .i64 0]).at_ (by simp))
  have B0 := hide (show Below w.heap.size w W0 by rw [← hW0]; exact below2 w _ _)
  have Z0 := hide (show W0.heap.size = w.heap.size + 2 by rw [← hW0]; simp)
  clear hW0
  have cf := fun (W : World) => rright_stk (A1 := A1) (A2 := A2) (c1 := c1) (c2 := c2) dst n W hok hd
  have cg := fun (W : World) => rright_stk (A1 := A1) (A2 := A2) (c1 := c1) (c2 := c2) src n W hok hsr
  cases hf : fitB S dst n with
  | false =>
    obtain ⟨hE, hB, hR⟩ := move_no (dst := dst) (src := src) (n := n) (S := S) (.inl hf)
    have HE := hide hE
    have HB := hide hB
    have HR := hide hR
    rw [hf] at cf
    clear hf hE hB hR
    go_enter Try.func37, Try.ntmps37
    go_upto_region 1 with (fail)
    rw [HW0.out]
    have fX0 := RX0.out.cell (k := 0) rfl
    have fX1 := RX0.out.cell (k := 1) rfl
    have fX2 := RX0.out.cell (k := 2) rfl
    go_wp2_with fail
    refine (cf _).mono ?_
    rintro e w1 ⟨rfl, hb1⟩
    have RX2 := hide (RX0.out.call hb1)
    clear RX0
    have RZ2 := hide (RZ0.out.call hb1)
    clear RZ0
    have B2 := hide (below_call B0.out hb1)
    clear B0
    clear hb1
    clear fX0 fX1 fX2
    have fX0 := RX2.out.cell (k := 0) rfl
    have fX1 := RX2.out.cell (k := 1) rfl
    have fX2 := RX2.out.cell (k := 2) rfl
    have fZ0 := RZ2.out.cell (k := 0) rfl
    have fZ1 := RZ2.out.cell (k := 1) rfl
    have fZ2 := RZ2.out.cell (k := 2) rfl
    have yZ0 := RZ2.out.free 0
    have yZ1 := RZ2.out.free 1
    have yZ2 := RZ2.out.free 2
    go_wp2_with fail
    obtain ⟨W3, hW3⟩ : ∃ W, ((w1.setCell ⟨w.heap.size + 1, 0, none⟩ (.slice A1 S.bs.length c1)).setCell ⟨w.heap.size + 1, 1, none⟩ (.slice A2 S.bs.length c2)).setCell ⟨w.heap.size + 1, 2, none⟩ (.int .i64 (S.sp : Int)) = W := ⟨_, rfl⟩
    have HW3 := hide hW3
    have RZ3 := hide (show Row W3 (w.heap.size + 1) 29 [.slice A1 S.bs.length c1, .slice A2 S.bs.length c2, .int .i64 (S.sp : Int)] by rw [← hW3]; exact (((RZ2.out).set_ 0 _).set_ 1 _).set_ 2 _)
    have RX3 := hide (show Row W3 (w.heap.size) 29 [.slice A1 S.bs.length c1, .slice A2 S.bs.length c2, .int .i64 (S.sp : Int)] by rw [← hW3]; exact (((RX2.out).far (p := ⟨w.heap.size + 1, 0, none⟩) (by simp) _).far (p := ⟨w.heap.size + 1, 1, none⟩) (by simp) _).far (p := ⟨w.heap.size + 1, 2, none⟩) (by simp) _)
    clear RX2
    have B3 := hide (show Below w.heap.size w W3 by rw [← hW3]; exact below_put (below_put (below_put (B2.out) (by omega)) (by omega)) (by omega))
    clear hW3 RZ2
    clear fX0 fX1 fX2 fZ0 fZ1 fZ2 yZ0 yZ1 yZ2
    have fZ0 := RZ3.out.cell (k := 0) rfl
    have fZ1 := RZ3.out.cell (k := 1) rfl
    have fZ2 := RZ3.out.cell (k := 2) rfl
    rw [HW3.out]
    refine bodyPost_ret (v := .tuple #[.agg #[.slice A1 S.bs.length c1, .slice A2 S.bs.length c2, .int .i64 (S.sp : Int)], .bool false, .int .i64 4]) (by simp [results, Try.results37, go_sem, fZ0, fZ1, fZ2]) rfl ?_
    exact ⟨A1, c1, A2, c2, by rw [HE.out, HB.out, HR.out], by rw [HR.out]; exact hS.out.up B3.out, B3.out⟩
  | true =>
    cases hg : fitB S src n with
    | false =>
      obtain ⟨hE, hB, hR⟩ := move_no (dst := dst) (src := src) (n := n) (S := S) (.inr hg)
      have HE := hide hE
      have HB := hide hB
      have HR := hide hR
      rw [hg] at cg
      rw [hf] at cf
      clear hf hg hE hB hR
      go_enter Try.func37, Try.ntmps37
      go_upto_region 1 with (fail)
      rw [HW0.out]
      have fX0 := RX0.out.cell (k := 0) rfl
      have fX1 := RX0.out.cell (k := 1) rfl
      have fX2 := RX0.out.cell (k := 2) rfl
      go_wp2_with fail
      refine (cf _).mono ?_
      rintro e w1 ⟨rfl, hb1⟩
      have RX2 := hide (RX0.out.call hb1)
      clear RX0
      have RZ2 := hide (RZ0.out.call hb1)
      clear RZ0
      have B2 := hide (below_call B0.out hb1)
      clear B0
      clear hb1
      clear fX0 fX1 fX2
      have fX0 := RX2.out.cell (k := 0) rfl
      have fX1 := RX2.out.cell (k := 1) rfl
      have fX2 := RX2.out.cell (k := 2) rfl
      go_wp2_with fail
      refine (cg _).mono ?_
      rintro e w3 ⟨rfl, hb3⟩
      have RX4 := hide (RX2.out.call hb3)
      clear RX2
      have RZ4 := hide (RZ2.out.call hb3)
      clear RZ2
      have B4 := hide (below_call B2.out hb3)
      clear B2
      clear hb3
      clear fX0 fX1 fX2
      have fX0 := RX4.out.cell (k := 0) rfl
      have fX1 := RX4.out.cell (k := 1) rfl
      have fX2 := RX4.out.cell (k := 2) rfl
      have fZ0 := RZ4.out.cell (k := 0) rfl
      have fZ1 := RZ4.out.cell (k := 1) rfl
      have fZ2 := RZ4.out.cell (k := 2) rfl
      have yZ0 := RZ4.out.free 0
      have yZ1 := RZ4.out.free 1
      have yZ2 := RZ4.out.free 2
      go_wp2_with fail
      obtain ⟨W5, hW5⟩ : ∃ W, ((w3.setCell ⟨w.heap.size + 1, 0, none⟩ (.slice A1 S.bs.length c1)).setCell ⟨w.heap.size + 1, 1, none⟩ (.slice A2 S.bs.length c2)).setCell ⟨w.heap.size + 1, 2, none⟩ (.int .i64 (S.sp : Int)) = W := ⟨_, rfl⟩
      have HW5 := hide hW5
      have RZ5 := hide (show Row W5 (w.heap.size + 1) 29 [.slice A1 S.bs.length c1, .slice A2 S.bs.length c2, .int .i64 (S.sp : Int)] by rw [← hW5]; exact (((RZ4.out).set_ 0 _).set_ 1 _).set_ 2 _)
      have RX5 := hide (show Row W5 (w.heap.size) 29 [.slice A1 S.bs.length c1, .slice A2 S.bs.length c2, .int .i64 (S.sp : Int)] by rw [← hW5]; exact (((RX4.out).far (p := ⟨w.heap.size + 1, 0, none⟩) (by simp) _).far (p := ⟨w.heap.size + 1, 1, none⟩) (by simp) _).far (p := ⟨w.heap.size + 1, 2, none⟩) (by simp) _)
      clear RX4
      have B5 := hide (show Below w.heap.size w W5 by rw [← hW5]; exact below_put (below_put (below_put (B4.out) (by omega)) (by omega)) (by omega))
      clear hW5 RZ4
      clear fX0 fX1 fX2 fZ0 fZ1 fZ2 yZ0 yZ1 yZ2
      have fZ0 := RZ5.out.cell (k := 0) rfl
      have fZ1 := RZ5.out.cell (k := 1) rfl
      have fZ2 := RZ5.out.cell (k := 2) rfl
      rw [HW5.out]
      refine bodyPost_ret (v := .tuple #[.agg #[.slice A1 S.bs.length c1, .slice A2 S.bs.length c2, .int .i64 (S.sp : Int)], .bool false, .int .i64 4]) (by simp [results, Try.results37, go_sem, fZ0, fZ1, fZ2]) rfl ?_
      exact ⟨A1, c1, A2, c2, by rw [HE.out, HB.out, HR.out], by rw [HR.out]; exact hS.out.up B5.out, B5.out⟩
    | true =>
      obtain ⟨o, m, rfl, rfl, hm0, hm16, hfit⟩ := fit_nat hg
      obtain ⟨d, m', rfl, hmm, _, _, hfit2⟩ := fit_nat hf
      obtain rfl : m = m' := by omega
      clear hmm
      cases hu : usedB S (S.sp + o) m with
      | false =>
        obtain ⟨hE, hB, hR⟩ := move_undef hf hg hu
        obtain ⟨lE, lB, lV⟩ := load_undef hg hu
        have HE := hide hE
        have HB := hide hB
        have HR := hide hR
        have cl := fun (W : World) (HS : Hid (StkAt W W.heap.size A1 c1 A2 c2 S)) => rload_any (o : Int) (m : Int) hsr W HS
        unfold LoadPost at cl
        rw [lE, lB, lV] at cl
        rw [hg] at cg
        rw [hf] at cf
        clear hf hg hu hE hB hR lE lB lV
        go_enter Try.func37, Try.ntmps37
        go_upto_region 1 with (fail)
        rw [HW0.out]
        have fX0 := RX0.out.cell (k := 0) rfl
        have fX1 := RX0.out.cell (k := 1) rfl
        have fX2 := RX0.out.cell (k := 2) rfl
        go_wp2_with fail
        refine (cf _).mono ?_
        rintro e w1 ⟨rfl, hb1⟩
        have RX2 := hide (RX0.out.call hb1)
        clear RX0
        have RZ2 := hide (RZ0.out.call hb1)
        clear RZ0
        have B2 := hide (below_call B0.out hb1)
        clear B0
        clear hb1
        clear fX0 fX1 fX2
        have fX0 := RX2.out.cell (k := 0) rfl
        have fX1 := RX2.out.cell (k := 1) rfl
        have fX2 := RX2.out.cell (k := 2) rfl
        go_wp2_with fail
        refine (cg _).mono ?_
        rintro e w3 ⟨rfl, hb3⟩
        have RX4 := hide (RX2.out.call hb3)
        clear RX2
        have RZ4 := hide (RZ2.out.call hb3)
        clear RZ2
        have B4 := hide (below_call B2.out hb3)
        clear B2
        clear hb3
        clear fX0 fX1 fX2
        have fX0 := RX4.out.cell (k := 0) rfl
        have fX1 := RX4.out.cell (k := 1) rfl
        have fX2 := RX4.out.cell (k := 2) rfl
        go_wp2_with fail
        refine (cl _ (hide (hS.out.up B4.out))).mono ?_
        rintro e w5 ⟨rfl, hb5⟩
        have RX6 := hide (RX4.out.call hb5)
        clear RX4
        have RZ6 := hide (RZ4.out.call hb5)
        clear RZ4
        have B6 := hide (below_call B4.out hb5)
        clear B4
        clear hb5
        go_upto_region 4 with (fail)
        obtain ⟨W7, hW7⟩ : ∃ W, w5.alloc (.cells #[.int .u64 (lo 0), .int .u64 (hi 0)] 39) = W := ⟨_, rfl⟩
        have HW7 := hide hW7
        have RX7 := hide (show Row W7 (w.heap.size) 29 [.slice A1 S.bs.length c1, .slice A2 S.bs.length c2, .int .i64 (S.sp : Int)] by rw [← hW7]; exact RX6.out.alloc _)
        clear RX6
        have RZ7 := hide (show Row W7 (w.heap.size + 1) 29 [.slice none 0 0, .slice none 0 0, .int .i64 0] by rw [← hW7]; exact RZ6.out.alloc _)
        clear RZ6
        have RY7 := hide (show Row W7 (w5.heap.size) 39 [.int .u64 (lo 0), .int .u64 (hi 0)] by rw [← hW7]; exact Row.new w5 _ _)
        have L7 := hide (show w5.heap.size < W7.heap.size by rw [← hW7]; simp)
        have G7 := hide B6.out.size
        have B7 := hide (show Below w.heap.size w W7 by rw [← hW7]; exact B6.out.alloc B6.out.size _)
        clear hW7
        rw [HW7.out]
        clear fX0 fX1 fX2
        have fX0 := RX7.out.cell (k := 0) rfl
        have fX1 := RX7.out.cell (k := 1) rfl
        have fX2 := RX7.out.cell (k := 2) rfl
        have fZ0 := RZ7.out.cell (k := 0) rfl
        have fZ1 := RZ7.out.cell (k := 1) rfl
        have fZ2 := RZ7.out.cell (k := 2) rfl
        have yZ0 := RZ7.out.free 0
        have yZ1 := RZ7.out.free 1
        have yZ2 := RZ7.out.free 2
        go_wp2_with fail
        obtain ⟨W8, hW8⟩ : ∃ W, ((W7.setCell ⟨w.heap.size + 1, 0, none⟩ (.slice A1 S.bs.length c1)).setCell ⟨w.heap.size + 1, 1, none⟩ (.slice A2 S.bs.length c2)).setCell ⟨w.heap.size + 1, 2, none⟩ (.int .i64 (S.sp : Int)) = W := ⟨_, rfl⟩
        have HW8 := hide hW8
        have RZ8 := hide (show Row W8 (w.heap.size + 1) 29 [.slice A1 S.bs.length c1, .slice A2 S.bs.length c2, .int .i64 (S.sp : Int)] by rw [← hW8]; exact (((RZ7.out).set_ 0 _).set_ 1 _).set_ 2 _)
        have RX8 := hide (show Row W8 (w.heap.size) 29 [.slice A1 S.bs.length c1, .slice A2 S.bs.length c2, .int .i64 (S.sp : Int)] by rw [← hW8]; exact (((RX7.out).far (p := ⟨w.heap.size + 1, 0, none⟩) (by simp) _).far (p := ⟨w.heap.size + 1, 1, none⟩) (by simp) _).far (p := ⟨w.heap.size + 1, 2, none⟩) (by simp) _)
        clear RX7
        have B8 := hide (show Below w.heap.size w W8 by rw [← hW8]; exact below_put (below_put (below_put (B7.out) (by omega)) (by omega)) (by omega))
        clear hW8 RZ7
        clear fX0 fX1 fX2 fZ0 fZ1 fZ2 yZ0 yZ1 yZ2
        have fZ0 := RZ8.out.cell (k := 0) rfl
        have fZ1 := RZ8.out.cell (k := 1) rfl
        have fZ2 := RZ8.out.cell (k := 2) rfl
        rw [HW8.out]
        refine bodyPost_ret (v := .tuple #[.agg #[.slice A1 S.bs.length c1, .slice A2 S.bs.length c2, .int .i64 (S.sp : Int)], .bool false, .int .i64 0]) (by simp [results, Try.results37, go_sem, fZ0, fZ1, fZ2]) rfl ?_
        exact ⟨A1, c1, A2, c2, by rw [HE.out, HB.out, HR.out], by rw [HR.out]; exact hS.out.up B8.out, B8.out⟩
      | true =>
        obtain ⟨hE, hB, hR⟩ := move_yes hf hg hu
        obtain ⟨lE, lB, lV⟩ := load_yes hg hu
        obtain ⟨V, hV⟩ : ∃ V, valOf ((cutS S (S.sp + o) m).take 16) = V := ⟨_, rfl⟩
        rw [hV] at lV
        have hVl := hide (show V < two128 by rw [← hV]; exact valOf_128 _ (fun z hz => cut_byt hok.out _ _ z (List.mem_of_mem_take hz)) (by rw [List.length_take]; omega))
        have hmv := hide (show putS S (S.sp + d) (cutS S (S.sp + o) m) = storeS S (S.sp + d) m V from (move_eq hok.out (dst := S.sp + d) hfit).elim (fun h => by rw [← h, hV]) (fun h => by omega))
        have cs := fun (W : World) (HS : Hid (StkAt W W.heap.size A1 c1 A2 c2 S)) => rstore_own (d : Int) (m : Int) V hVl.out hd W HS
        rw [(store_yes (X := V) hf).1, (store_yes (X := V) hf).2] at cs
        rw [hmv.out] at hR
        clear hV
        have HE := hide hE
        have HB := hide hB
        have HR := hide hR
        have cl := fun (W : World) (HS : Hid (StkAt W W.heap.size A1 c1 A2 c2 S)) => rload_any (o : Int) (m : Int) hsr W HS
        unfold LoadPost at cl
        rw [lE, lB, lV] at cl
        rw [hg] at cg
        rw [hf] at cf
        clear hf hg hu hE hB hR lE lB lV
        go_enter Try.func37, Try.ntmps37
        go_upto_region 1 with (fail)
        rw [HW0.out]
        have fX0 := RX0.out.cell (k := 0) rfl
        have fX1 := RX0.out.cell (k := 1) rfl
        have fX2 := RX0.out.cell (k := 2) rfl
        go_wp2_with fail
        refine (cf _).mono ?_
        rintro e w1 ⟨rfl, hb1⟩
        have RX2 := hide (RX0.out.call hb1)
        clear RX0
        have RZ2 := hide (RZ0.out.call hb1)
        clear RZ0
        have B2 := hide (below_call B0.out hb1)
        clear B0
        clear hb1
        clear fX0 fX1 fX2
        have fX0 := RX2.out.cell (k := 0) rfl
        have fX1 := RX2.out.cell (k := 1) rfl
        have fX2 := RX2.out.cell (k := 2) rfl
        go_wp2_with fail
        refine (cg _).mono ?_
        rintro e w3 ⟨rfl, hb3⟩
        have RX4 := hide (RX2.out.call hb3)
        clear RX2
        have RZ4 := hide (RZ2.out.call hb3)
        clear RZ2
        have B4 := hide (below_call B2.out hb3)
        clear B2
        clear hb3
        clear fX0 fX1 fX2
        have fX0 := RX4.out.cell (k := 0) rfl
        have fX1 := RX4.out.cell (k := 1) rfl
        have fX2 := RX4.out.cell (k := 2) rfl
        go_wp2_with fail
        refine (cl _ (hide (hS.out.up B4.out))).mono ?_
        rintro e w5 ⟨rfl, hb5⟩
        have RX6 := hide (RX4.out.call hb5)
        clear RX4
        have RZ6 := hide (RZ4.out.call hb5)
        clear RZ4
        have B6 := hide (below_call B4.out hb5)
        clear B4
        clear hb5
        go_upto_region 4 with (fail)
        obtain ⟨W7, hW7⟩ : ∃ W, w5.alloc (.cells #[.int .u64 (lo V), .int .u64 (hi V)] 39) = W := ⟨_, rfl⟩
        have HW7 := hide hW7
        have RX7 := hide (show Row W7 (w.heap.size) 29 [.slice A1 S.bs.length c1, .slice A2 S.bs.length c2, .int .i64 (S.sp : Int)] by rw [← hW7]; exact RX6.out.alloc _)
        clear RX6
        have RZ7 := hide (show Row W7 (w.heap.size + 1) 29 [.slice none 0 0, .slice none 0 0, .int .i64 0] by rw [← hW7]; exact RZ6.out.alloc _)
        clear RZ6
        have RY7 := hide (show Row W7 (w5.heap.size) 39 [.int .u64 (lo V), .int .u64 (hi V)] by rw [← hW7]; exact Row.new w5 _ _)
        have L7 := hide (show w5.heap.size < W7.heap.size by rw [← hW7]; simp)
        have G7 := hide B6.out.size
        have B7 := hide (show Below w.heap.size w W7 by rw [← hW7]; exact B6.out.alloc B6.out.size _)
        clear hW7
        rw [HW7.out]
        clear fX0 fX1 fX2
        have fX0 := RX7.out.cell (k := 0) rfl
        have fX1 := RX7.out.cell (k := 1) rfl
        have fX2 := RX7.out.cell (k := 2) rfl
        have fY0 := RY7.out.cell (k := 0) rfl
        have fY1 := RY7.out.cell (k := 1) rfl
        go_wp2_with fail
        go_fit (cs _ (hide (hS.out.up B7.out)))
        rintro e w8 ⟨a1, k1, a2, k2, rfl, -, hb8, hat⟩
        have hzl := hide (show w.heap.size + 1 < W7.heap.size from RZ7.out.lt)
        have RX9 := hide (RX7.out.call hb8)
        clear RX7
        have RZ9 := hide (RZ7.out.call hb8)
        clear RZ7
        have RY9 := hide (RY7.out.call hb8)
        clear RY7
        have B9 := hide (below_call B7.out hb8)
        clear B7
        clear hb8
        have PL := hide (show (storeS S (S.sp + d) m V).bs.length = S.bs.length from put_len (S := S) (a := S.sp + d) (zs := bytesV V m) (by rw [bytesV_length]; exact hfit2))
        have SA := hide (hat rfl)
        clear hat
        have O1a := hide SA.out.o1
        have O2a := hide SA.out.o2
        have DY := hide (show w.heap.size + 1 < w8.heap.size from RZ9.out.lt)
        go_upto_region 7 with (fail)
        obtain ⟨W10, hW10⟩ : ∃ W, w8.alloc (.cells #[.slice a1 (storeS S (S.sp + d) m V).bs.length k1, .slice a2 (storeS S (S.sp + d) m V).bs.length k2, .int .i64 ((storeS S (S.sp + d) m V).sp : Int)] 29) = W := ⟨_, rfl⟩
        have HW10 := hide hW10
        have RX10 := hide (show Row W10 (w.heap.size) 29 [.slice A1 S.bs.length c1, .slice A2 S.bs.length c2, .int .i64 (S.sp : Int)] by rw [← hW10]; exact RX9.out.alloc _)
        clear RX9
        have RZ10 := hide (show Row W10 (w.heap.size + 1) 29 [.slice none 0 0, .slice none 0 0, .int .i64 0] by rw [← hW10]; exact RZ9.out.alloc _)
        clear RZ9
        have RY10 := hide (show Row W10 (w5.heap.size) 39 [.int .u64 (lo V), .int .u64 (hi V)] by rw [← hW10]; exact RY9.out.alloc _)
        clear RY9
        have RQ10 := hide (show Row W10 (w8.heap.size) 29 [.slice a1 (storeS S (S.sp + d) m V).bs.length k1, .slice a2 (storeS S (S.sp + d) m V).bs.length k2, .int .i64 ((storeS S (S.sp + d) m V).sp : Int)] by rw [← hW10]; exact Row.new w8 _ _)
        have O110 := hide (show W10.ownsRow W7.heap.size 5 1 (.slice a1 (storeS S (S.sp + d) m V).bs.length k1) (storeS S (S.sp + d) m V).bs.length (cellsU8 (storeS S (S.sp + d) m V).bs) by rw [← hW10]; exact own_below O1a.out (below1 _ _))
        clear O1a
        have O210 := hide (show W10.ownsRow W7.heap.size 4 1 (.slice a2 (storeS S (S.sp + d) m V).bs.length k2) (storeS S (S.sp + d) m V).bs.length (cellsB (storeS S (S.sp + d) m V).us) by rw [← hW10]; exact own_below O2a.out (below1 _ _))
        clear O2a
        have L10 := hide (show w8.heap.size < W10.heap.size by rw [← hW10]; simp)
        have G10 := hide B9.out.size
        have B10 := hide (show Below w.heap.size w W10 by rw [← hW10]; exact B9.out.alloc B9.out.size _)
        clear hW10
        rw [HW10.out]
        clear fX0 fX1 fX2 fY0 fY1
        have fQ0 := RQ10.out.cell (k := 0) rfl
        have fQ1 := RQ10.out.cell (k := 1) rfl
        have fQ2 := RQ10.out.cell (k := 2) rfl
        have fZ0 := RZ10.out.cell (k := 0) rfl
        have fZ1 := RZ10.out.cell (k := 1) rfl
        have fZ2 := RZ10.out.cell (k := 2) rfl
        have yZ0 := RZ10.out.free 0
        have yZ1 := RZ10.out.free 1
        have yZ2 := RZ10.out.free 2
        go_wp2_with fail
        obtain ⟨W11, hW11⟩ : ∃ W, ((W10.setCell ⟨w.heap.size + 1, 0, none⟩ (.slice a1 (storeS S (S.sp + d) m V).bs.length k1)).setCell ⟨w.heap.size + 1, 1, none⟩ (.slice a2 (storeS S (S.sp + d) m V).bs.length k2)).setCell ⟨w.heap.size + 1, 2, none⟩ (.int .i64 ((storeS S (S.sp + d) m V).sp : Int)) = W := ⟨_, rfl⟩
        have HW11 := hide hW11
        have RZ11 := hide (show Row W11 (w.heap.size + 1) 29 [.slice a1 (storeS S (S.sp + d) m V).bs.length k1, .slice a2 (storeS S (S.sp + d) m V).bs.length k2, .int .i64 ((storeS S (S.sp + d) m V).sp : Int)] by rw [← hW11]; exact (((RZ10.out).set_ 0 _).set_ 1 _).set_ 2 _)
        have RQ11 := hide (show Row W11 (w8.heap.size) 29 [.slice a1 (storeS S (S.sp + d) m V).bs.length k1, .slice a2 (storeS S (S.sp + d) m V).bs.length k2, .int .i64 ((storeS S (S.sp + d) m V).sp : Int)] by rw [← hW11]; exact (((RQ10.out).far (p := ⟨w.heap.size + 1, 0, none⟩) (by have := DY.out; simp <;> omega) _).far (p := ⟨w.heap.size + 1, 1, none⟩) (by have := DY.out; simp <;> omega) _).far (p := ⟨w.heap.size + 1, 2, none⟩) (by have := DY.out; simp <;> omega) _)
        clear RQ10
        have O111 := hide (show W11.ownsRow W7.heap.size 5 1 (.slice a1 (storeS S (S.sp + d) m V).bs.length k1) (storeS S (S.sp + d) m V).bs.length (cellsU8 (storeS S (S.sp + d) m V).bs) by rw [← hW11]; exact own_put (own_put (own_put (O110.out) hzl.out) hzl.out) hzl.out)
        clear O110
        have O211 := hide (show W11.ownsRow W7.heap.size 4 1 (.slice a2 (storeS S (S.sp + d) m V).bs.length k2) (storeS S (S.sp + d) m V).bs.length (cellsB (storeS S (S.sp + d) m V).us) by rw [← hW11]; exact own_put (own_put (own_put (O210.out) hzl.out) hzl.out) hzl.out)
        clear O210
        have B11 := hide (show Below w.heap.size w W11 by rw [← hW11]; exact below_put (below_put (below_put (B10.out) (by omega)) (by omega)) (by omega))
        clear hW11 RZ10
        clear fQ0 fQ1 fQ2 fZ0 fZ1 fZ2 yZ0 yZ1 yZ2
        have fZ0 := RZ11.out.cell (k := 0) rfl
        have fZ1 := RZ11.out.cell (k := 1) rfl
        have fZ2 := RZ11.out.cell (k := 2) rfl
        rw [HW11.out]
        refine bodyPost_ret (v := .tuple #[.agg #[.slice a1 (storeS S (S.sp + d) m V).bs.length k1, .slice a2 (storeS S (S.sp + d) m V).bs.length k2, .int .i64 ((storeS S (S.sp + d) m V).sp : Int)], .bool true, .int .i64 0]) (by simp [results, Try.results37, go_sem, fZ0, fZ1, fZ2]) rfl ?_
        exact ⟨a1, k1, a2, k2, by rw [HE.out, HB.out, HR.out], by rw [HR.out]; exact StkOwn.at_ ⟨SA.out.ok, O111.out, O211.out⟩, B11.out⟩
end Go.Proofs.Ytipjeihfhnilcaa
end
