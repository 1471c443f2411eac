import Derived.Test.YtipjeihfhnilcaaMKms
import Derived.Test.YtipjeihfhnilcaaMKown
set_option linter.unusedVariables false
set_option linter.unusedSimpArgs false
section
/-
  The contracts of Push, Pop, Store and Move (chapter 9): a copy of the stack, then Memory's method in place. Conditions: those of the types.
-/
namespace Go.Proofs.Ytipjeihfhnilcaa
open Go.RowKit

set_option maxRecDepth 100000 in
set_option maxHeartbeats 4000000 in
theorem push_any {A1 A2 : Option Addr} {c1 c2 : Nat} {S : Sk} (n : Int) (w : World) (hS : Hid (StkAt w w.heap.size A1 c1 A2 c2 S)) :
    Calls Try.prog 17 #[sv A1 c1 A2 c2 S, .int .i64 n] w (StkPost (pushR S n) (pushE S n) w) := by
  have hmost := hS.out.ok.most
  have hsp := hS.out.ok.sp
  have hm1 := hS.out.m1
  have hm2 := hS.out.m2
  obtain ⟨W0, hW0⟩ : ∃ W, (w.alloc (.cells #[.slice A1 S.bs.length c1, .slice A2 S.bs.length c2, .int .i64 (S.sp : Int)] 29)).alloc (.cells #[.slice none 0 0, .slice none 0 0, .int .i64 0] 29) = W := ⟨_, rfl⟩
  have HW0 := hide hW0
  have RX := hide (show Row W0 w.heap.size 29 [.slice A1 S.bs.length c1, .slice A2 S.bs.length c2, .int .i64 (S.sp : Int)] by rw [← hW0]; exact ((Row.new w 29 [.slice A1 S.bs.length c1, .slice A2 S.bs.length c2, .int .i64 (S.sp : Int)]).alloc _))
  have RZ := hide (show Row W0 (w.heap.size + 1) 29 [.slice none 0 0, .slice none 0 0, .int .i64 0] by rw [← hW0]; exact (Row.new _ 29 [.slice none 0 0, .slice none 0 0, .int .i64 0]).at_ (by simp))
  have Z0 := hide (show W0.heap.size = w.heap.size + 2 by rw [← hW0]; simp)
  have B0 := hide (show Below w.heap.size w W0 by rw [← hW0]; exact below2 w _ _)
  clear hW0
  have hS0 := hide ((hS.out.below B0.out).more B0.out.size)
  have cc := clone_any A1 S.bs.length c1 A2 c2 (S.sp : Int) S.bs S.us W0 (hide hS0.out.k1) (hide hS0.out.k2) hm1 hm2 hmost (hide rfl) (hide hS0.out.ok.len) (hide hS0.out.s1) (hide hS0.out.s2)
  go_enter Try.func17, Try.ntmps17
  go_upto_region 1 with (fail)
  rw [HW0.out]
  clear HW0
  have x0 := RX.out.cell (k := 0) rfl
  have x1 := RX.out.cell (k := 1) rfl
  have x2 := RX.out.cell (k := 2) rfl
  go_wp2_with fail
  refine cc.mono ?_
  rintro e w1 ⟨a1, k1, a2, k2, rfl, o1, o2, hb1⟩
  obtain ⟨W2, hW2⟩ : ∃ V, w1.alloc (.cells #[.slice a1 S.bs.length k1, .slice a2 S.bs.length k2, .int .i64 (S.sp : Int)] 70) = V := ⟨_, rfl⟩
  have HW2 := hide hW2
  have hb2 : Below w1.heap.size w1 W2 := by rw [← hW2]; exact below1 _ _
  obtain ⟨g, hg⟩ : ∃ g, w1.heap.size = g := ⟨_, rfl⟩
  have HG := hide hg
  have RM := hide (show Row W2 g 70 [.slice a1 S.bs.length k1, .slice a2 S.bs.length k2, .int .i64 (S.sp : Int)] by rw [← hg, ← hW2]; exact Row.new w1 _ _)
  have hgs : W0.heap.size ≤ g := by have := hb1.size; omega
  have hz := Z0.out
  have MA := hide (show MemAt W2 g 0 (W0.heap.size) 70 [.slice a1 S.bs.length k1, .slice a2 S.bs.length k2, .int .i64 (S.sp : Int)] a1 k1 a2 k2 S from
    ⟨RM.out, rfl, rfl, rfl, (show StkOwn w1 W0.heap.size a1 k1 a2 k2 S 5 4 from ⟨hS.out.ok, own_raise o1 (by omega), own_raise o2 (by omega)⟩).below hb2, hgs, by decide, by decide⟩)
  have hb12 := hb1.trans (hb2.mono hb1.size)
  have RZ2 := hide (RZ.out.call hb12)
  have B2 := hide (below_call B0.out hb12)
  have hW2s : g < W2.heap.size := RM.out.lt
  have cm := mpush_any n W2 MA
  clear cc hb1 hb2 hb12 o1 o2 hW2 hg RM RX RZ B0 hS0 x0 x1 x2
  go_upto_region 2 with (fail)
  rw [HW2.out, HG.out]
  clear HW2 HG
  go_wp2_with fail
  refine cm.mono ?_
  rintro e w3 ⟨rfl, MA3, K3⟩
  have RZ3 := hide (K3.row RZ2.out (by omega) (.inl (by omega)))
  have B3 := hide (B2.out.trans (K3.below (B := w.heap.size) (by omega) (by omega) (by omega)))
  have f0 := MA3.row.cell MA3.k0
  have f1 := MA3.row.cell MA3.k1
  have f2 := MA3.row.cell MA3.k2
  have y0 := RZ3.out.free 0
  have y1 := RZ3.out.free 1
  have y2 := RZ3.out.free 2
  have z0 := RZ3.out.cell (k := 0) rfl
  have z1 := RZ3.out.cell (k := 1) rfl
  have z2 := RZ3.out.cell (k := 2) rfl
  have ST := hide MA3.own
  clear MA3 K3 cm RZ2 B2
  go_wp2_with fail
  obtain ⟨W4, hW4⟩ : ∃ V, ((w3.setCell ⟨w.heap.size + 1, 0, none⟩ (.slice a1 (pushR S n).bs.length k1)).setCell ⟨w.heap.size + 1, 1, none⟩ (.slice a2 (pushR S n).bs.length k2)).setCell ⟨w.heap.size + 1, 2, none⟩ (.int .i64 ((pushR S n).sp : Int)) = V := ⟨_, rfl⟩
  have R4 : Row W4 (w.heap.size + 1) 29 [.slice a1 (pushR S n).bs.length k1, .slice a2 (pushR S n).bs.length k2, .int .i64 ((pushR S n).sp : Int)] := by rw [← hW4]; exact ((RZ3.out.set_ 0 _).set_ 1 _).set_ 2 _
  have S4 : StkAt W4 W4.heap.size a1 k1 a2 k2 (pushR S n) := (show StkOwn W4 W0.heap.size a1 k1 a2 k2 (pushR S n) 5 4 from ⟨ST.out.ok, by rw [← hW4]; exact own_put (own_put (own_put ST.out.o1 (by omega)) (by omega)) (by omega), by rw [← hW4]; exact own_put (own_put (own_put ST.out.o2 (by omega)) (by omega)) (by omega)⟩).at_
  have B4 : Below w.heap.size w W4 := by rw [← hW4]; exact below_put (below_put (below_put B3.out (by omega)) (by omega)) (by omega)
  rw [hW4]
  have z0 := R4.cell (k := 0) rfl
  have z1 := R4.cell (k := 1) rfl
  have z2 := R4.cell (k := 2) rfl
  refine bodyPost_ret (v := .tuple #[.agg #[.slice a1 (pushR S n).bs.length k1, .slice a2 (pushR S n).bs.length k2, .int .i64 ((pushR S n).sp : Int)], .int .i64 (pushE S n)]) (by simp [results, Try.results17, go_sem, z0, z1, z2]) rfl ?_
  exact ⟨a1, k1, a2, k2, rfl, S4, B4⟩
set_option maxRecDepth 100000 in
set_option maxHeartbeats 4000000 in
theorem pop_any {A1 A2 : Option Addr} {c1 c2 : Nat} {S : Sk} (n : Int) (w : World) (hS : Hid (StkAt w w.heap.size A1 c1 A2 c2 S)) :
    Calls Try.prog 34 #[sv A1 c1 A2 c2 S, .int .i64 n] w (StkPost (popR S n) (popE S n) w) := by
  have hmost := hS.out.ok.most
  have hsp := hS.out.ok.sp
  have hm1 := hS.out.m1
  have hm2 := hS.out.m2
  obtain ⟨W0, hW0⟩ : ∃ W, (w.alloc (.cells #[.slice A1 S.bs.length c1, .slice A2 S.bs.length c2, .int .i64 (S.sp : Int)] 29)).alloc (.cells #[.slice none 0 0, .slice none 0 0, .int .i64 0] 29) = W := ⟨_, rfl⟩
  have HW0 := hide hW0
  have RX := hide (show Row W0 w.heap.size 29 [.slice A1 S.bs.length c1, .slice A2 S.bs.length c2, .int .i64 (S.sp : Int)] by rw [← hW0]; exact ((Row.new w 29 [.slice A1 S.bs.length c1, .slice A2 S.bs.length c2, .int .i64 (S.sp : Int)]).alloc _))
  have RZ := hide (show Row W0 (w.heap.size + 1) 29 [.slice none 0 0, .slice none 0 0, .int .i64 0] by rw [← hW0]; exact (Row.new _ 29 [.slice none 0 0, .slice none 0 0, .int .i64 0]).at_ (by simp))
  have Z0 := hide (show W0.heap.size = w.heap.size + 2 by rw [← hW0]; simp)
  have B0 := hide (show Below w.heap.size w W0 by rw [← hW0]; exact below2 w _ _)
  clear hW0
  have hS0 := hide ((hS.out.below B0.out).more B0.out.size)
  have cc := clone_any A1 S.bs.length c1 A2 c2 (S.sp : Int) S.bs S.us W0 (hide hS0.out.k1) (hide hS0.out.k2) hm1 hm2 hmost (hide rfl) (hide hS0.out.ok.len) (hide hS0.out.s1) (hide hS0.out.s2)
  go_enter Try.func34, Try.ntmps34
  go_upto_region 1 with (fail)
  rw [HW0.out]
  clear HW0
  have x0 := RX.out.cell (k := 0) rfl
  have x1 := RX.out.cell (k := 1) rfl
  have x2 := RX.out.cell (k := 2) rfl
  go_wp2_with fail
  refine cc.mono ?_
  rintro e w1 ⟨a1, k1, a2, k2, rfl, o1, o2, hb1⟩
  obtain ⟨W2, hW2⟩ : ∃ V, w1.alloc (.cells #[.slice a1 S.bs.length k1, .slice a2 S.bs.length k2, .int .i64 (S.sp : Int)] 70) = V := ⟨_, rfl⟩
  have HW2 := hide hW2
  have hb2 : Below w1.heap.size w1 W2 := by rw [← hW2]; exact below1 _ _
  obtain ⟨g, hg⟩ : ∃ g, w1.heap.size = g := ⟨_, rfl⟩
  have HG := hide hg
  have RM := hide (show Row W2 g 70 [.slice a1 S.bs.length k1, .slice a2 S.bs.length k2, .int .i64 (S.sp : Int)] by rw [← hg, ← hW2]; exact Row.new w1 _ _)
  have hgs : W0.heap.size ≤ g := by have := hb1.size; omega
  have hz := Z0.out
  have MA := hide (show MemAt W2 g 0 (W0.heap.size) 70 [.slice a1 S.bs.length k1, .slice a2 S.bs.length k2, .int .i64 (S.sp : Int)] a1 k1 a2 k2 S from
    ⟨RM.out, rfl, rfl, rfl, (show StkOwn w1 W0.heap.size a1 k1 a2 k2 S 5 4 from ⟨hS.out.ok, own_raise o1 (by omega), own_raise o2 (by omega)⟩).below hb2, hgs, by decide, by decide⟩)
  have hb12 := hb1.trans (hb2.mono hb1.size)
  have RZ2 := hide (RZ.out.call hb12)
  have B2 := hide (below_call B0.out hb12)
  have hW2s : g < W2.heap.size := RM.out.lt
  have cm := mpop_any n W2 MA
  clear cc hb1 hb2 hb12 o1 o2 hW2 hg RM RX RZ B0 hS0 x0 x1 x2
  go_upto_region 2 with (fail)
  rw [HW2.out, HG.out]
  clear HW2 HG
  go_wp2_with fail
  refine cm.mono ?_
  rintro e w3 ⟨rfl, MA3, K3⟩
  have RZ3 := hide (K3.row RZ2.out (by omega) (.inl (by omega)))
  have B3 := hide (B2.out.trans (K3.below (B := w.heap.size) (by omega) (by omega) (by omega)))
  have f0 := MA3.row.cell MA3.k0
  have f1 := MA3.row.cell MA3.k1
  have f2 := MA3.row.cell MA3.k2
  have y0 := RZ3.out.free 0
  have y1 := RZ3.out.free 1
  have y2 := RZ3.out.free 2
  have z0 := RZ3.out.cell (k := 0) rfl
  have z1 := RZ3.out.cell (k := 1) rfl
  have z2 := RZ3.out.cell (k := 2) rfl
  have ST := hide MA3.own
  clear MA3 K3 cm RZ2 B2
  go_wp2_with fail
  obtain ⟨W4, hW4⟩ : ∃ V, ((w3.setCell ⟨w.heap.size + 1, 0, none⟩ (.slice a1 (popR S n).bs.length k1)).setCell ⟨w.heap.size + 1, 1, none⟩ (.slice a2 (popR S n).bs.length k2)).setCell ⟨w.heap.size + 1, 2, none⟩ (.int .i64 ((popR S n).sp : Int)) = V := ⟨_, rfl⟩
  have R4 : Row W4 (w.heap.size + 1) 29 [.slice a1 (popR S n).bs.length k1, .slice a2 (popR S n).bs.length k2, .int .i64 ((popR S n).sp : Int)] := by rw [← hW4]; exact ((RZ3.out.set_ 0 _).set_ 1 _).set_ 2 _
  have S4 : StkAt W4 W4.heap.size a1 k1 a2 k2 (popR S n) := (show StkOwn W4 W0.heap.size a1 k1 a2 k2 (popR S n) 5 4 from ⟨ST.out.ok, by rw [← hW4]; exact own_put (own_put (own_put ST.out.o1 (by omega)) (by omega)) (by omega), by rw [← hW4]; exact own_put (own_put (own_put ST.out.o2 (by omega)) (by omega)) (by omega)⟩).at_
  have B4 : Below w.heap.size w W4 := by rw [← hW4]; exact below_put (below_put (below_put B3.out (by omega)) (by omega)) (by omega)
  rw [hW4]
  have z0 := R4.cell (k := 0) rfl
  have z1 := R4.cell (k := 1) rfl
  have z2 := R4.cell (k := 2) rfl
  refine bodyPost_ret (v := .tuple #[.agg #[.slice a1 (popR S n).bs.length k1, .slice a2 (popR S n).bs.length k2, .int .i64 ((popR S n).sp : Int)], .int .i64 (popE S n)]) (by simp [results, Try.results34, go_sem, z0, z1, z2]) rfl ?_
  exact ⟨a1, k1, a2, k2, rfl, S4, B4⟩
set_option maxRecDepth 100000 in
set_option maxHeartbeats 4000000 in
theorem store_any {A1 A2 : Option Addr} {c1 c2 : Nat} {S : Sk} (off n : Int) (X : Nat) (hX : X < two128) (w : World) (hS : Hid (StkAt w w.heap.size A1 c1 A2 c2 S)) :
    Calls Try.prog 15 #[sv A1 c1 A2 c2 S, .int .i64 off, .int .i64 n, vv X] w (StkPost (storeR S off n X) (fitE S off n) w) := by
  have hmost := hS.out.ok.most
  have hsp := hS.out.ok.sp
  have hm1 := hS.out.m1
  have hm2 := hS.out.m2
  obtain ⟨W0, hW0⟩ : ∃ W, ((w.alloc (.cells #[.slice A1 S.bs.length c1, .slice A2 S.bs.length c2, .int .i64 (S.sp : Int)] 29)).alloc (.cells #[.int .u64 (lo X), .int .u64 (hi X)] 39)).alloc (.cells #[.slice none 0 0, .slice none 0 0, .int .i64 0] 29) = W := ⟨_, rfl⟩
  have HW0 := hide hW0
  have RX := hide (show Row W0 w.heap.size 29 [.slice A1 S.bs.length c1, .slice A2 S.bs.length c2, .int .i64 (S.sp : Int)] by rw [← hW0]; exact (((Row.new w 29 [.slice A1 S.bs.length c1, .slice A2 S.bs.length c2, .int .i64 (S.sp : Int)]).alloc _).alloc _))
  have RV := hide (show Row W0 (w.heap.size + 1) 39 [.int .u64 (lo X), .int .u64 (hi X)] by rw [← hW0]; exact ((Row.new _ 39 [.int .u64 (lo X), .int .u64 (hi X)]).alloc _).at_ (by simp))
  have RZ := hide (show Row W0 (w.heap.size + 2) 29 [.slice none 0 0, .slice none 0 0, .int .i64 0] by rw [← hW0]; exact (Row.new _ 29 [.slice none 0 0, .slice none 0 0, .int .i64 0]).at_ (by simp))
  have Z0 := hide (show W0.heap.size = w.heap.size + 3 by rw [← hW0]; simp)
  have B0 := hide (show Below w.heap.size w W0 by rw [← hW0]; exact (below2 w _ _).trans ((below1 _ _).mono (by simp; omega)))
  clear hW0
  have hS0 := hide ((hS.out.below B0.out).more B0.out.size)
  have cc := clone_any A1 S.bs.length c1 A2 c2 (S.sp : Int) S.bs S.us W0 (hide hS0.out.k1) (hide hS0.out.k2) hm1 hm2 hmost (hide rfl) (hide hS0.out.ok.len) (hide hS0.out.s1) (hide hS0.out.s2)
  go_enter Try.func15, Try.ntmps15
  go_upto_region 1 with (fail)
  rw [HW0.out]
  clear HW0
  have x0 := RX.out.cell (k := 0) rfl
  have x1 := RX.out.cell (k := 1) rfl
  have x2 := RX.out.cell (k := 2) rfl
  go_wp2_with fail
  refine cc.mono ?_
  rintro e w1 ⟨a1, k1, a2, k2, rfl, o1, o2, hb1⟩
  obtain ⟨W2, hW2⟩ : ∃ V, w1.alloc (.cells #[.slice a1 S.bs.length k1, .slice a2 S.bs.length k2, .int .i64 (S.sp : Int)] 70) = V := ⟨_, rfl⟩
  have HW2 := hide hW2
  have hb2 : Below w1.heap.size w1 W2 := by rw [← hW2]; exact below1 _ _
  obtain ⟨g, hg⟩ : ∃ g, w1.heap.size = g := ⟨_, rfl⟩
  have HG := hide hg
  have RM := hide (show Row W2 g 70 [.slice a1 S.bs.length k1, .slice a2 S.bs.length k2, .int .i64 (S.sp : Int)] by rw [← hg, ← hW2]; exact Row.new w1 _ _)
  have hgs : W0.heap.size ≤ g := by have := hb1.size; omega
  have hz := Z0.out
  have MA := hide (show MemAt W2 g 0 (W0.heap.size) 70 [.slice a1 S.bs.length k1, .slice a2 S.bs.length k2, .int .i64 (S.sp : Int)] a1 k1 a2 k2 S from
    ⟨RM.out, rfl, rfl, rfl, (show StkOwn w1 W0.heap.size a1 k1 a2 k2 S 5 4 from ⟨hS.out.ok, own_raise o1 (by omega), own_raise o2 (by omega)⟩).below hb2, hgs, by decide, by decide⟩)
  have hb12 := hb1.trans (hb2.mono hb1.size)
  have RZ2 := hide (RZ.out.call hb12)
  have RV2 := hide (RV.out.call hb12)
  have B2 := hide (below_call B0.out hb12)
  have hW2s : g < W2.heap.size := RM.out.lt
  have cm := mstore_any off n X hX W2 MA
  clear cc hb1 hb2 hb12 o1 o2 hW2 hg RM RX RZ B0 hS0 x0 x1 x2 RV
  go_upto_region 2 with (fail)
  rw [HW2.out, HG.out]
  clear HW2 HG
  have v0 := RV2.out.cell (k := 0) rfl
  have v1 := RV2.out.cell (k := 1) rfl
  go_wp2_with fail
  refine cm.mono ?_
  rintro e w3 ⟨rfl, MA3, K3⟩
  have RZ3 := hide (K3.row RZ2.out (by omega) (.inl (by omega)))
  have B3 := hide (B2.out.trans (K3.below (B := w.heap.size) (by omega) (by omega) (by omega)))
  have f0 := MA3.row.cell MA3.k0
  have f1 := MA3.row.cell MA3.k1
  have f2 := MA3.row.cell MA3.k2
  have y0 := RZ3.out.free 0
  have y1 := RZ3.out.free 1
  have y2 := RZ3.out.free 2
  have z0 := RZ3.out.cell (k := 0) rfl
  have z1 := RZ3.out.cell (k := 1) rfl
  have z2 := RZ3.out.cell (k := 2) rfl
  have ST := hide MA3.own
  clear MA3 K3 cm RZ2 B2 v0 v1 RV2
  go_wp2_with fail
  obtain ⟨W4, hW4⟩ : ∃ V, ((w3.setCell ⟨w.heap.size + 2, 0, none⟩ (.slice a1 (storeR S off n X).bs.length k1)).setCell ⟨w.heap.size + 2, 1, none⟩ (.slice a2 (storeR S off n X).bs.length k2)).setCell ⟨w.heap.size + 2, 2, none⟩ (.int .i64 ((storeR S off n X).sp : Int)) = V := ⟨_, rfl⟩
  have R4 : Row W4 (w.heap.size + 2) 29 [.slice a1 (storeR S off n X).bs.length k1, .slice a2 (storeR S off n X).bs.length k2, .int .i64 ((storeR S off n X).sp : Int)] := by rw [← hW4]; exact ((RZ3.out.set_ 0 _).set_ 1 _).set_ 2 _
  have S4 : StkAt W4 W4.heap.size a1 k1 a2 k2 (storeR S off n X) := (show StkOwn W4 W0.heap.size a1 k1 a2 k2 (storeR S off n X) 5 4 from ⟨ST.out.ok, by rw [← hW4]; exact own_put (own_put (own_put ST.out.o1 (by omega)) (by omega)) (by omega), by rw [← hW4]; exact own_put (own_put (own_put ST.out.o2 (by omega)) (by omega)) (by omega)⟩).at_
  have B4 : Below w.heap.size w W4 := by rw [← hW4]; exact below_put (below_put (below_put B3.out (by omega)) (by omega)) (by omega)
  rw [hW4]
  have z0 := R4.cell (k := 0) rfl
  have z1 := R4.cell (k := 1) rfl
  have z2 := R4.cell (k := 2) rfl
  refine bodyPost_ret (v := .tuple #[.agg #[.slice a1 (storeR S off n X).bs.length k1, .slice a2 (storeR S off n X).bs.length k2, .int .i64 ((storeR S off n X).sp : Int)], .int .i64 (fitE S off n)]) (by simp [results, Try.results15, go_sem, z0, z1, z2]) rfl ?_
  exact ⟨a1, k1, a2, k2, rfl, S4, B4⟩
set_option maxRecDepth 100000 in
set_option maxHeartbeats 4000000 in
theorem move_any {A1 A2 : Option Addr} {c1 c2 : Nat} {S : Sk} (dst src n : Int) (w : World) (hS : Hid (StkAt w w.heap.size A1 c1 A2 c2 S)) :
    Calls Try.prog 36 #[sv A1 c1 A2 c2 S, .int .i64 dst, .int .i64 src, .int .i64 n] w (StkPost3 (moveR S dst src n) (moveB S dst src n) (moveE S dst src n) w) := by
  have hmost := hS.out.ok.most
  have hsp := hS.out.ok.sp
  have hm1 := hS.out.m1
  have hm2 := hS.out.m2
  obtain ⟨W0, hW0⟩ : ∃ W, (w.alloc (.cells #[.slice A1 S.bs.length c1, .slice A2 S.bs.length c2, .int .i64 (S.sp : Int)] 29)).alloc (.cells #[.slice none 0 0, .slice none 0 0, .int .i64 0] 29) = W := ⟨_, rfl⟩
  have HW0 := hide hW0
  have RX := hide (show Row W0 w.heap.size 29 [.slice A1 S.bs.length c1, .slice A2 S.bs.length c2, .int .i64 (S.sp : Int)] by rw [← hW0]; exact ((Row.new w 29 [.slice A1 S.bs.length c1, .slice A2 S.bs.length c2, .int .i64 (S.sp : Int)]).alloc _))
  have RZ := hide (show Row W0 (w.heap.size + 1) 29 [.slice none 0 0, .slice none 0 0, .int .i64 0] by rw [← hW0]; exact (Row.new _ 29 [.slice none 0 0, .slice none 0 0, .int .i64 0]).at_ (by simp))
  have Z0 := hide (show W0.heap.size = w.heap.size + 2 by rw [← hW0]; simp)
  have B0 := hide (show Below w.heap.size w W0 by rw [← hW0]; exact below2 w _ _)
  clear hW0
  have hS0 := hide ((hS.out.below B0.out).more B0.out.size)
  have cc := clone_any A1 S.bs.length c1 A2 c2 (S.sp : Int) S.bs S.us W0 (hide hS0.out.k1) (hide hS0.out.k2) hm1 hm2 hmost (hide rfl) (hide hS0.out.ok.len) (hide hS0.out.s1) (hide hS0.out.s2)
  go_enter Try.func36, Try.ntmps36
  go_upto_region 1 with (fail)
  rw [HW0.out]
  clear HW0
  have x0 := RX.out.cell (k := 0) rfl
  have x1 := RX.out.cell (k := 1) rfl
  have x2 := RX.out.cell (k := 2) rfl
  go_wp2_with fail
  refine cc.mono ?_
  rintro e w1 ⟨a1, k1, a2, k2, rfl, o1, o2, hb1⟩
  obtain ⟨W2, hW2⟩ : ∃ V, w1.alloc (.cells #[.slice a1 S.bs.length k1, .slice a2 S.bs.length k2, .int .i64 (S.sp : Int)] 70) = V := ⟨_, rfl⟩
  have HW2 := hide hW2
  have hb2 : Below w1.heap.size w1 W2 := by rw [← hW2]; exact below1 _ _
  obtain ⟨g, hg⟩ : ∃ g, w1.heap.size = g := ⟨_, rfl⟩
  have HG := hide hg
  have RM := hide (show Row W2 g 70 [.slice a1 S.bs.length k1, .slice a2 S.bs.length k2, .int .i64 (S.sp : Int)] by rw [← hg, ← hW2]; exact Row.new w1 _ _)
  have hgs : W0.heap.size ≤ g := by have := hb1.size; omega
  have hz := Z0.out
  have MA := hide (show MemAt W2 g 0 (W0.heap.size) 70 [.slice a1 S.bs.length k1, .slice a2 S.bs.length k2, .int .i64 (S.sp : Int)] a1 k1 a2 k2 S from
    ⟨RM.out, rfl, rfl, rfl, (show StkOwn w1 W0.heap.size a1 k1 a2 k2 S 5 4 from ⟨hS.out.ok, own_raise o1 (by omega), own_raise o2 (by omega)⟩).below hb2, hgs, by decide, by decide⟩)
  have hb12 := hb1.trans (hb2.mono hb1.size)
  have RZ2 := hide (RZ.out.call hb12)
  have B2 := hide (below_call B0.out hb12)
  have hW2s : g < W2.heap.size := RM.out.lt
  have cm := mmove_any dst src n W2 MA
  clear cc hb1 hb2 hb12 o1 o2 hW2 hg RM RX RZ B0 hS0 x0 x1 x2
  go_upto_region 2 with (fail)
  rw [HW2.out, HG.out]
  clear HW2 HG
  go_wp2_with fail
  refine cm.mono ?_
  rintro e w3 ⟨rfl, MA3, K3⟩
  have RZ3 := hide (K3.row RZ2.out (by omega) (.inl (by omega)))
  have B3 := hide (B2.out.trans (K3.below (B := w.heap.size) (by omega) (by omega) (by omega)))
  have f0 := MA3.row.cell MA3.k0
  have f1 := MA3.row.cell MA3.k1
  have f2 := MA3.row.cell MA3.k2
  have y0 := RZ3.out.free 0
  have y1 := RZ3.out.free 1
  have y2 := RZ3.out.free 2
  have z0 := RZ3.out.cell (k := 0) rfl
  have z1 := RZ3.out.cell (k := 1) rfl
  have z2 := RZ3.out.cell (k := 2) rfl
  have ST := hide MA3.own
  clear MA3 K3 cm RZ2 B2
  go_wp2_with fail
  obtain ⟨W4, hW4⟩ : ∃ V, ((w3.setCell ⟨w.heap.size + 1, 0, none⟩ (.slice a1 (moveR S dst src n).bs.length k1)).setCell ⟨w.heap.size + 1, 1, none⟩ (.slice a2 (moveR S dst src n).bs.length k2)).setCell ⟨w.heap.size + 1, 2, none⟩ (.int .i64 ((moveR S dst src n).sp : Int)) = V := ⟨_, rfl⟩
  have R4 : Row W4 (w.heap.size + 1) 29 [.slice a1 (moveR S dst src n).bs.length k1, .slice a2 (moveR S dst src n).bs.length k2, .int .i64 ((moveR S dst src n).sp : Int)] := by rw [← hW4]; exact ((RZ3.out.set_ 0 _).set_ 1 _).set_ 2 _
  have S4 : StkAt W4 W4.heap.size a1 k1 a2 k2 (moveR S dst src n) := (show StkOwn W4 W0.heap.size a1 k1 a2 k2 (moveR S dst src n) 5 4 from ⟨ST.out.ok, by rw [← hW4]; exact own_put (own_put (own_put ST.out.o1 (by omega)) (by omega)) (by omega), by rw [← hW4]; exact own_put (own_put (own_put ST.out.o2 (by omega)) (by omega)) (by omega)⟩).at_
  have B4 : Below w.heap.size w W4 := by rw [← hW4]; exact below_put (below_put (below_put B3.out (by omega)) (by omega)) (by omega)
  rw [hW4]
  have z0 := R4.cell (k := 0) rfl
  have z1 := R4.cell (k := 1) rfl
  have z2 := R4.cell (k := 2) rfl
  refine bodyPost_ret (v := .tuple #[.agg #[.slice a1 (moveR S dst src n).bs.length k1, .slice a2 (moveR S dst src n).bs.length k2, .int .i64 ((moveR S dst src n).sp : Int)], .bool (moveB S dst src n), .int .i64 (moveE S dst src n)]) (by simp [results, Try.results36, go_sem, z0, z1, z2]) rfl ?_
  exact ⟨a1, k1, a2, k2, rfl, S4, B4⟩
end Go.Proofs.Ytipjeihfhnilcaa
end
