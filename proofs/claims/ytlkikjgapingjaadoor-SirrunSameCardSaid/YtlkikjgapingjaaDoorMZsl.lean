import Derived.Test.YtlkikjgapingjaaDoorMZsam
import Derived.Test.YtlkikjgapingjaaDoorMZawk
import Derived.Test.YtlkikjgapingjaaDoorMGa
set_option linter.unusedVariables false
set_option linter.unusedSimpArgs false
section
/-
  The law on equal outcomes, walked: it returns true. Conditions: those of the types; the tables lie as they are laid.
-/
namespace Go.Proofs.YtlkikjgapingjaaDoor
open Go.RowKit
attribute [local go_sem ↓] Go.wp_at_zero Go.wp_at_succ

theorem below_put {B g k : Nat} {w w' : World} {u : Value} (h : Below B w w') (hg : B ≤ g) : Below B w (w'.setCell ⟨g, k, none⟩ u) := h.setCell (p := ⟨g, k, none⟩) hg u
theorem eqb (b : Bool) : (b == b) = true := by cases b <;> rfl
theorem outB_self (k c : Int) (r : Nat) (l : List Nat) (s : Int) : outB k c r l s k c r l s = true := by simp [outB]
/-- The changed outcome in its box, beside the two that came in. -/
def SlCut (q : Nat) (k c : Int) (r : Nat) (A : Option Addr) (n cap : Nat) (l : List Nat) (s : Int) (k' c' : Int) (r' : Nat) (A' : Option Addr) (n' cap' : Nat) (l' : List Nat) (s' : Int) (w : World) (g : Nat) (wx : World) : Prop :=
  ∃ (k1 c1 : Int) (r1 : Nat) (A1 : Option Addr) (n1 cap1 : Nat) (l1 : List Nat) (s1 : Int), r1 < two128 ∧ outB k c r l s k1 c1 r1 l1 s1 = decide (q = 5) ∧ Row wx g 36 (ovl k1 c1 r1 A1 n1 cap1 s1) ∧ TrAt wx wx.heap.size A1 n1 cap1 l1 ∧
    Row wx w.heap.size 36 (ovl k c r A n cap s) ∧ TrAt wx wx.heap.size A n cap l ∧ Row wx (w.heap.size + 1) 36 (ovl k' c' r' A' n' cap' s') ∧ TrAt wx wx.heap.size A' n' cap' l' ∧ Below w.heap.size w wx

set_option maxRecDepth 100000 in
set_option maxHeartbeats 8000000 in
theorem same8_walk (k c : Int) (r : Nat) (A : Option Addr) (n cap : Nat) (l : List Nat) (s : Int) (k' c' : Int) (r' : Nat) (A' : Option Addr) (n' cap' : Nat) (l' : List Nat) (s' z : Int) (w : World) (h : Hid (TrAt w w.heap.size A n cap l)) (h' : Hid (TrAt w w.heap.size A' n' cap' l')) (hr : r < two128) (hr' : r' < two128) (hk0 : -9223372036854775808 ≤ k) (hk1 : k ≤ 9223372036854775807) (hc0 : 0 ≤ c) (hc1 : c ≤ 18446744073709551615) (hs0 : -9223372036854775808 ≤ s) (hs1 : s ≤ 9223372036854775807) (z0 : 0 ≤ z) (z1 : z ≤ 255) (hSh : Hid (Shapes w)) :
    Calls Tryd.prog 5 #[ov k c r A n cap s, ov k' c' r' A' n' cap' s', .int .u8 z] w fun e w' => e = .returned (.bool true) ∧ Below w.heap.size w w' := by
  obtain ⟨W0, hW0⟩ : ∃ W, (w.alloc (.cells #[.int .i64 k, .int .u64 c, .int .u64 (lo r), .int .u64 (hi r), .slice A n cap, .int .i64 s] 36)).alloc (.cells #[.int .i64 k', .int .u64 c', .int .u64 (lo r'), .int .u64 (hi r'), .slice A' n' cap', .int .i64 s'] 36) = W := ⟨_, rfl⟩
  have HW0 := hide hW0
  have RX0 := hide (show Row W0 (w.heap.size) 36 [.int .i64 k, .int .u64 c, .int .u64 (lo r), .int .u64 (hi r), .slice A n cap, .int .i64 s] by rw [← hW0]; exact ((Row.new w 36 [.int .i64 k, .int .u64 c, .int .u64 (lo r), .int .u64 (hi r), .slice A n cap, .int .i64 s]).alloc _))
  have RY0 := hide (show Row W0 (w.heap.size + 1) 36 [.int .i64 k', .int .u64 c', .int .u64 (lo r'), .int .u64 (hi r'), .slice A' n' cap', .int .i64 s'] by rw [← hW0]; exact (Row.new (w.alloc (.cells #[.int .i64 k, .int .u64 c, .int .u64 (lo r), .int .u64 (hi r), .slice A n cap, .int .i64 s] 36)) 36 [.int .i64 k', .int .u64 c', .int .u64 (lo r'), .int .u64 (hi r'), .slice A' n' cap', .int .i64 s']).at_ (by simp))
  have B0 := hide (show Below w.heap.size w W0 by rw [← hW0]; exact below2 w _ _)
  have Z0 := hide (show W0.heap.size = w.heap.size + 2 by rw [← hW0]; simp)
  clear hW0
  have hm := h.out.most
  have hm' := h'.out.most
  go_enter Tryd.func5, Tryd.ntmps5
  go_upto_region 1 with (fail)
  rw [HW0.out]
  have aw := awake8_any W0 (hide (hSh.out.below B0.out))
  have fX0 := RX0.out.cell (k := 0) rfl
  have fX1 := RX0.out.cell (k := 1) rfl
  have fX2 := RX0.out.cell (k := 2) rfl
  have fX3 := RX0.out.cell (k := 3) rfl
  have fX4 := RX0.out.cell (k := 4) rfl
  have fX5 := RX0.out.cell (k := 5) rfl
  have fY0 := RY0.out.cell (k := 0) rfl
  have fY1 := RY0.out.cell (k := 1) rfl
  have fY2 := RY0.out.cell (k := 2) rfl
  have fY3 := RY0.out.cell (k := 3) rfl
  have fY4 := RY0.out.cell (k := 4) rfl
  have fY5 := RY0.out.cell (k := 5) rfl
  by_cases g1 : (500 : Int) < (n : Int)
  · go_wp2_with fail
    go_fit (aw)
    rintro e w1 ⟨rfl, hb1⟩
    have RX2 := hide (RX0.out.call hb1)
    clear RX0
    have RY2 := hide (RY0.out.call hb1)
    clear RY0
    have B2 := hide (below_call B0.out hb1)
    clear B0
    clear hb1
    clear fX0 fX1 fX2 fX3 fX4 fX5 fY0 fY1 fY2 fY3 fY4 fY5
    have fX0 := RX2.out.cell (k := 0) rfl
    have fX1 := RX2.out.cell (k := 1) rfl
    have fX2 := RX2.out.cell (k := 2) rfl
    have fX3 := RX2.out.cell (k := 3) rfl
    have fX4 := RX2.out.cell (k := 4) rfl
    have fX5 := RX2.out.cell (k := 5) rfl
    have fY0 := RY2.out.cell (k := 0) rfl
    have fY1 := RY2.out.cell (k := 1) rfl
    have fY2 := RY2.out.cell (k := 2) rfl
    have fY3 := RY2.out.cell (k := 3) rfl
    have fY4 := RY2.out.cell (k := 4) rfl
    have fY5 := RY2.out.cell (k := 5) rfl
    go_wp2_with fail
    go_ret
    exact ⟨rfl, B2.out⟩
  by_cases g2 : (500 : Int) < (n' : Int)
  · go_wp2_with fail
    go_fit (aw)
    rintro e w1 ⟨rfl, hb1⟩
    have RX2 := hide (RX0.out.call hb1)
    clear RX0
    have RY2 := hide (RY0.out.call hb1)
    clear RY0
    have B2 := hide (below_call B0.out hb1)
    clear B0
    clear hb1
    clear fX0 fX1 fX2 fX3 fX4 fX5 fY0 fY1 fY2 fY3 fY4 fY5
    have fX0 := RX2.out.cell (k := 0) rfl
    have fX1 := RX2.out.cell (k := 1) rfl
    have fX2 := RX2.out.cell (k := 2) rfl
    have fX3 := RX2.out.cell (k := 3) rfl
    have fX4 := RX2.out.cell (k := 4) rfl
    have fX5 := RX2.out.cell (k := 5) rfl
    have fY0 := RY2.out.cell (k := 0) rfl
    have fY1 := RY2.out.cell (k := 1) rfl
    have fY2 := RY2.out.cell (k := 2) rfl
    have fY3 := RY2.out.cell (k := 3) rfl
    have fY4 := RY2.out.cell (k := 4) rfl
    have fY5 := RY2.out.cell (k := 5) rfl
    go_wp2_with fail
    go_ret
    exact ⟨rfl, B2.out⟩
  obtain ⟨p, rfl⟩ : ∃ p : Nat, z = (p : Int) := ⟨z.toNat, by omega⟩
  obtain ⟨q, hq⟩ : ∃ q, p % 6 = q := ⟨_, rfl⟩
  have hq6 : q < 6 := by omega
  have hqt : Int.tmod (p : Int) 6 = (q : Int) := by rw [show (6 : Int) = ((6 : Nat) : Int) from rfl, ← Int.ofNat_tmod, hq]
  clear hq
  go_wp2_with fail
  go_fit (aw)
  rintro e w1 ⟨rfl, hb1⟩
  have RX2 := hide (RX0.out.call hb1)
  clear RX0
  have RY2 := hide (RY0.out.call hb1)
  clear RY0
  have B2 := hide (below_call B0.out hb1)
  clear B0
  clear hb1
  clear fX0 fX1 fX2 fX3 fX4 fX5 fY0 fY1 fY2 fY3 fY4 fY5
  have fX0 := RX2.out.cell (k := 0) rfl
  have fX1 := RX2.out.cell (k := 1) rfl
  have fX2 := RX2.out.cell (k := 2) rfl
  have fX3 := RX2.out.cell (k := 3) rfl
  have fX4 := RX2.out.cell (k := 4) rfl
  have fX5 := RX2.out.cell (k := 5) rfl
  have fY0 := RY2.out.cell (k := 0) rfl
  have fY1 := RY2.out.cell (k := 1) rfl
  have fY2 := RY2.out.cell (k := 2) rfl
  have fY3 := RY2.out.cell (k := 3) rfl
  have fY4 := RY2.out.cell (k := 4) rfl
  have fY5 := RY2.out.cell (k := 5) rfl
  go_upto_region 4 with (fail)
  have DD := hide (show w.heap.size + 1 < w1.heap.size from RY2.out.lt)
  obtain ⟨W3, hW3⟩ : ∃ W, w1.alloc (.cells #[.int .i64 k, .int .u64 c, .int .u64 (lo r), .int .u64 (hi r), .slice A n cap, .int .i64 s] 36) = W := ⟨_, rfl⟩
  have HW3 := hide hW3
  have RX3 := hide (show Row W3 (w.heap.size) 36 [.int .i64 k, .int .u64 c, .int .u64 (lo r), .int .u64 (hi r), .slice A n cap, .int .i64 s] by rw [← hW3]; exact RX2.out.alloc _)
  clear RX2
  have RY3 := hide (show Row W3 (w.heap.size + 1) 36 [.int .i64 k', .int .u64 c', .int .u64 (lo r'), .int .u64 (hi r'), .slice A' n' cap', .int .i64 s'] by rw [← hW3]; exact RY2.out.alloc _)
  clear RY2
  have RD3 := hide (show Row W3 (w1.heap.size) 36 [.int .i64 k, .int .u64 c, .int .u64 (lo r), .int .u64 (hi r), .slice A n cap, .int .i64 s] by rw [← hW3]; exact Row.new w1 _ _)
  have L3 := hide (show w1.heap.size < W3.heap.size by rw [← hW3]; simp)
  have G3 := hide B2.out.size
  have B3 := hide (show Below w.heap.size w W3 by rw [← hW3]; exact B2.out.alloc B2.out.size _)
  clear hW3
  have GD := hide (show w.heap.size ≤ w1.heap.size from G3.out)
  rw [HW3.out]
  clear fX0 fX1 fX2 fX3 fX4 fX5 fY0 fY1 fY2 fY3 fY4 fY5
  rcases (show q = 0 ∨ q = 1 ∨ q = 2 ∨ q = 3 ∨ q = 4 ∨ q = 5 by omega) with rfl | rfl | rfl | rfl | rfl | rfl
  · obtain ⟨k1, hk1e⟩ : ∃ y, IntKind.i64.wrap (k + 1) = y := ⟨_, rfl⟩
    have hne : k ≠ k1 := by rw [← hk1e, IntKind.wrap_i64]; omega
    have hOut : outB k c r l s k1 c r l s = false := by simp [outB, hne]
    clear hne
    have fD0 := RD3.out.cell (k := 0) rfl
    have fD1 := RD3.out.cell (k := 1) rfl
    have fD2 := RD3.out.cell (k := 2) rfl
    have fD3 := RD3.out.cell (k := 3) rfl
    have fD4 := RD3.out.cell (k := 4) rfl
    have fD5 := RD3.out.cell (k := 5) rfl
    have yD0 := RD3.out.free 0
    have yD1 := RD3.out.free 1
    have yD2 := RD3.out.free 2
    have yD3 := RD3.out.free 3
    have yD4 := RD3.out.free 4
    have yD5 := RD3.out.free 5
    go_upto_region 15 with (fail)
    obtain ⟨W4, hW4⟩ : ∃ W, W3.setCell ⟨w1.heap.size, 0, none⟩ (.int .i64 k1) = W := ⟨_, rfl⟩
    have HW4 := hide hW4
    have RD4 := hide (show Row W4 (w1.heap.size) 36 [.int .i64 k1, .int .u64 c, .int .u64 (lo r), .int .u64 (hi r), .slice A n cap, .int .i64 s] by rw [← hW4]; exact (RD3.out).set_ 0 _)
    have RX4 := hide (show Row W4 (w.heap.size) 36 [.int .i64 k, .int .u64 c, .int .u64 (lo r), .int .u64 (hi r), .slice A n cap, .int .i64 s] by rw [← hW4]; exact (RX3.out).far (p := ⟨w1.heap.size, 0, none⟩) (by have := DD.out; simp <;> omega) _)
    clear RX3
    have RY4 := hide (show Row W4 (w.heap.size + 1) 36 [.int .i64 k', .int .u64 c', .int .u64 (lo r'), .int .u64 (hi r'), .slice A' n' cap', .int .i64 s'] by rw [← hW4]; exact (RY3.out).far (p := ⟨w1.heap.size, 0, none⟩) (by have := DD.out; simp <;> omega) _)
    clear RY3
    have B4 := hide (show Below w.heap.size w W4 by rw [← hW4]; exact below_put (B3.out) GD.out)
    clear hW4 RD3
    rw [HW4.out]
    clear fD0 fD1 fD2 fD3 fD4 fD5 yD0 yD1 yD2 yD3 yD4 yD5
    have HT1 := hide (show TrAt W4 W4.heap.size A n cap l from ⟨h.out.len, h.out.cap, h.out.most, h.out.nil_, ((h.out.below B4.out).see.more B4.out.size), h.out.lt⟩)
    have hr1 := hr
    have fX0 := fun p : After W4 => after_cell (RX4.out.cell (k := 0) rfl) p
    have fX1 := fun p : After W4 => after_cell (RX4.out.cell (k := 1) rfl) p
    have fX2 := fun p : After W4 => after_cell (RX4.out.cell (k := 2) rfl) p
    have fX3 := fun p : After W4 => after_cell (RX4.out.cell (k := 3) rfl) p
    have fX4 := fun p : After W4 => after_cell (RX4.out.cell (k := 4) rfl) p
    have fX5 := fun p : After W4 => after_cell (RX4.out.cell (k := 5) rfl) p
    have fY0 := fun p : After W4 => after_cell (RY4.out.cell (k := 0) rfl) p
    have fY1 := fun p : After W4 => after_cell (RY4.out.cell (k := 1) rfl) p
    have fY2 := fun p : After W4 => after_cell (RY4.out.cell (k := 2) rfl) p
    have fY3 := fun p : After W4 => after_cell (RY4.out.cell (k := 3) rfl) p
    have fY4 := fun p : After W4 => after_cell (RY4.out.cell (k := 4) rfl) p
    have fY5 := fun p : After W4 => after_cell (RY4.out.cell (k := 5) rfl) p
    have fD0 := fun p : After W4 => after_cell (RD4.out.cell (k := 0) rfl) p
    have fD1 := fun p : After W4 => after_cell (RD4.out.cell (k := 1) rfl) p
    have fD2 := fun p : After W4 => after_cell (RD4.out.cell (k := 2) rfl) p
    have fD3 := fun p : After W4 => after_cell (RD4.out.cell (k := 3) rfl) p
    have fD4 := fun p : After W4 => after_cell (RD4.out.cell (k := 4) rfl) p
    have fD5 := fun p : After W4 => after_cell (RD4.out.cell (k := 5) rfl) p
    have TA := hide (show TrAt W4 W4.heap.size A n cap l from ⟨h.out.len, h.out.cap, h.out.most, h.out.nil_, ((h.out.below B4.out).see.more B4.out.size), h.out.lt⟩)
    have TB := hide (show TrAt W4 W4.heap.size A' n' cap' l' from ⟨h'.out.len, h'.out.cap, h'.out.most, h'.out.nil_, ((h'.out.below B4.out).see.more B4.out.size), h'.out.lt⟩)
    have C1 := hide (fun p : After W4 => dsame_out k c r A n cap l s k' c' r' A' n' cap' l' s' p.w (hide (TA.out.call p.b)) (hide (TB.out.call p.b)) hr hr')
    have C2 := hide (fun p : After W4 => rsame_out k c r A n cap l s k' c' r' A' n' cap' l' s' p.w (hide (TA.out.call p.b)) (hide (TB.out.call p.b)) hr hr')
    have c3 := fun p : After W4 => dsame_out k c r A n cap l s k1 c r A n cap l s p.w (hide (TA.out.call p.b)) (hide (HT1.out.call p.b)) hr hr1
    simp only [hOut] at c3
    have C3 := hide c3
    clear c3 hOut
    obtain ⟨b1, hb1'⟩ : ∃ b, outB k c r l s k' c' r' l' s' = b := ⟨_, rfl⟩
    have E1 := hide (fun p : After W4 => dends_out k c r A n cap s p.w)
    have E2 := hide (fun p : After W4 => rends_out k c r A n cap s p.w)
    have E3 := hide (fun p : After W4 => dends_out k1 c r A n cap s p.w)
    have E4 := hide (fun p : After W4 => rends_out k1 c r A n cap s p.w)
    have y1 := eqb (outB k c r l s k' c' r' l' s')
    have y2 := eqb (endB k)
    have y3 := eqb (endB k1)
    clear hb1'
    refine wp_region_after (by kernel_rfl) (by kernel_rfl) ?_
    repeat (go_big_quiet_step ((first
      | (go_at_call 11; with_reducible exact after_of (C1.out _))
      | (go_at_call 9; with_reducible exact after_of (C2.out _))
      | (go_at_call 11; with_reducible exact after_of (C3.out _))
      | (go_at_call 12; with_reducible exact after_of (E1.out _))
      | (go_at_call 13; with_reducible exact after_of (E2.out _))
      | (go_at_call 12; with_reducible exact after_of (E3.out _))
      | (go_at_call 13; with_reducible exact after_of (E4.out _)))))
    refine wpQuiet_nil ?_
    intro _ hw'
    obtain ⟨p1, hw''⟩ := hw'
    subst hw''
    go_wp2_with fail
    go_ret
    exact ⟨rfl, below_call B4.out p1.b⟩
  · obtain ⟨k1, hk1e⟩ : ∃ y, IntKind.u64.wrap (c + 1) = y := ⟨_, rfl⟩
    have hne : c ≠ k1 := by rw [← hk1e]; simp only [IntKind.wrap, IntKind.signed, IntKind.bits]; simp; omega
    have hOut : outB k c r l s k k1 r l s = false := by simp [outB, hne]
    clear hne
    have fD0 := RD3.out.cell (k := 0) rfl
    have fD1 := RD3.out.cell (k := 1) rfl
    have fD2 := RD3.out.cell (k := 2) rfl
    have fD3 := RD3.out.cell (k := 3) rfl
    have fD4 := RD3.out.cell (k := 4) rfl
    have fD5 := RD3.out.cell (k := 5) rfl
    have yD0 := RD3.out.free 0
    have yD1 := RD3.out.free 1
    have yD2 := RD3.out.free 2
    have yD3 := RD3.out.free 3
    have yD4 := RD3.out.free 4
    have yD5 := RD3.out.free 5
    go_upto_region 15 with (fail)
    obtain ⟨W4, hW4⟩ : ∃ W, W3.setCell ⟨w1.heap.size, 1, none⟩ (.int .u64 k1) = W := ⟨_, rfl⟩
    have HW4 := hide hW4
    have RD4 := hide (show Row W4 (w1.heap.size) 36 [.int .i64 k, .int .u64 k1, .int .u64 (lo r), .int .u64 (hi r), .slice A n cap, .int .i64 s] by rw [← hW4]; exact (RD3.out).set_ 1 _)
    have RX4 := hide (show Row W4 (w.heap.size) 36 [.int .i64 k, .int .u64 c, .int .u64 (lo r), .int .u64 (hi r), .slice A n cap, .int .i64 s] by rw [← hW4]; exact (RX3.out).far (p := ⟨w1.heap.size, 1, none⟩) (by have := DD.out; simp <;> omega) _)
    clear RX3
    have RY4 := hide (show Row W4 (w.heap.size + 1) 36 [.int .i64 k', .int .u64 c', .int .u64 (lo r'), .int .u64 (hi r'), .slice A' n' cap', .int .i64 s'] by rw [← hW4]; exact (RY3.out).far (p := ⟨w1.heap.size, 1, none⟩) (by have := DD.out; simp <;> omega) _)
    clear RY3
    have B4 := hide (show Below w.heap.size w W4 by rw [← hW4]; exact below_put (B3.out) GD.out)
    clear hW4 RD3
    rw [HW4.out]
    clear fD0 fD1 fD2 fD3 fD4 fD5 yD0 yD1 yD2 yD3 yD4 yD5
    have HT1 := hide (show TrAt W4 W4.heap.size A n cap l from ⟨h.out.len, h.out.cap, h.out.most, h.out.nil_, ((h.out.below B4.out).see.more B4.out.size), h.out.lt⟩)
    have hr1 := hr
    have fX0 := fun p : After W4 => after_cell (RX4.out.cell (k := 0) rfl) p
    have fX1 := fun p : After W4 => after_cell (RX4.out.cell (k := 1) rfl) p
    have fX2 := fun p : After W4 => after_cell (RX4.out.cell (k := 2) rfl) p
    have fX3 := fun p : After W4 => after_cell (RX4.out.cell (k := 3) rfl) p
    have fX4 := fun p : After W4 => after_cell (RX4.out.cell (k := 4) rfl) p
    have fX5 := fun p : After W4 => after_cell (RX4.out.cell (k := 5) rfl) p
    have fY0 := fun p : After W4 => after_cell (RY4.out.cell (k := 0) rfl) p
    have fY1 := fun p : After W4 => after_cell (RY4.out.cell (k := 1) rfl) p
    have fY2 := fun p : After W4 => after_cell (RY4.out.cell (k := 2) rfl) p
    have fY3 := fun p : After W4 => after_cell (RY4.out.cell (k := 3) rfl) p
    have fY4 := fun p : After W4 => after_cell (RY4.out.cell (k := 4) rfl) p
    have fY5 := fun p : After W4 => after_cell (RY4.out.cell (k := 5) rfl) p
    have fD0 := fun p : After W4 => after_cell (RD4.out.cell (k := 0) rfl) p
    have fD1 := fun p : After W4 => after_cell (RD4.out.cell (k := 1) rfl) p
    have fD2 := fun p : After W4 => after_cell (RD4.out.cell (k := 2) rfl) p
    have fD3 := fun p : After W4 => after_cell (RD4.out.cell (k := 3) rfl) p
    have fD4 := fun p : After W4 => after_cell (RD4.out.cell (k := 4) rfl) p
    have fD5 := fun p : After W4 => after_cell (RD4.out.cell (k := 5) rfl) p
    have TA := hide (show TrAt W4 W4.heap.size A n cap l from ⟨h.out.len, h.out.cap, h.out.most, h.out.nil_, ((h.out.below B4.out).see.more B4.out.size), h.out.lt⟩)
    have TB := hide (show TrAt W4 W4.heap.size A' n' cap' l' from ⟨h'.out.len, h'.out.cap, h'.out.most, h'.out.nil_, ((h'.out.below B4.out).see.more B4.out.size), h'.out.lt⟩)
    have C1 := hide (fun p : After W4 => dsame_out k c r A n cap l s k' c' r' A' n' cap' l' s' p.w (hide (TA.out.call p.b)) (hide (TB.out.call p.b)) hr hr')
    have C2 := hide (fun p : After W4 => rsame_out k c r A n cap l s k' c' r' A' n' cap' l' s' p.w (hide (TA.out.call p.b)) (hide (TB.out.call p.b)) hr hr')
    have c3 := fun p : After W4 => dsame_out k c r A n cap l s k k1 r A n cap l s p.w (hide (TA.out.call p.b)) (hide (HT1.out.call p.b)) hr hr1
    simp only [hOut] at c3
    have C3 := hide c3
    clear c3 hOut
    obtain ⟨b1, hb1'⟩ : ∃ b, outB k c r l s k' c' r' l' s' = b := ⟨_, rfl⟩
    have E1 := hide (fun p : After W4 => dends_out k c r A n cap s p.w)
    have E2 := hide (fun p : After W4 => rends_out k c r A n cap s p.w)
    have E3 := hide (fun p : After W4 => dends_out k k1 r A n cap s p.w)
    have E4 := hide (fun p : After W4 => rends_out k k1 r A n cap s p.w)
    have y1 := eqb (outB k c r l s k' c' r' l' s')
    have y2 := eqb (endB k)
    have y3 := eqb (endB k)
    clear hb1'
    refine wp_region_after (by kernel_rfl) (by kernel_rfl) ?_
    repeat (go_big_quiet_step ((first
      | (go_at_call 11; with_reducible exact after_of (C1.out _))
      | (go_at_call 9; with_reducible exact after_of (C2.out _))
      | (go_at_call 11; with_reducible exact after_of (C3.out _))
      | (go_at_call 12; with_reducible exact after_of (E1.out _))
      | (go_at_call 13; with_reducible exact after_of (E2.out _))
      | (go_at_call 12; with_reducible exact after_of (E3.out _))
      | (go_at_call 13; with_reducible exact after_of (E4.out _)))))
    refine wpQuiet_nil ?_
    intro _ hw'
    obtain ⟨p1, hw''⟩ := hw'
    subst hw''
    go_wp2_with fail
    go_ret
    exact ⟨rfl, below_call B4.out p1.b⟩
  · obtain ⟨k1, hk1e⟩ : ∃ y, IntKind.u64.wrap (hi r + 1) = y := ⟨_, rfl⟩
    have hb1 : 0 ≤ k1 ∧ k1 ≤ 18446744073709551615 := by rw [← hk1e]; simp only [IntKind.wrap, IntKind.signed, IntKind.bits]; simp; omega
    have hne : hi r ≠ k1 := by have := hi_b r; rw [← hk1e]; simp only [IntKind.wrap, IntKind.signed, IntKind.bits]; simp; omega
    have hlb := lo_b r
    obtain ⟨r1, hr1e⟩ : ∃ y, num (lo r) k1 = y := ⟨_, rfl⟩
    have hr1 : r1 < two128 := by rw [← hr1e]; exact num_lt hlb.2 hb1.2
    have hlo : lo r1 = lo r := by rw [← hr1e]; exact lo_num hlb.1 hlb.2 hb1.1 hb1.2
    have hhi : hi r1 = k1 := by rw [← hr1e]; exact hi_num hlb.1 hlb.2 hb1.1 hb1.2
    have hrr : r ≠ r1 := fun e => hne (by rw [← hhi, ← e])
    have hOut : outB k c r l s k c r1 l s = false := by simp [outB, hrr]
    have HLO := hide hlo
    have HHI := hide hhi
    clear hne hrr hb1 hlb hr1e hlo hhi
    have fD0 := RD3.out.cell (k := 0) rfl
    have fD1 := RD3.out.cell (k := 1) rfl
    have fD2 := RD3.out.cell (k := 2) rfl
    have fD3 := RD3.out.cell (k := 3) rfl
    have fD4 := RD3.out.cell (k := 4) rfl
    have fD5 := RD3.out.cell (k := 5) rfl
    have yD0 := RD3.out.free 0
    have yD1 := RD3.out.free 1
    have yD2 := RD3.out.free 2
    have yD3 := RD3.out.free 3
    have yD4 := RD3.out.free 4
    have yD5 := RD3.out.free 5
    go_upto_region 15 with (fail)
    obtain ⟨W4, hW4⟩ : ∃ W, W3.setCell ⟨w1.heap.size, 3, none⟩ (.int .u64 k1) = W := ⟨_, rfl⟩
    have HW4 := hide hW4
    have RD4 := hide (show Row W4 (w1.heap.size) 36 [.int .i64 k, .int .u64 c, .int .u64 (lo r), .int .u64 k1, .slice A n cap, .int .i64 s] by rw [← hW4]; exact (RD3.out).set_ 3 _)
    have RX4 := hide (show Row W4 (w.heap.size) 36 [.int .i64 k, .int .u64 c, .int .u64 (lo r), .int .u64 (hi r), .slice A n cap, .int .i64 s] by rw [← hW4]; exact (RX3.out).far (p := ⟨w1.heap.size, 3, none⟩) (by have := DD.out; simp <;> omega) _)
    clear RX3
    have RY4 := hide (show Row W4 (w.heap.size + 1) 36 [.int .i64 k', .int .u64 c', .int .u64 (lo r'), .int .u64 (hi r'), .slice A' n' cap', .int .i64 s'] by rw [← hW4]; exact (RY3.out).far (p := ⟨w1.heap.size, 3, none⟩) (by have := DD.out; simp <;> omega) _)
    clear RY3
    have B4 := hide (show Below w.heap.size w W4 by rw [← hW4]; exact below_put (B3.out) GD.out)
    clear hW4 RD3
    rw [HW4.out]
    clear fD0 fD1 fD2 fD3 fD4 fD5 yD0 yD1 yD2 yD3 yD4 yD5
    have RDn := hide (show Row W4 (w1.heap.size) 36 (ovl k c r1 A n cap s) by have := RD4.out; unfold ovl; rw [HLO.out, HHI.out]; exact this)
    have HT1 := hide (show TrAt W4 W4.heap.size A n cap l from ⟨h.out.len, h.out.cap, h.out.most, h.out.nil_, ((h.out.below B4.out).see.more B4.out.size), h.out.lt⟩)
    have fX0 := fun p : After W4 => after_cell (RX4.out.cell (k := 0) rfl) p
    have fX1 := fun p : After W4 => after_cell (RX4.out.cell (k := 1) rfl) p
    have fX2 := fun p : After W4 => after_cell (RX4.out.cell (k := 2) rfl) p
    have fX3 := fun p : After W4 => after_cell (RX4.out.cell (k := 3) rfl) p
    have fX4 := fun p : After W4 => after_cell (RX4.out.cell (k := 4) rfl) p
    have fX5 := fun p : After W4 => after_cell (RX4.out.cell (k := 5) rfl) p
    have fY0 := fun p : After W4 => after_cell (RY4.out.cell (k := 0) rfl) p
    have fY1 := fun p : After W4 => after_cell (RY4.out.cell (k := 1) rfl) p
    have fY2 := fun p : After W4 => after_cell (RY4.out.cell (k := 2) rfl) p
    have fY3 := fun p : After W4 => after_cell (RY4.out.cell (k := 3) rfl) p
    have fY4 := fun p : After W4 => after_cell (RY4.out.cell (k := 4) rfl) p
    have fY5 := fun p : After W4 => after_cell (RY4.out.cell (k := 5) rfl) p
    have fD0 := fun p : After W4 => after_cell (RDn.out.cell (k := 0) rfl) p
    have fD1 := fun p : After W4 => after_cell (RDn.out.cell (k := 1) rfl) p
    have fD2 := fun p : After W4 => after_cell (RDn.out.cell (k := 2) rfl) p
    have fD3 := fun p : After W4 => after_cell (RDn.out.cell (k := 3) rfl) p
    have fD4 := fun p : After W4 => after_cell (RDn.out.cell (k := 4) rfl) p
    have fD5 := fun p : After W4 => after_cell (RDn.out.cell (k := 5) rfl) p
    have TA := hide (show TrAt W4 W4.heap.size A n cap l from ⟨h.out.len, h.out.cap, h.out.most, h.out.nil_, ((h.out.below B4.out).see.more B4.out.size), h.out.lt⟩)
    have TB := hide (show TrAt W4 W4.heap.size A' n' cap' l' from ⟨h'.out.len, h'.out.cap, h'.out.most, h'.out.nil_, ((h'.out.below B4.out).see.more B4.out.size), h'.out.lt⟩)
    have C1 := hide (fun p : After W4 => dsame_out k c r A n cap l s k' c' r' A' n' cap' l' s' p.w (hide (TA.out.call p.b)) (hide (TB.out.call p.b)) hr hr')
    have C2 := hide (fun p : After W4 => rsame_out k c r A n cap l s k' c' r' A' n' cap' l' s' p.w (hide (TA.out.call p.b)) (hide (TB.out.call p.b)) hr hr')
    have c3 := fun p : After W4 => dsame_out k c r A n cap l s k c r1 A n cap l s p.w (hide (TA.out.call p.b)) (hide (HT1.out.call p.b)) hr hr1
    simp only [hOut] at c3
    have C3 := hide c3
    clear c3 hOut
    obtain ⟨b1, hb1'⟩ : ∃ b, outB k c r l s k' c' r' l' s' = b := ⟨_, rfl⟩
    have E1 := hide (fun p : After W4 => dends_out k c r A n cap s p.w)
    have E2 := hide (fun p : After W4 => rends_out k c r A n cap s p.w)
    have E3 := hide (fun p : After W4 => dends_out k c r1 A n cap s p.w)
    have E4 := hide (fun p : After W4 => rends_out k c r1 A n cap s p.w)
    have y1 := eqb (outB k c r l s k' c' r' l' s')
    have y2 := eqb (endB k)
    have y3 := eqb (endB k)
    clear hb1'
    refine wp_region_after (by kernel_rfl) (by kernel_rfl) ?_
    repeat (go_big_quiet_step ((first
      | (go_at_call 11; with_reducible exact after_of (C1.out _))
      | (go_at_call 9; with_reducible exact after_of (C2.out _))
      | (go_at_call 11; with_reducible exact after_of (C3.out _))
      | (go_at_call 12; with_reducible exact after_of (E1.out _))
      | (go_at_call 13; with_reducible exact after_of (E2.out _))
      | (go_at_call 12; with_reducible exact after_of (E3.out _))
      | (go_at_call 13; with_reducible exact after_of (E4.out _)))))
    refine wpQuiet_nil ?_
    intro _ hw'
    obtain ⟨p1, hw''⟩ := hw'
    subst hw''
    go_wp2_with fail
    go_ret
    exact ⟨rfl, below_call B4.out p1.b⟩
  · obtain ⟨k1, hk1e⟩ : ∃ y, IntKind.i64.wrap (s + 1) = y := ⟨_, rfl⟩
    have hne : s ≠ k1 := by rw [← hk1e, IntKind.wrap_i64]; omega
    have hOut : outB k c r l s k c r l k1 = false := by simp [outB, hne]
    clear hne
    have fD0 := RD3.out.cell (k := 0) rfl
    have fD1 := RD3.out.cell (k := 1) rfl
    have fD2 := RD3.out.cell (k := 2) rfl
    have fD3 := RD3.out.cell (k := 3) rfl
    have fD4 := RD3.out.cell (k := 4) rfl
    have fD5 := RD3.out.cell (k := 5) rfl
    have yD0 := RD3.out.free 0
    have yD1 := RD3.out.free 1
    have yD2 := RD3.out.free 2
    have yD3 := RD3.out.free 3
    have yD4 := RD3.out.free 4
    have yD5 := RD3.out.free 5
    go_upto_region 15 with (fail)
    obtain ⟨W4, hW4⟩ : ∃ W, W3.setCell ⟨w1.heap.size, 5, none⟩ (.int .i64 k1) = W := ⟨_, rfl⟩
    have HW4 := hide hW4
    have RD4 := hide (show Row W4 (w1.heap.size) 36 [.int .i64 k, .int .u64 c, .int .u64 (lo r), .int .u64 (hi r), .slice A n cap, .int .i64 k1] by rw [← hW4]; exact (RD3.out).set_ 5 _)
    have RX4 := hide (show Row W4 (w.heap.size) 36 [.int .i64 k, .int .u64 c, .int .u64 (lo r), .int .u64 (hi r), .slice A n cap, .int .i64 s] by rw [← hW4]; exact (RX3.out).far (p := ⟨w1.heap.size, 5, none⟩) (by have := DD.out; simp <;> omega) _)
    clear RX3
    have RY4 := hide (show Row W4 (w.heap.size + 1) 36 [.int .i64 k', .int .u64 c', .int .u64 (lo r'), .int .u64 (hi r'), .slice A' n' cap', .int .i64 s'] by rw [← hW4]; exact (RY3.out).far (p := ⟨w1.heap.size, 5, none⟩) (by have := DD.out; simp <;> omega) _)
    clear RY3
    have B4 := hide (show Below w.heap.size w W4 by rw [← hW4]; exact below_put (B3.out) GD.out)
    clear hW4 RD3
    rw [HW4.out]
    clear fD0 fD1 fD2 fD3 fD4 fD5 yD0 yD1 yD2 yD3 yD4 yD5
    have HT1 := hide (show TrAt W4 W4.heap.size A n cap l from ⟨h.out.len, h.out.cap, h.out.most, h.out.nil_, ((h.out.below B4.out).see.more B4.out.size), h.out.lt⟩)
    have hr1 := hr
    have fX0 := fun p : After W4 => after_cell (RX4.out.cell (k := 0) rfl) p
    have fX1 := fun p : After W4 => after_cell (RX4.out.cell (k := 1) rfl) p
    have fX2 := fun p : After W4 => after_cell (RX4.out.cell (k := 2) rfl) p
    have fX3 := fun p : After W4 => after_cell (RX4.out.cell (k := 3) rfl) p
    have fX4 := fun p : After W4 => after_cell (RX4.out.cell (k := 4) rfl) p
    have fX5 := fun p : After W4 => after_cell (RX4.out.cell (k := 5) rfl) p
    have fY0 := fun p : After W4 => after_cell (RY4.out.cell (k := 0) rfl) p
    have fY1 := fun p : After W4 => after_cell (RY4.out.cell (k := 1) rfl) p
    have fY2 := fun p : After W4 => after_cell (RY4.out.cell (k := 2) rfl) p
    have fY3 := fun p : After W4 => after_cell (RY4.out.cell (k := 3) rfl) p
    have fY4 := fun p : After W4 => after_cell (RY4.out.cell (k := 4) rfl) p
    have fY5 := fun p : After W4 => after_cell (RY4.out.cell (k := 5) rfl) p
    have fD0 := fun p : After W4 => after_cell (RD4.out.cell (k := 0) rfl) p
    have fD1 := fun p : After W4 => after_cell (RD4.out.cell (k := 1) rfl) p
    have fD2 := fun p : After W4 => after_cell (RD4.out.cell (k := 2) rfl) p
    have fD3 := fun p : After W4 => after_cell (RD4.out.cell (k := 3) rfl) p
    have fD4 := fun p : After W4 => after_cell (RD4.out.cell (k := 4) rfl) p
    have fD5 := fun p : After W4 => after_cell (RD4.out.cell (k := 5) rfl) p
    have TA := hide (show TrAt W4 W4.heap.size A n cap l from ⟨h.out.len, h.out.cap, h.out.most, h.out.nil_, ((h.out.below B4.out).see.more B4.out.size), h.out.lt⟩)
    have TB := hide (show TrAt W4 W4.heap.size A' n' cap' l' from ⟨h'.out.len, h'.out.cap, h'.out.most, h'.out.nil_, ((h'.out.below B4.out).see.more B4.out.size), h'.out.lt⟩)
    have C1 := hide (fun p : After W4 => dsame_out k c r A n cap l s k' c' r' A' n' cap' l' s' p.w (hide (TA.out.call p.b)) (hide (TB.out.call p.b)) hr hr')
    have C2 := hide (fun p : After W4 => rsame_out k c r A n cap l s k' c' r' A' n' cap' l' s' p.w (hide (TA.out.call p.b)) (hide (TB.out.call p.b)) hr hr')
    have c3 := fun p : After W4 => dsame_out k c r A n cap l s k c r A n cap l k1 p.w (hide (TA.out.call p.b)) (hide (HT1.out.call p.b)) hr hr1
    simp only [hOut] at c3
    have C3 := hide c3
    clear c3 hOut
    obtain ⟨b1, hb1'⟩ : ∃ b, outB k c r l s k' c' r' l' s' = b := ⟨_, rfl⟩
    have E1 := hide (fun p : After W4 => dends_out k c r A n cap s p.w)
    have E2 := hide (fun p : After W4 => rends_out k c r A n cap s p.w)
    have E3 := hide (fun p : After W4 => dends_out k c r A n cap k1 p.w)
    have E4 := hide (fun p : After W4 => rends_out k c r A n cap k1 p.w)
    have y1 := eqb (outB k c r l s k' c' r' l' s')
    have y2 := eqb (endB k)
    have y3 := eqb (endB k)
    clear hb1'
    refine wp_region_after (by kernel_rfl) (by kernel_rfl) ?_
    repeat (go_big_quiet_step ((first
      | (go_at_call 11; with_reducible exact after_of (C1.out _))
      | (go_at_call 9; with_reducible exact after_of (C2.out _))
      | (go_at_call 11; with_reducible exact after_of (C3.out _))
      | (go_at_call 12; with_reducible exact after_of (E1.out _))
      | (go_at_call 13; with_reducible exact after_of (E2.out _))
      | (go_at_call 12; with_reducible exact after_of (E3.out _))
      | (go_at_call 13; with_reducible exact after_of (E4.out _)))))
    refine wpQuiet_nil ?_
    intro _ hw'
    obtain ⟨p1, hw''⟩ := hw'
    subst hw''
    go_wp2_with fail
    go_ret
    exact ⟨rfl, below_call B4.out p1.b⟩
  · obtain ⟨ia, hai, ha0, ha1, ha2⟩ := info_parts Tryd.info33z
    go_upto_region 14 with (fail)
    have HCA := hide h.out.nil_
    have HCL := hide (show (vcells l).length = n * 2 by rw [vcells_len, h.out.len])
    have HCS := hide ((h.out.below B3.out).see)
    have HCC := hide h.out.cap
    have hbs := hide B3.out.size
    have HM1 := hide (show 0 + n ≤ maxLen by unfold maxLen; omega)
    have HM2 := hide (show (0 + n) * 16 ≤ 140737488355328 by omega)
    have HM3 := hide (show n + 1 ≤ maxLen by unfold maxLen; omega)
    have HM4 := hide (show (n + 1) * 16 ≤ 140737488355328 by omega)
    have fX4 := RX3.out.cell (k := 4) rfl
    have fX4a : ∀ o : Obj, (W3.alloc o).cell? ⟨w.heap.size, 4, none⟩ = some (.slice A n cap) := fun o => (RX3.out.alloc o).cell (k := 4) rfl
    have fX4b : ∀ o : Obj, ((W3.drewN 1).alloc o).cell? ⟨w.heap.size, 4, none⟩ = some (.slice A n cap) := fun o => ((RX3.out.drewN 1).alloc o).cell (k := 4) rfl
    go_wp2_with (at_builtin; refine wpList_append_seesN rfl (.const (.slice none 0 0)) (.tmp 64) 34 rfl W3.heap.size 33 ia (.agg #[.int .u64 0, .int .u64 0]) 2 16 Tryd.underlying34 hai ha0 ha1 ha2 rfl (by decide) (.slice none 0 0) 0 [] rfl (World.ownsRow_nil _ _ _ _) w.heap.size A n cap (vcells l) rfl HCA HCL (HCS) HCC (vcells_oneCell _) HM1.out HM2.out (Nat.le_refl _) ?_)
    intro v1 w6 ho0 hG1
    have ho1 : w6.ownsRow W3.heap.size 33 2 v1 n (vcells l) := by simpa using ho0
    clear ho0
    have hone := vcell_oneCell 0
    rw [show vcell 0 = [.int .u64 0, .int .u64 0] from rfl] at hone
    have hbase7 : W3.heap.size ≤ (w6.alloc (.cells #[.int .u64 0, .int .u64 0] 33)).heap.size := Nat.le_trans hG1.size (by simp)
    have hcel := fun (j : Nat) (u : Value) (hu : ([.int .u64 0, .int .u64 0] : List Value)[j]? = some u) => (show (w6.alloc (.cells #[.int .u64 0, .int .u64 0] 33)).cell? ((⟨w6.heap.size, 0, none⟩ : Addr).add j) = some u by rw [WideShapes.add_plain, Nat.zero_add]; exact (Row.new w6 33 [.int .u64 0, .int .u64 0]).cell hu)
    go_wp2_with (at_builtin; refine wpList_append_own _ rfl (.tmp 65) (.tmp 67) 34 rfl W3.heap.size 33 ia (.agg #[.int .u64 0, .int .u64 0]) 2 16 Tryd.underlying34 hai ha0 ha1 ha2 rfl (by decide) v1 n (vcells l) rfl (ho1.alloc _) ⟨w6.heap.size, 0, none⟩ 1 1 [.int .u64 0, .int .u64 0] rfl rfl hcel hone HM3.out HM4.out hbase7 ?_)
    intro v2 w7 ho2 hg2 _
    have HG7 : Hid (W3.grownBy w7 none) := hide ((hG1.trans (World.grownBy_alloc _ _ _)).andThen hg2 (fun k hk => .inl (ho1.lt k hk).1))
    obtain ⟨A7, c7, rfl, hA7, hc7, hf7, -⟩ := own_seen ho2
    have p0 := (RD3.out.grown HG7.out (fun e => by cases e)).cell (k := 4) rfl
    have p1 := (RD3.out.grown HG7.out (fun e => by cases e)).free 4
    try simp only [Nat.zero_add, List.nil_append] at ho2
    have hv7 : vcells (l ++ [0]) = vcells l ++ [.int .u64 0, .int .u64 0] := by rw [vcells_app]; rfl
    have ho3 := ownsRow_setCell_below ho2 (a := ⟨w1.heap.size, 4, none⟩) (by have := RD3.out.lt; simp <;> omega) (.slice A7 (n + 1) c7)
    rw [← hv7] at ho3
    obtain ⟨A8, c8, h8, hA8, hc8, -, hs8⟩ := own_seen ho3
    injection h8 with h8a _ h8c
    subst h8a h8c
    have RX7 := hide (RX3.out.grown HG7.out (fun e => by cases e))
    have RY7 := hide (RY3.out.grown HG7.out (fun e => by cases e))
    have RD7 := hide (RD3.out.grown HG7.out (fun e => by cases e))
    have B7 := hide (B3.out.grown HG7.out hbs.out (fun k hk => by cases hk))
    have HT8 := hide (show TrAt (w7.setCell ⟨w1.heap.size, 4, none⟩ (.slice A7 (n + 1) c7)) (w7.setCell ⟨w1.heap.size, 4, none⟩ (.slice A7 (n + 1) c7)).heap.size A7 (n + 1) c7 (l ++ [0]) from ⟨by simp [h.out.len], hc8, by omega, hA8, hs8, fun v hv => by rcases List.mem_append.1 hv with hv | hv; exact h.out.lt v hv; (rw [List.mem_singleton.1 hv]; decide)⟩)
    have hOut : outB k c r l s k c r (l ++ [0]) s = false := by simp [outB]
    clear ho1 hG1 ho2 hg2 hA7 hc7 hf7 ho3 hA8 hc8 hs8 hv7
    clear fX4 fX4a fX4b
    obtain ⟨W4, hW4⟩ : ∃ W, w7.setCell ⟨w1.heap.size, 4, none⟩ (.slice A7 (n + 1) c7) = W := ⟨_, rfl⟩
    have HW4 := hide hW4
    have RD4 := hide (show Row W4 (w1.heap.size) 36 [.int .i64 k, .int .u64 c, .int .u64 (lo r), .int .u64 (hi r), .slice A7 (n + 1) c7, .int .i64 s] by rw [← hW4]; exact (RD7.out).set_ 4 _)
    have RX4 := hide (show Row W4 (w.heap.size) 36 [.int .i64 k, .int .u64 c, .int .u64 (lo r), .int .u64 (hi r), .slice A n cap, .int .i64 s] by rw [← hW4]; exact (RX7.out).far (p := ⟨w1.heap.size, 4, none⟩) (by have := DD.out; simp <;> omega) _)
    clear RX7
    have RY4 := hide (show Row W4 (w.heap.size + 1) 36 [.int .i64 k', .int .u64 c', .int .u64 (lo r'), .int .u64 (hi r'), .slice A' n' cap', .int .i64 s'] by rw [← hW4]; exact (RY7.out).far (p := ⟨w1.heap.size, 4, none⟩) (by have := DD.out; simp <;> omega) _)
    clear RY7
    have B4 := hide (show Below w.heap.size w W4 by rw [← hW4]; exact below_put (B7.out) GD.out)
    clear hW4 RD7
    rw [HW4.out] at HT8
    go_upto_region 15 with (fail)
    rw [HW4.out]
    clear p0 p1
    have HT1 := HT8
    have hr1 := hr
    have fX0 := fun p : After W4 => after_cell (RX4.out.cell (k := 0) rfl) p
    have fX1 := fun p : After W4 => after_cell (RX4.out.cell (k := 1) rfl) p
    have fX2 := fun p : After W4 => after_cell (RX4.out.cell (k := 2) rfl) p
    have fX3 := fun p : After W4 => after_cell (RX4.out.cell (k := 3) rfl) p
    have fX4 := fun p : After W4 => after_cell (RX4.out.cell (k := 4) rfl) p
    have fX5 := fun p : After W4 => after_cell (RX4.out.cell (k := 5) rfl) p
    have fY0 := fun p : After W4 => after_cell (RY4.out.cell (k := 0) rfl) p
    have fY1 := fun p : After W4 => after_cell (RY4.out.cell (k := 1) rfl) p
    have fY2 := fun p : After W4 => after_cell (RY4.out.cell (k := 2) rfl) p
    have fY3 := fun p : After W4 => after_cell (RY4.out.cell (k := 3) rfl) p
    have fY4 := fun p : After W4 => after_cell (RY4.out.cell (k := 4) rfl) p
    have fY5 := fun p : After W4 => after_cell (RY4.out.cell (k := 5) rfl) p
    have fD0 := fun p : After W4 => after_cell (RD4.out.cell (k := 0) rfl) p
    have fD1 := fun p : After W4 => after_cell (RD4.out.cell (k := 1) rfl) p
    have fD2 := fun p : After W4 => after_cell (RD4.out.cell (k := 2) rfl) p
    have fD3 := fun p : After W4 => after_cell (RD4.out.cell (k := 3) rfl) p
    have fD4 := fun p : After W4 => after_cell (RD4.out.cell (k := 4) rfl) p
    have fD5 := fun p : After W4 => after_cell (RD4.out.cell (k := 5) rfl) p
    have TA := hide (show TrAt W4 W4.heap.size A n cap l from ⟨h.out.len, h.out.cap, h.out.most, h.out.nil_, ((h.out.below B4.out).see.more B4.out.size), h.out.lt⟩)
    have TB := hide (show TrAt W4 W4.heap.size A' n' cap' l' from ⟨h'.out.len, h'.out.cap, h'.out.most, h'.out.nil_, ((h'.out.below B4.out).see.more B4.out.size), h'.out.lt⟩)
    have C1 := hide (fun p : After W4 => dsame_out k c r A n cap l s k' c' r' A' n' cap' l' s' p.w (hide (TA.out.call p.b)) (hide (TB.out.call p.b)) hr hr')
    have C2 := hide (fun p : After W4 => rsame_out k c r A n cap l s k' c' r' A' n' cap' l' s' p.w (hide (TA.out.call p.b)) (hide (TB.out.call p.b)) hr hr')
    have c3 := fun p : After W4 => dsame_out k c r A n cap l s k c r A7 (n + 1) c7 (l ++ [0]) s p.w (hide (TA.out.call p.b)) (hide (HT1.out.call p.b)) hr hr1
    simp only [hOut] at c3
    have C3 := hide c3
    clear c3 hOut
    obtain ⟨b1, hb1'⟩ : ∃ b, outB k c r l s k' c' r' l' s' = b := ⟨_, rfl⟩
    have E1 := hide (fun p : After W4 => dends_out k c r A n cap s p.w)
    have E2 := hide (fun p : After W4 => rends_out k c r A n cap s p.w)
    have E3 := hide (fun p : After W4 => dends_out k c r A7 (n + 1) c7 s p.w)
    have E4 := hide (fun p : After W4 => rends_out k c r A7 (n + 1) c7 s p.w)
    have y1 := eqb (outB k c r l s k' c' r' l' s')
    have y2 := eqb (endB k)
    have y3 := eqb (endB k)
    clear hb1'
    refine wp_region_after (by kernel_rfl) (by kernel_rfl) ?_
    repeat (go_big_quiet_step ((first
      | (go_at_call 11; with_reducible exact after_of (C1.out _))
      | (go_at_call 9; with_reducible exact after_of (C2.out _))
      | (go_at_call 11; with_reducible exact after_of (C3.out _))
      | (go_at_call 12; with_reducible exact after_of (E1.out _))
      | (go_at_call 13; with_reducible exact after_of (E2.out _))
      | (go_at_call 12; with_reducible exact after_of (E3.out _))
      | (go_at_call 13; with_reducible exact after_of (E4.out _)))))
    refine wpQuiet_nil ?_
    intro _ hw'
    obtain ⟨p1, hw''⟩ := hw'
    subst hw''
    go_wp2_with fail
    go_ret
    exact ⟨rfl, below_call B4.out p1.b⟩
  · have hOut : outB k c r l s k c r l s = true := outB_self k c r l s
    have fD0 := RD3.out.cell (k := 0) rfl
    have fD1 := RD3.out.cell (k := 1) rfl
    have fD2 := RD3.out.cell (k := 2) rfl
    have fD3 := RD3.out.cell (k := 3) rfl
    have fD4 := RD3.out.cell (k := 4) rfl
    have fD5 := RD3.out.cell (k := 5) rfl
    go_upto_region 15 with (fail)
    clear fD0 fD1 fD2 fD3 fD4 fD5
    have HT1 := hide (show TrAt W3 W3.heap.size A n cap l from ⟨h.out.len, h.out.cap, h.out.most, h.out.nil_, ((h.out.below B3.out).see.more B3.out.size), h.out.lt⟩)
    have hr1 := hr
    have fX0 := fun p : After W3 => after_cell (RX3.out.cell (k := 0) rfl) p
    have fX1 := fun p : After W3 => after_cell (RX3.out.cell (k := 1) rfl) p
    have fX2 := fun p : After W3 => after_cell (RX3.out.cell (k := 2) rfl) p
    have fX3 := fun p : After W3 => after_cell (RX3.out.cell (k := 3) rfl) p
    have fX4 := fun p : After W3 => after_cell (RX3.out.cell (k := 4) rfl) p
    have fX5 := fun p : After W3 => after_cell (RX3.out.cell (k := 5) rfl) p
    have fY0 := fun p : After W3 => after_cell (RY3.out.cell (k := 0) rfl) p
    have fY1 := fun p : After W3 => after_cell (RY3.out.cell (k := 1) rfl) p
    have fY2 := fun p : After W3 => after_cell (RY3.out.cell (k := 2) rfl) p
    have fY3 := fun p : After W3 => after_cell (RY3.out.cell (k := 3) rfl) p
    have fY4 := fun p : After W3 => after_cell (RY3.out.cell (k := 4) rfl) p
    have fY5 := fun p : After W3 => after_cell (RY3.out.cell (k := 5) rfl) p
    have fD0 := fun p : After W3 => after_cell (RD3.out.cell (k := 0) rfl) p
    have fD1 := fun p : After W3 => after_cell (RD3.out.cell (k := 1) rfl) p
    have fD2 := fun p : After W3 => after_cell (RD3.out.cell (k := 2) rfl) p
    have fD3 := fun p : After W3 => after_cell (RD3.out.cell (k := 3) rfl) p
    have fD4 := fun p : After W3 => after_cell (RD3.out.cell (k := 4) rfl) p
    have fD5 := fun p : After W3 => after_cell (RD3.out.cell (k := 5) rfl) p
    have TA := hide (show TrAt W3 W3.heap.size A n cap l from ⟨h.out.len, h.out.cap, h.out.most, h.out.nil_, ((h.out.below B3.out).see.more B3.out.size), h.out.lt⟩)
    have TB := hide (show TrAt W3 W3.heap.size A' n' cap' l' from ⟨h'.out.len, h'.out.cap, h'.out.most, h'.out.nil_, ((h'.out.below B3.out).see.more B3.out.size), h'.out.lt⟩)
    have C1 := hide (fun p : After W3 => dsame_out k c r A n cap l s k' c' r' A' n' cap' l' s' p.w (hide (TA.out.call p.b)) (hide (TB.out.call p.b)) hr hr')
    have C2 := hide (fun p : After W3 => rsame_out k c r A n cap l s k' c' r' A' n' cap' l' s' p.w (hide (TA.out.call p.b)) (hide (TB.out.call p.b)) hr hr')
    have c3 := fun p : After W3 => dsame_out k c r A n cap l s k c r A n cap l s p.w (hide (TA.out.call p.b)) (hide (HT1.out.call p.b)) hr hr1
    simp only [hOut] at c3
    have C3 := hide c3
    clear c3 hOut
    obtain ⟨b1, hb1'⟩ : ∃ b, outB k c r l s k' c' r' l' s' = b := ⟨_, rfl⟩
    have E1 := hide (fun p : After W3 => dends_out k c r A n cap s p.w)
    have E2 := hide (fun p : After W3 => rends_out k c r A n cap s p.w)
    have E3 := hide (fun p : After W3 => dends_out k c r A n cap s p.w)
    have E4 := hide (fun p : After W3 => rends_out k c r A n cap s p.w)
    have y1 := eqb (outB k c r l s k' c' r' l' s')
    have y2 := eqb (endB k)
    have y3 := eqb (endB k)
    clear hb1'
    refine wp_region_after (by kernel_rfl) (by kernel_rfl) ?_
    repeat (go_big_quiet_step ((first
      | (go_at_call 11; with_reducible exact after_of (C1.out _))
      | (go_at_call 9; with_reducible exact after_of (C2.out _))
      | (go_at_call 11; with_reducible exact after_of (C3.out _))
      | (go_at_call 12; with_reducible exact after_of (E1.out _))
      | (go_at_call 13; with_reducible exact after_of (E2.out _))
      | (go_at_call 12; with_reducible exact after_of (E3.out _))
      | (go_at_call 13; with_reducible exact after_of (E4.out _)))))
    refine wpQuiet_nil ?_
    intro _ hw'
    obtain ⟨p1, hw''⟩ := hw'
    subst hw''
    go_wp2_with fail
    go_ret
    exact ⟨rfl, below_call B3.out p1.b⟩
end Go.Proofs.YtlkikjgapingjaaDoor
end
