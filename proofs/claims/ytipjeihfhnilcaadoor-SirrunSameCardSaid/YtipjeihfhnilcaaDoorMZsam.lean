import Derived.Test.YtipjeihfhnilcaaDoorMZstr
import Derived.Test.YtipjeihfhnilcaaDoorMZawk
import Derived.Test.YtipjeihfhnilcaaDoorMKit
import Derived.Test.YtipjeihfhnilcaaDoorMPlsh
import Derived.Test.YtipjeihfhnilcaaDoorMBsop
import Derived.Test.YtipjeihfhnilcaaDoorTie
import Derived.Test.YtipjeihfhnilcaaDoorCards
import Derived.Lib.SmallJoins
import Derived.Deep.Slices
import Derived.Deep.Fields
import Derived.ChangeSame
import Derived.SevenTiedAt
set_option linter.unusedVariables false
set_option linter.unusedSimpArgs false
section
/-
  Outcomes by value: the program's Same and Ends, the reference's Ends. Conditions: those of the types.
-/
namespace Go.Proofs.YtipjeihfhnilcaaDoor
open Go.RowKit
attribute [local go_sem ↓] Go.wp_at_zero Go.wp_at_succ
set_option maxRecDepth 100000 in
set_option maxHeartbeats 2000000 in
theorem eqv_any (A : Option Addr) (n c : Nat) (l : List Nat) (A' : Option Addr) (n' c' : Nat) (l' : List Nat) (B : Nat) (w : World) (h : Hid (TrAt w B A n c l)) (h' : Hid (TrAt w B A' n' c' l')) (hB : B ≤ w.heap.size) :
    Calls Tryd.prog 23 #[.slice A n c, .slice A' n' c'] w fun e w' => e = .returned (.bool (decide (l = l'))) ∧ Below w.heap.size w w' := by
  obtain ⟨b, hb⟩ : ∃ b, decide (l = l') = b := ⟨_, rfl⟩
  rw [hb]
  have HB := hide hb
  clear hb
  have hm := h.out.most
  have hm' := h'.out.most
  by_cases hnn : n = n'
  · subst hnn
    go_enter Tryd.func23, Tryd.ntmps23
    go_wp2_with fail
    go_loopw [13] (fun i wr => ∃ k : Nat, k ≤ n ∧ i = .int .i64 k ∧ Hid (l.take k = l'.take k) ∧ Hid (Below w.heap.size w wr)) (fun i _ => n - (intOf i).toNat)
    case atStart => exact ⟨0, by omega, rfl, hide rfl, hide (Below.refl _ _)⟩
    case round =>
      obtain ⟨k, hk, rfl, hT, BB⟩ := hrel
      by_cases hlt : k < n
      · have hd : decide ((k : Int) < (n : Int)) = true := by simp; omega
        obtain ⟨g1, o1, V, rfl, hV, v2, c0, c1⟩ := tr_at (h.out.below (BB.out.mono hB)) hlt
        obtain ⟨g2, o2, U, rfl, hU, u2, d0, d1⟩ := tr_at (h'.out.below (BB.out.mono hB)) hlt
        have y0 := fun p : After wr => after_cell c0 p
        have y1 := fun p : After wr => after_cell c1 p
        have z0 := fun p : After wr => after_cell d0 p
        have z1 := fun p : After wr => after_cell d1 p
        have i0 : (0 : Int) ≤ (k : Int) := by omega
        have i1 : (k : Int) < (n : Int) := by omega
        by_cases hVU : V = U
        · subst hVU
          have HN := hide (take_eq hT.out hV hU)
          have hq := fun W => run_ne_same V V W rfl
          clear c0 c1 d0 d1 hV hU
          go_upto_region 6 with (fail)
          refine wp_region_after (by kernel_rfl) (by kernel_rfl) ?_
          repeat (go_big_quiet_step (fail))
          refine wpQuiet_nil ?_
          intro _ hw'
          obtain ⟨p1, hw''⟩ := hw'
          subst hw''
          have HB9 := hide (below_call BB.out p1.b)
          go_wp2_with fail
          go_roundw
          case rel => exact ⟨k + 1, by omega, by go_num, HN, HB9⟩
          case measure => simp [intOf]; omega
        · have hE := hide (HB.out.symm.trans (trace_ne hV hU hVU))
          have hq := fun W => run_ne_vv V U W v2 u2
          rw [decide_eq_false hVU] at hq
          clear c0 c1 d0 d1 hV hU
          go_upto_region 6 with (fail)
          refine wp_region_after (by kernel_rfl) (by kernel_rfl) ?_
          repeat (go_big_quiet_step (fail))
          refine wpQuiet_nil ?_
          intro _ hw'
          obtain ⟨p1, hw''⟩ := hw'
          subst hw''
          have HB9 := hide (below_call BB.out p1.b)
          go_wp2_with fail
          go_ret
          exact ⟨by rw [hE.out]; rfl, HB9.out⟩
      · obtain rfl : k = n := by omega
        have hE := hide (HB.out.symm.trans (decide_eq_true (by
          have := hT.out
          rwa [List.take_of_length_le (by rw [h.out.len]; omega), List.take_of_length_le (by rw [h'.out.len]; omega)] at this)))
        go_wp2_with fail
        go_ret
        exact ⟨by rw [hE.out]; rfl, BB.out⟩
  · have hE := hide (HB.out.symm.trans (decide_eq_false (fun e => hnn (by rw [← h.out.len, ← h'.out.len, e]))))
    have hne : ((n : Int) != (n' : Int)) = true := by rw [bne_iff_ne]; exact fun e => hnn (Int.ofNat.inj e)
    go_enter Tryd.func23, Tryd.ntmps23
    go_wp2_with fail
    go_ret
    exact ⟨by rw [hE.out]; rfl, Below.refl _ _⟩

set_option maxRecDepth 100000 in
set_option maxHeartbeats 4000000 in
theorem dsame_out (k c : Int) (r : Nat) (A : Option Addr) (n cap : Nat) (l : List Nat) (s : Int) (k' c' : Int) (r' : Nat) (A' : Option Addr) (n' cap' : Nat) (l' : List Nat) (s' : Int) (w : World) (h : Hid (TrAt w w.heap.size A n cap l)) (h' : Hid (TrAt w w.heap.size A' n' cap' l')) (hr : r < two128) (hr' : r' < two128) :
    Calls Tryd.prog 13 #[ov k c r A n cap s, ov k' c' r' A' n' cap' s'] w fun e w' => e = .returned (.bool (outB k c r l s k' c' r' l' s')) ∧ Below w.heap.size w w' := by
  obtain ⟨W0, hW0⟩ : ∃ W, (w.alloc (.cells #[.int .i64 k, .int .u64 c, .int .u64 (lo r), .int .u64 (hi r), .slice A n cap, .int .i64 s] 36)).alloc (.cells #[.int .i64 k', .int .u64 c', .int .u64 (lo r'), .int .u64 (hi r'), .slice A' n' cap', .int .i64 s'] 36) = W := ⟨_, rfl⟩
  have HW0 := hide hW0
  have RX := hide (show Row W0 w.heap.size 36 (ovl k c r A n cap s) by rw [← hW0]; exact (Row.new w _ _).alloc _)
  have RY := hide (show Row W0 (w.heap.size + 1) 36 (ovl k' c' r' A' n' cap' s') by rw [← hW0]; exact (Row.new _ _ _).at_ (by simp))
  have B0 := hide (show Below w.heap.size w W0 by rw [← hW0]; exact below2 w _ _)
  have H := hide (h.out.call B0.out)
  have H' := hide (h'.out.call B0.out)
  clear hW0
  have x0 := RX.out.cell (k := 0) rfl
  have x1 := RX.out.cell (k := 1) rfl
  have x2 := RX.out.cell (k := 2) rfl
  have x3 := RX.out.cell (k := 3) rfl
  have x4 := RX.out.cell (k := 4) rfl
  have x5 := RX.out.cell (k := 5) rfl
  have y0 := RY.out.cell (k := 0) rfl
  have y1 := RY.out.cell (k := 1) rfl
  have y2 := RY.out.cell (k := 2) rfl
  have y3 := RY.out.cell (k := 3) rfl
  have y4 := RY.out.cell (k := 4) rfl
  have y5 := RY.out.cell (k := 5) rfl
  have hv := fun W => run_eq_vv r r' W hr hr'
  have ct := fun W (HS : Hid (TrAt W W.heap.size A n cap l)) (HT : Hid (TrAt W W.heap.size A' n' cap' l')) => eqv_any A n cap l A' n' cap' l' W.heap.size W HS HT (Nat.le_refl _)
  by_cases hk : k = k'
  · subst hk
    by_cases hc : c = c'
    · subst hc
      by_cases hrr : r = r'
      · subst hrr
        rw [decide_eq_true rfl] at hv
        by_cases hll : l = l'
        · have hB := hide (show decide (s = s') = outB k c r l s k c r l' s' by simp [outB, hll])
          rw [decide_eq_true hll] at ct
          have hse := eqi s s'
          go_enter Tryd.func13, Tryd.ntmps13
          go_upto_region 1 with (fail)
          rw [HW0.out]
          go_wp2_with fail
          go_fit (ct _ H H')
          rintro e w1 ⟨rfl, hb1⟩
          have m5 := keep_cellB hb1 x5
          have n5 := keep_cellB hb1 y5
          go_wp2_with fail
          go_ret
          exact ⟨ret_bool hB.out, below_call B0.out hb1⟩
        · have hB := hide (show outB k c r l s k c r l' s' = false by simp [outB, hll])
          rw [decide_eq_false hll] at ct
          go_enter Tryd.func13, Tryd.ntmps13
          go_upto_region 1 with (fail)
          rw [HW0.out]
          go_wp2_with fail
          go_fit (ct _ H H')
          rintro e w1 ⟨rfl, hb1⟩
          go_wp2_with fail
          go_ret
          exact ⟨by rw [hB.out]; rfl, below_call B0.out hb1⟩
      · have hB := hide (show outB k c r l s k c r' l' s' = false by simp [outB, hrr])
        rw [decide_eq_false hrr] at hv
        go_enter Tryd.func13, Tryd.ntmps13
        go_upto_region 1 with (fail)
        rw [HW0.out]
        go_wp2_with fail
        go_ret
        exact ⟨by rw [hB.out]; rfl, B0.out⟩
    · have hB := hide (show outB k c r l s k c' r' l' s' = false by simp [outB, hc])
      have hce : (c == c') = false := by simpa using hc
      go_enter Tryd.func13, Tryd.ntmps13
      go_upto_region 1 with (fail)
      rw [HW0.out]
      go_wp2_with fail
      go_ret
      exact ⟨by rw [hB.out]; rfl, B0.out⟩
  · have hB := hide (show outB k c r l s k' c' r' l' s' = false by simp [outB, hk])
    have hke : (k == k') = false := by simpa using hk
    go_enter Tryd.func13, Tryd.ntmps13
    go_upto_region 1 with (fail)
    rw [HW0.out]
    go_wp2_with fail
    go_ret
    exact ⟨by rw [hB.out]; rfl, B0.out⟩

set_option maxHeartbeats 2000000 in
theorem dends_out (k c : Int) (r : Nat) (A : Option Addr) (n cap : Nat) (s : Int) (w : World) : Calls Tryd.prog 14 #[ov k c r A n cap s] w fun e w' => e = .returned (.bool (endB k)) ∧ Below w.heap.size w w' := by
  have x0 := (Row.new w 36 (ovl k c r A n cap s)).cell (k := 0) rfl
  by_cases h0 : k = 0
  · subst h0
    go_enter Tryd.func14, Tryd.ntmps14
    go_wp2_with fail
    go_ret
    exact ⟨rfl, below1 _ _⟩
  by_cases h1 : k = 1
  · subst h1
    go_enter Tryd.func14, Tryd.ntmps14
    go_wp2_with fail
    go_ret
    exact ⟨rfl, below1 _ _⟩
  by_cases h2 : k = 2
  · subst h2
    go_enter Tryd.func14, Tryd.ntmps14
    go_wp2_with fail
    go_ret
    exact ⟨rfl, below1 _ _⟩
  have hE := hide (show endB k = false by simp [endB, h0, h1, h2])
  have e0 : (k == 0) = false := by simpa using h0
  have e1 : (k == 1) = false := by simpa using h1
  have e2 : (k == 2) = false := by simpa using h2
  go_enter Tryd.func14, Tryd.ntmps14
  go_wp2_with fail
  go_ret
  exact ⟨by rw [hE.out]; first | rfl | simp_all, below1 _ _⟩

set_option maxHeartbeats 2000000 in
theorem rends_out (k c : Int) (r : Nat) (A : Option Addr) (n cap : Nat) (s : Int) (w : World) : Calls Tryd.prog 15 #[ov k c r A n cap s] w fun e w' => e = .returned (.bool (endB k)) ∧ Below w.heap.size w w' := by
  have x0 := (Row.new w 36 (ovl k c r A n cap s)).cell (k := 0) rfl
  by_cases h0 : k = 0
  · subst h0
    go_enter Tryd.func15, Tryd.ntmps15
    go_wp2_with fail
    go_ret
    exact ⟨rfl, below1 _ _⟩
  by_cases h1 : k = 1
  · subst h1
    go_enter Tryd.func15, Tryd.ntmps15
    go_wp2_with fail
    go_ret
    exact ⟨rfl, below1 _ _⟩
  by_cases h2 : k = 2
  · subst h2
    go_enter Tryd.func15, Tryd.ntmps15
    go_wp2_with fail
    go_ret
    exact ⟨rfl, below1 _ _⟩
  have hE := hide (show endB k = false by simp [endB, h0, h1, h2])
  have e0 : (k == 0) = false := by simpa using h0
  have e1 : (k == 1) = false := by simpa using h1
  have e2 : (k == 2) = false := by simpa using h2
  go_enter Tryd.func15, Tryd.ntmps15
  go_wp2_with fail
  go_ret
  exact ⟨by rw [hE.out]; first | rfl | simp_all, below1 _ _⟩
end Go.Proofs.YtipjeihfhnilcaaDoor
end

section
/-
  The law on equal outcomes, walked: it returns true. Conditions: those of the types; the tables lie as they are laid.
-/
namespace Go.Proofs.YtipjeihfhnilcaaDoor
open Go.RowKit
attribute [local go_sem ↓] Go.wp_at_zero Go.wp_at_succ

theorem below_put {B g k : Nat} {w w' : World} {u : Value} (h : Below B w w') (hg : B ≤ g) : Below B w (w'.setCell ⟨g, k, none⟩ u) := h.setCell (p := ⟨g, k, none⟩) hg u
theorem eqb (b : Bool) : (b == b) = true := by cases b <;> rfl
theorem outB_self (k c : Int) (r : Nat) (l : List Nat) (s : Int) : outB k c r l s k c r l s = true := by simp [outB]
/-- The changed outcome in its box, beside the two that came in. -/
def SlCut (q : Nat) (k c : Int) (r : Nat) (A : Option Addr) (n cap : Nat) (l : List Nat) (s : Int) (k' c' : Int) (r' : Nat) (A' : Option Addr) (n' cap' : Nat) (l' : List Nat) (s' : Int) (w : World) (g : Nat) (wx : World) : Prop :=
  ∃ (k1 c1 : Int) (r1 : Nat) (A1 : Option Addr) (n1 cap1 : Nat) (l1 : List Nat) (s1 : Int), r1 < two128 ∧ outB k c r l s k1 c1 r1 l1 s1 = decide (q = 5) ∧ Row wx g 36 (ovl k1 c1 r1 A1 n1 cap1 s1) ∧ TrAt wx wx.heap.size A1 n1 cap1 l1 ∧
    Row wx w.heap.size 36 (ovl k c r A n cap s) ∧ TrAt wx wx.heap.size A n cap l ∧ Row wx (w.heap.size + 1) 36 (ovl k' c' r' A' n' cap' s') ∧ TrAt wx wx.heap.size A' n' cap' l' ∧ Below w.heap.size w wx

set_option maxRecDepth 100000 in
set_option maxHeartbeats 8000000 in
theorem same8_walk (k c : Int) (r : Nat) (A : Option Addr) (n cap : Nat) (l : List Nat) (s : Int) (k' c' : Int) (r' : Nat) (A' : Option Addr) (n' cap' : Nat) (l' : List Nat) (s' z : Int) (w : World) (h : Hid (TrAt w w.heap.size A n cap l)) (h' : Hid (TrAt w w.heap.size A' n' cap' l')) (hr : r < two128) (hr' : r' < two128) (hk0 : -9223372036854775808 ≤ k) (hk1 : k ≤ 9223372036854775807) (hc0 : 0 ≤ c) (hc1 : c ≤ 18446744073709551615) (hs0 : -9223372036854775808 ≤ s) (hs1 : s ≤ 9223372036854775807) (z0 : 0 ≤ z) (z1 : z ≤ 255) (hSh : Hid (Shapes w)) :
    Calls Tryd.prog 5 #[ov k c r A n cap s, ov k' c' r' A' n' cap' s', .int .u8 z] w fun e w' => e = .returned (.bool true) ∧ Below w.heap.size w w' := by
  obtain ⟨W0, hW0⟩ : ∃ W, (w.alloc (.cells #[.int .i64 k, .int .u64 c, .int .u64 (lo r), .int .u64 (hi r), .slice A n cap, .int .i64 s] 36)).alloc (.cells #[.int .i64 k', .int .u64 c', .int .u64 (lo r'), .int .u64 (hi r'), .slice A' n' cap', .int .i64 s'] 36) = W := ⟨_, rfl⟩
  have HW0 := hide hW0
  have RX0 := hide (show Row W0 (w.heap.size) 36 [.int .i64 k, .int .u64 c, .int .u64 (lo r), .int .u64 (hi r), .slice A n cap, .int .i64 s] by rw [← hW0]; exact ((Row.new w 36 [.int .i64 k, .int .u64 c, .int .u64 (lo r), .int .u64 (hi r), .slice A n cap, .int .i64 s]).alloc _))
  have RY0 := hide (show Row W0 (w.heap.size + 1) 36 [.int .i64 k', .int .u64 c', .int .u64 (lo r'), .int .u64 (hi r'), .slice A' n' cap', .int .i64 s'] by rw [← hW0]; exact (Row.new (w.alloc (.cells #[.int .i64 k, .int .u64 c, .int .u64 (lo r), .int .u64 (hi r), .slice A n cap, .int .i64 s] 36)) 36 [.int .i64 k', .int .u64 c', .int .u64 (lo r'), .int .u64 (hi r'), .slice A' n' cap', .int .i64 s']).at_ (by simp))
  have B0 := hide (show Below w.heap.size w W0 by rw [← hW0]; exact below2 w _ _)
  have Z0 := hide (show W0.heap.size = w.heap.size + 2 by rw [← hW0]; simp)
  clear hW0
  have hm := h.out.most
  have hm' := h'.out.most
  go_enter Tryd.func5, Tryd.ntmps5
  go_upto_region 1 with (fail)
  rw [HW0.out]
  have aw := awake8_any W0 (hide (hSh.out.below B0.out))
  have fX0 := RX0.out.cell (k := 0) rfl
  have fX1 := RX0.out.cell (k := 1) rfl
  have fX2 := RX0.out.cell (k := 2) rfl
  have fX3 := RX0.out.cell (k := 3) rfl
  have fX4 := RX0.out.cell (k := 4) rfl
  have fX5 := RX0.out.cell (k := 5) rfl
  have fY0 := RY0.out.cell (k := 0) rfl
  have fY1 := RY0.out.cell (k := 1) rfl
  have fY2 := RY0.out.cell (k := 2) rfl
  have fY3 := RY0.out.cell (k := 3) rfl
  have fY4 := RY0.out.cell (k := 4) rfl
  have fY5 := RY0.out.cell (k := 5) rfl
  by_cases g1 : (500 : Int) < (n : Int)
  · go_wp2_with fail
    go_fit (aw)
    rintro e w1 ⟨rfl, hb1⟩
    have RX2 := hide (RX0.out.call hb1)
    clear RX0
    have RY2 := hide (RY0.out.call hb1)
    clear RY0
    have B2 := hide (below_call B0.out hb1)
    clear B0
    clear hb1
    clear fX0 fX1 fX2 fX3 fX4 fX5 fY0 fY1 fY2 fY3 fY4 fY5
    have fX0 := RX2.out.cell (k := 0) rfl
    have fX1 := RX2.out.cell (k := 1) rfl
    have fX2 := RX2.out.cell (k := 2) rfl
    have fX3 := RX2.out.cell (k := 3) rfl
    have fX4 := RX2.out.cell (k := 4) rfl
    have fX5 := RX2.out.cell (k := 5) rfl
    have fY0 := RY2.out.cell (k := 0) rfl
    have fY1 := RY2.out.cell (k := 1) rfl
    have fY2 := RY2.out.cell (k := 2) rfl
    have fY3 := RY2.out.cell (k := 3) rfl
    have fY4 := RY2.out.cell (k := 4) rfl
    have fY5 := RY2.out.cell (k := 5) rfl
    go_wp2_with fail
    go_ret
    exact ⟨rfl, B2.out⟩
  by_cases g2 : (500 : Int) < (n' : Int)
  · go_wp2_with fail
    go_fit (aw)
    rintro e w1 ⟨rfl, hb1⟩
    have RX2 := hide (RX0.out.call hb1)
    clear RX0
    have RY2 := hide (RY0.out.call hb1)
    clear RY0
    have B2 := hide (below_call B0.out hb1)
    clear B0
    clear hb1
    clear fX0 fX1 fX2 fX3 fX4 fX5 fY0 fY1 fY2 fY3 fY4 fY5
    have fX0 := RX2.out.cell (k := 0) rfl
    have fX1 := RX2.out.cell (k := 1) rfl
    have fX2 := RX2.out.cell (k := 2) rfl
    have fX3 := RX2.out.cell (k := 3) rfl
    have fX4 := RX2.out.cell (k := 4) rfl
    have fX5 := RX2.out.cell (k := 5) rfl
    have fY0 := RY2.out.cell (k := 0) rfl
    have fY1 := RY2.out.cell (k := 1) rfl
    have fY2 := RY2.out.cell (k := 2) rfl
    have fY3 := RY2.out.cell (k := 3) rfl
    have fY4 := RY2.out.cell (k := 4) rfl
    have fY5 := RY2.out.cell (k := 5) rfl
    go_wp2_with fail
    go_ret
    exact ⟨rfl, B2.out⟩
  obtain ⟨p, rfl⟩ : ∃ p : Nat, z = (p : Int) := ⟨z.toNat, by omega⟩
  obtain ⟨q, hq⟩ : ∃ q, p % 6 = q := ⟨_, rfl⟩
  have hq6 : q < 6 := by omega
  have hqt : Int.tmod (p : Int) 6 = (q : Int) := by rw [show (6 : Int) = ((6 : Nat) : Int) from rfl, ← Int.ofNat_tmod, hq]
  clear hq
  go_wp2_with fail
  go_fit (aw)
  rintro e w1 ⟨rfl, hb1⟩
  have RX2 := hide (RX0.out.call hb1)
  clear RX0
  have RY2 := hide (RY0.out.call hb1)
  clear RY0
  have B2 := hide (below_call B0.out hb1)
  clear B0
  clear hb1
  clear fX0 fX1 fX2 fX3 fX4 fX5 fY0 fY1 fY2 fY3 fY4 fY5
  have fX0 := RX2.out.cell (k := 0) rfl
  have fX1 := RX2.out.cell (k := 1) rfl
  have fX2 := RX2.out.cell (k := 2) rfl
  have fX3 := RX2.out.cell (k := 3) rfl
  have fX4 := RX2.out.cell (k := 4) rfl
  have fX5 := RX2.out.cell (k := 5) rfl
  have fY0 := RY2.out.cell (k := 0) rfl
  have fY1 := RY2.out.cell (k := 1) rfl
  have fY2 := RY2.out.cell (k := 2) rfl
  have fY3 := RY2.out.cell (k := 3) rfl
  have fY4 := RY2.out.cell (k := 4) rfl
  have fY5 := RY2.out.cell (k := 5) rfl
  go_upto_region 4 with (fail)
  have DD := hide (show w.heap.size + 1 < w1.heap.size from RY2.out.lt)
  obtain ⟨W3, hW3⟩ : ∃ W, w1.alloc (.cells #[.int .i64 k, .int .u64 c, .int .u64 (lo r), .int .u64 (hi r), .slice A n cap, .int .i64 s] 36) = W := ⟨_, rfl⟩
  have HW3 := hide hW3
  have RX3 := hide (show Row W3 (w.heap.size) 36 [.int .i64 k, .int .u64 c, .int .u64 (lo r), .int .u64 (hi r), .slice A n cap, .int .i64 s] by rw [← hW3]; exact RX2.out.alloc _)
  clear RX2
  have RY3 := hide (show Row W3 (w.heap.size + 1) 36 [.int .i64 k', .int .u64 c', .int .u64 (lo r'), .int .u64 (hi r'), .slice A' n' cap', .int .i64 s'] by rw [← hW3]; exact RY2.out.alloc _)
  clear RY2
  have RD3 := hide (show Row W3 (w1.heap.size) 36 [.int .i64 k, .int .u64 c, .int .u64 (lo r), .int .u64 (hi r), .slice A n cap, .int .i64 s] by rw [← hW3]; exact Row.new w1 _ _)
  have L3 := hide (show w1.heap.size < W3.heap.size by rw [← hW3]; simp)
  have G3 := hide B2.out.size
  have B3 := hide (show Below w.heap.size w W3 by rw [← hW3]; exact B2.out.alloc B2.out.size _)
  clear hW3
  have GD := hide (show w.heap.size ≤ w1.heap.size from G3.out)
  rw [HW3.out]
  clear fX0 fX1 fX2 fX3 fX4 fX5 fY0 fY1 fY2 fY3 fY4 fY5
  rcases (show q = 0 ∨ q = 1 ∨ q = 2 ∨ q = 3 ∨ q = 4 ∨ q = 5 by omega) with rfl | rfl | rfl | rfl | rfl | rfl
  · obtain ⟨k1, hk1e⟩ : ∃ y, IntKind.i64.wrap (k + 1) = y := ⟨_, rfl⟩
    have hne : k ≠ k1 := by rw [← hk1e, IntKind.wrap_i64]; omega
    have hOut : outB k c r l s k1 c r l s = false := by simp [outB, hne]
    clear hne
    have fD0 := RD3.out.cell (k := 0) rfl
    have fD1 := RD3.out.cell (k := 1) rfl
    have fD2 := RD3.out.cell (k := 2) rfl
    have fD3 := RD3.out.cell (k := 3) rfl
    have fD4 := RD3.out.cell (k := 4) rfl
    have fD5 := RD3.out.cell (k := 5) rfl
    have yD0 := RD3.out.free 0
    have yD1 := RD3.out.free 1
    have yD2 := RD3.out.free 2
    have yD3 := RD3.out.free 3
    have yD4 := RD3.out.free 4
    have yD5 := RD3.out.free 5
    go_upto_region 15 with (fail)
    obtain ⟨W4, hW4⟩ : ∃ W, W3.setCell ⟨w1.heap.size, 0, none⟩ (.int .i64 k1) = W := ⟨_, rfl⟩
    have HW4 := hide hW4
    have RD4 := hide (show Row W4 (w1.heap.size) 36 [.int .i64 k1, .int .u64 c, .int .u64 (lo r), .int .u64 (hi r), .slice A n cap, .int .i64 s] by rw [← hW4]; exact (RD3.out).set_ 0 _)
    have RX4 := hide (show Row W4 (w.heap.size) 36 [.int .i64 k, .int .u64 c, .int .u64 (lo r), .int .u64 (hi r), .slice A n cap, .int .i64 s] by rw [← hW4]; exact (RX3.out).far (p := ⟨w1.heap.size, 0, none⟩) (by have := DD.out; simp <;> omega) _)
    clear RX3
    have RY4 := hide (show Row W4 (w.heap.size + 1) 36 [.int .i64 k', .int .u64 c', .int .u64 (lo r'), .int .u64 (hi r'), .slice A' n' cap', .int .i64 s'] by rw [← hW4]; exact (RY3.out).far (p := ⟨w1.heap.size, 0, none⟩) (by have := DD.out; simp <;> omega) _)
    clear RY3
    have B4 := hide (show Below w.heap.size w W4 by rw [← hW4]; exact below_put (B3.out) GD.out)
    clear hW4 RD3
    rw [HW4.out]
    clear fD0 fD1 fD2 fD3 fD4 fD5 yD0 yD1 yD2 yD3 yD4 yD5
    have HT1 := hide (show TrAt W4 W4.heap.size A n cap l from ⟨h.out.len, h.out.cap, h.out.most, h.out.nil_, ((h.out.below B4.out).see.more B4.out.size), h.out.lt⟩)
    have hr1 := hr
    have fX0 := fun p : After W4 => after_cell (RX4.out.cell (k := 0) rfl) p
    have fX1 := fun p : After W4 => after_cell (RX4.out.cell (k := 1) rfl) p
    have fX2 := fun p : After W4 => after_cell (RX4.out.cell (k := 2) rfl) p
    have fX3 := fun p : After W4 => after_cell (RX4.out.cell (k := 3) rfl) p
    have fX4 := fun p : After W4 => after_cell (RX4.out.cell (k := 4) rfl) p
    have fX5 := fun p : After W4 => after_cell (RX4.out.cell (k := 5) rfl) p
    have fY0 := fun p : After W4 => after_cell (RY4.out.cell (k := 0) rfl) p
    have fY1 := fun p : After W4 => after_cell (RY4.out.cell (k := 1) rfl) p
    have fY2 := fun p : After W4 => after_cell (RY4.out.cell (k := 2) rfl) p
    have fY3 := fun p : After W4 => after_cell (RY4.out.cell (k := 3) rfl) p
    have fY4 := fun p : After W4 => after_cell (RY4.out.cell (k := 4) rfl) p
    have fY5 := fun p : After W4 => after_cell (RY4.out.cell (k := 5) rfl) p
    have fD0 := fun p : After W4 => after_cell (RD4.out.cell (k := 0) rfl) p
    have fD1 := fun p : After W4 => after_cell (RD4.out.cell (k := 1) rfl) p
    have fD2 := fun p : After W4 => after_cell (RD4.out.cell (k := 2) rfl) p
    have fD3 := fun p : After W4 => after_cell (RD4.out.cell (k := 3) rfl) p
    have fD4 := fun p : After W4 => after_cell (RD4.out.cell (k := 4) rfl) p
    have fD5 := fun p : After W4 => after_cell (RD4.out.cell (k := 5) rfl) p
    have TA := hide (show TrAt W4 W4.heap.size A n cap l from ⟨h.out.len, h.out.cap, h.out.most, h.out.nil_, ((h.out.below B4.out).see.more B4.out.size), h.out.lt⟩)
    have TB := hide (show TrAt W4 W4.heap.size A' n' cap' l' from ⟨h'.out.len, h'.out.cap, h'.out.most, h'.out.nil_, ((h'.out.below B4.out).see.more B4.out.size), h'.out.lt⟩)
    have C1 := hide (fun p : After W4 => dsame_out k c r A n cap l s k' c' r' A' n' cap' l' s' p.w (hide (TA.out.call p.b)) (hide (TB.out.call p.b)) hr hr')
    have C2 := hide (fun p : After W4 => rsame_out k c r A n cap l s k' c' r' A' n' cap' l' s' p.w (hide (TA.out.call p.b)) (hide (TB.out.call p.b)) hr hr')
    have c3 := fun p : After W4 => dsame_out k c r A n cap l s k1 c r A n cap l s p.w (hide (TA.out.call p.b)) (hide (HT1.out.call p.b)) hr hr1
    simp only [hOut] at c3
    have C3 := hide c3
    clear c3 hOut
    obtain ⟨b1, hb1'⟩ : ∃ b, outB k c r l s k' c' r' l' s' = b := ⟨_, rfl⟩
    have E1 := hide (fun p : After W4 => dends_out k c r A n cap s p.w)
    have E2 := hide (fun p : After W4 => rends_out k c r A n cap s p.w)
    have E3 := hide (fun p : After W4 => dends_out k1 c r A n cap s p.w)
    have E4 := hide (fun p : After W4 => rends_out k1 c r A n cap s p.w)
    have y1 := eqb (outB k c r l s k' c' r' l' s')
    have y2 := eqb (endB k)
    have y3 := eqb (endB k1)
    clear hb1'
    refine wp_region_after (by kernel_rfl) (by kernel_rfl) ?_
    repeat (go_big_quiet_step ((first
      | (go_at_call 13; with_reducible exact after_of (C1.out _))
      | (go_at_call 11; with_reducible exact after_of (C2.out _))
      | (go_at_call 13; with_reducible exact after_of (C3.out _))
      | (go_at_call 14; with_reducible exact after_of (E1.out _))
      | (go_at_call 15; with_reducible exact after_of (E2.out _))
      | (go_at_call 14; with_reducible exact after_of (E3.out _))
      | (go_at_call 15; with_reducible exact after_of (E4.out _)))))
    refine wpQuiet_nil ?_
    intro _ hw'
    obtain ⟨p1, hw''⟩ := hw'
    subst hw''
    go_wp2_with fail
    go_ret
    exact ⟨rfl, below_call B4.out p1.b⟩
  · obtain ⟨k1, hk1e⟩ : ∃ y, IntKind.u64.wrap (c + 1) = y := ⟨_, rfl⟩
    have hne : c ≠ k1 := by rw [← hk1e]; simp only [IntKind.wrap, IntKind.signed, IntKind.bits]; simp; omega
    have hOut : outB k c r l s k k1 r l s = false := by simp [outB, hne]
    clear hne
    have fD0 := RD3.out.cell (k := 0) rfl
    have fD1 := RD3.out.cell (k := 1) rfl
    have fD2 := RD3.out.cell (k := 2) rfl
    have fD3 := RD3.out.cell (k := 3) rfl
    have fD4 := RD3.out.cell (k := 4) rfl
    have fD5 := RD3.out.cell (k := 5) rfl
    have yD0 := RD3.out.free 0
    have yD1 := RD3.out.free 1
    have yD2 := RD3.out.free 2
    have yD3 := RD3.out.free 3
    have yD4 := RD3.out.free 4
    have yD5 := RD3.out.free 5
    go_upto_region 15 with (fail)
    obtain ⟨W4, hW4⟩ : ∃ W, W3.setCell ⟨w1.heap.size, 1, none⟩ (.int .u64 k1) = W := ⟨_, rfl⟩
    have HW4 := hide hW4
    have RD4 := hide (show Row W4 (w1.heap.size) 36 [.int .i64 k, .int .u64 k1, .int .u64 (lo r), .int .u64 (hi r), .slice A n cap, .int .i64 s] by rw [← hW4]; exact (RD3.out).set_ 1 _)
    have RX4 := hide (show Row W4 (w.heap.size) 36 [.int .i64 k, .int .u64 c, .int .u64 (lo r), .int .u64 (hi r), .slice A n cap, .int .i64 s] by rw [← hW4]; exact (RX3.out).far (p := ⟨w1.heap.size, 1, none⟩) (by have := DD.out; simp <;> omega) _)
    clear RX3
    have RY4 := hide (show Row W4 (w.heap.size + 1) 36 [.int .i64 k', .int .u64 c', .int .u64 (lo r'), .int .u64 (hi r'), .slice A' n' cap', .int .i64 s'] by rw [← hW4]; exact (RY3.out).far (p := ⟨w1.heap.size, 1, none⟩) (by have := DD.out; simp <;> omega) _)
    clear RY3
    have B4 := hide (show Below w.heap.size w W4 by rw [← hW4]; exact below_put (B3.out) GD.out)
    clear hW4 RD3
    rw [HW4.out]
    clear fD0 fD1 fD2 fD3 fD4 fD5 yD0 yD1 yD2 yD3 yD4 yD5
    have HT1 := hide (show TrAt W4 W4.heap.size A n cap l from ⟨h.out.len, h.out.cap, h.out.most, h.out.nil_, ((h.out.below B4.out).see.more B4.out.size), h.out.lt⟩)
    have hr1 := hr
    have fX0 := fun p : After W4 => after_cell (RX4.out.cell (k := 0) rfl) p
    have fX1 := fun p : After W4 => after_cell (RX4.out.cell (k := 1) rfl) p
    have fX2 := fun p : After W4 => after_cell (RX4.out.cell (k := 2) rfl) p
    have fX3 := fun p : After W4 => after_cell (RX4.out.cell (k := 3) rfl) p
    have fX4 := fun p : After W4 => after_cell (RX4.out.cell (k := 4) rfl) p
    have fX5 := fun p : After W4 => after_cell (RX4.out.cell (k := 5) rfl) p
    have fY0 := fun p : After W4 => after_cell (RY4.out.cell (k := 0) rfl) p
    have fY1 := fun p : After W4 => after_cell (RY4.out.cell (k := 1) rfl) p
    have fY2 := fun p : After W4 => after_cell (RY4.out.cell (k := 2) rfl) p
    have fY3 := fun p : After W4 => after_cell (RY4.out.cell (k := 3) rfl) p
    have fY4 := fun p : After W4 => after_cell (RY4.out.cell (k := 4) rfl) p
    have fY5 := fun p : After W4 => after_cell (RY4.out.cell (k := 5) rfl) p
    have fD0 := fun p : After W4 => after_cell (RD4.out.cell (k := 0) rfl) p
    have fD1 := fun p : After W4 => after_cell (RD4.out.cell (k := 1) rfl) p
    have fD2 := fun p : After W4 => after_cell (RD4.out.cell (k := 2) rfl) p
    have fD3 := fun p : After W4 => after_cell (RD4.out.cell (k := 3) rfl) p
    have fD4 := fun p : After W4 => after_cell (RD4.out.cell (k := 4) rfl) p
    have fD5 := fun p : After W4 => after_cell (RD4.out.cell (k := 5) rfl) p
    have TA := hide (show TrAt W4 W4.heap.size A n cap l from ⟨h.out.len, h.out.cap, h.out.most, h.out.nil_, ((h.out.below B4.out).see.more B4.out.size), h.out.lt⟩)
    have TB := hide (show TrAt W4 W4.heap.size A' n' cap' l' from ⟨h'.out.len, h'.out.cap, h'.out.most, h'.out.nil_, ((h'.out.below B4.out).see.more B4.out.size), h'.out.lt⟩)
    have C1 := hide (fun p : After W4 => dsame_out k c r A n cap l s k' c' r' A' n' cap' l' s' p.w (hide (TA.out.call p.b)) (hide (TB.out.call p.b)) hr hr')
    have C2 := hide (fun p : After W4 => rsame_out k c r A n cap l s k' c' r' A' n' cap' l' s' p.w (hide (TA.out.call p.b)) (hide (TB.out.call p.b)) hr hr')
    have c3 := fun p : After W4 => dsame_out k c r A n cap l s k k1 r A n cap l s p.w (hide (TA.out.call p.b)) (hide (HT1.out.call p.b)) hr hr1
    simp only [hOut] at c3
    have C3 := hide c3
    clear c3 hOut
    obtain ⟨b1, hb1'⟩ : ∃ b, outB k c r l s k' c' r' l' s' = b := ⟨_, rfl⟩
    have E1 := hide (fun p : After W4 => dends_out k c r A n cap s p.w)
    have E2 := hide (fun p : After W4 => rends_out k c r A n cap s p.w)
    have E3 := hide (fun p : After W4 => dends_out k k1 r A n cap s p.w)
    have E4 := hide (fun p : After W4 => rends_out k k1 r A n cap s p.w)
    have y1 := eqb (outB k c r l s k' c' r' l' s')
    have y2 := eqb (endB k)
    have y3 := eqb (endB k)
    clear hb1'
    refine wp_region_after (by kernel_rfl) (by kernel_rfl) ?_
    repeat (go_big_quiet_step ((first
      | (go_at_call 13; with_reducible exact after_of (C1.out _))
      | (go_at_call 11; with_reducible exact after_of (C2.out _))
      | (go_at_call 13; with_reducible exact after_of (C3.out _))
      | (go_at_call 14; with_reducible exact after_of (E1.out _))
      | (go_at_call 15; with_reducible exact after_of (E2.out _))
      | (go_at_call 14; with_reducible exact after_of (E3.out _))
      | (go_at_call 15; with_reducible exact after_of (E4.out _)))))
    refine wpQuiet_nil ?_
    intro _ hw'
    obtain ⟨p1, hw''⟩ := hw'
    subst hw''
    go_wp2_with fail
    go_ret
    exact ⟨rfl, below_call B4.out p1.b⟩
  · obtain ⟨k1, hk1e⟩ : ∃ y, IntKind.u64.wrap (hi r + 1) = y := ⟨_, rfl⟩
    have hb1 : 0 ≤ k1 ∧ k1 ≤ 18446744073709551615 := by rw [← hk1e]; simp only [IntKind.wrap, IntKind.signed, IntKind.bits]; simp; omega
    have hne : hi r ≠ k1 := by have := hi_b r; rw [← hk1e]; simp only [IntKind.wrap, IntKind.signed, IntKind.bits]; simp; omega
    have hlb := lo_b r
    obtain ⟨r1, hr1e⟩ : ∃ y, num (lo r) k1 = y := ⟨_, rfl⟩
    have hr1 : r1 < two128 := by rw [← hr1e]; exact num_lt hlb.2 hb1.2
    have hlo : lo r1 = lo r := by rw [← hr1e]; exact lo_num hlb.1 hlb.2 hb1.1 hb1.2
    have hhi : hi r1 = k1 := by rw [← hr1e]; exact hi_num hlb.1 hlb.2 hb1.1 hb1.2
    have hrr : r ≠ r1 := fun e => hne (by rw [← hhi, ← e])
    have hOut : outB k c r l s k c r1 l s = false := by simp [outB, hrr]
    have HLO := hide hlo
    have HHI := hide hhi
    clear hne hrr hb1 hlb hr1e hlo hhi
    have fD0 := RD3.out.cell (k := 0) rfl
    have fD1 := RD3.out.cell (k := 1) rfl
    have fD2 := RD3.out.cell (k := 2) rfl
    have fD3 := RD3.out.cell (k := 3) rfl
    have fD4 := RD3.out.cell (k := 4) rfl
    have fD5 := RD3.out.cell (k := 5) rfl
    have yD0 := RD3.out.free 0
    have yD1 := RD3.out.free 1
    have yD2 := RD3.out.free 2
    have yD3 := RD3.out.free 3
    have yD4 := RD3.out.free 4
    have yD5 := RD3.out.free 5
    go_upto_region 15 with (fail)
    obtain ⟨W4, hW4⟩ : ∃ W, W3.setCell ⟨w1.heap.size, 3, none⟩ (.int .u64 k1) = W := ⟨_, rfl⟩
    have HW4 := hide hW4
    have RD4 := hide (show Row W4 (w1.heap.size) 36 [.int .i64 k, .int .u64 c, .int .u64 (lo r), .int .u64 k1, .slice A n cap, .int .i64 s] by rw [← hW4]; exact (RD3.out).set_ 3 _)
    have RX4 := hide (show Row W4 (w.heap.size) 36 [.int .i64 k, .int .u64 c, .int .u64 (lo r), .int .u64 (hi r), .slice A n cap, .int .i64 s] by rw [← hW4]; exact (RX3.out).far (p := ⟨w1.heap.size, 3, none⟩) (by have := DD.out; simp <;> omega) _)
    clear RX3
    have RY4 := hide (show Row W4 (w.heap.size + 1) 36 [.int .i64 k', .int .u64 c', .int .u64 (lo r'), .int .u64 (hi r'), .slice A' n' cap', .int .i64 s'] by rw [← hW4]; exact (RY3.out).far (p := ⟨w1.heap.size, 3, none⟩) (by have := DD.out; simp <;> omega) _)
    clear RY3
    have B4 := hide (show Below w.heap.size w W4 by rw [← hW4]; exact below_put (B3.out) GD.out)
    clear hW4 RD3
    rw [HW4.out]
    clear fD0 fD1 fD2 fD3 fD4 fD5 yD0 yD1 yD2 yD3 yD4 yD5
    have RDn := hide (show Row W4 (w1.heap.size) 36 (ovl k c r1 A n cap s) by have := RD4.out; unfold ovl; rw [HLO.out, HHI.out]; exact this)
    have HT1 := hide (show TrAt W4 W4.heap.size A n cap l from ⟨h.out.len, h.out.cap, h.out.most, h.out.nil_, ((h.out.below B4.out).see.more B4.out.size), h.out.lt⟩)
    have fX0 := fun p : After W4 => after_cell (RX4.out.cell (k := 0) rfl) p
    have fX1 := fun p : After W4 => after_cell (RX4.out.cell (k := 1) rfl) p
    have fX2 := fun p : After W4 => after_cell (RX4.out.cell (k := 2) rfl) p
    have fX3 := fun p : After W4 => after_cell (RX4.out.cell (k := 3) rfl) p
    have fX4 := fun p : After W4 => after_cell (RX4.out.cell (k := 4) rfl) p
    have fX5 := fun p : After W4 => after_cell (RX4.out.cell (k := 5) rfl) p
    have fY0 := fun p : After W4 => after_cell (RY4.out.cell (k := 0) rfl) p
    have fY1 := fun p : After W4 => after_cell (RY4.out.cell (k := 1) rfl) p
    have fY2 := fun p : After W4 => after_cell (RY4.out.cell (k := 2) rfl) p
    have fY3 := fun p : After W4 => after_cell (RY4.out.cell (k := 3) rfl) p
    have fY4 := fun p : After W4 => after_cell (RY4.out.cell (k := 4) rfl) p
    have fY5 := fun p : After W4 => after_cell (RY4.out.cell (k := 5) rfl) p
    have fD0 := fun p : After W4 => after_cell (RDn.out.cell (k := 0) rfl) p
    have fD1 := fun p : After W4 => after_cell (RDn.out.cell (k := 1) rfl) p
    have fD2 := fun p : After W4 => after_cell (RDn.out.cell (k := 2) rfl) p
    have fD3 := fun p : After W4 => after_cell (RDn.out.cell (k := 3) rfl) p
    have fD4 := fun p : After W4 => after_cell (RDn.out.cell (k := 4) rfl) p
    have fD5 := fun p : After W4 => after_cell (RDn.out.cell (k := 5) rfl) p
    have TA := hide (show TrAt W4 W4.heap.size A n cap l from ⟨h.out.len, h.out.cap, h.out.most, h.out.nil_, ((h.out.below B4.out).see.more B4.out.size), h.out.lt⟩)
    have TB := hide (show TrAt W4 W4.heap.size A' n' cap' l' from ⟨h'.out.len, h'.out.cap, h'.out.most, h'.out.nil_, ((h'.out.below B4.out).see.more B4.out.size), h'.out.lt⟩)
    have C1 := hide (fun p : After W4 => dsame_out k c r A n cap l s k' c' r' A' n' cap' l' s' p.w (hide (TA.out.call p.b)) (hide (TB.out.call p.b)) hr hr')
    have C2 := hide (fun p : After W4 => rsame_out k c r A n cap l s k' c' r' A' n' cap' l' s' p.w (hide (TA.out.call p.b)) (hide (TB.out.call p.b)) hr hr')
    have c3 := fun p : After W4 => dsame_out k c r A n cap l s k c r1 A n cap l s p.w (hide (TA.out.call p.b)) (hide (HT1.out.call p.b)) hr hr1
    simp only [hOut] at c3
    have C3 := hide c3
    clear c3 hOut
    obtain ⟨b1, hb1'⟩ : ∃ b, outB k c r l s k' c' r' l' s' = b := ⟨_, rfl⟩
    have E1 := hide (fun p : After W4 => dends_out k c r A n cap s p.w)
    have E2 := hide (fun p : After W4 => rends_out k c r A n cap s p.w)
    have E3 := hide (fun p : After W4 => dends_out k c r1 A n cap s p.w)
    have E4 := hide (fun p : After W4 => rends_out k c r1 A n cap s p.w)
    have y1 := eqb (outB k c r l s k' c' r' l' s')
    have y2 := eqb (endB k)
    have y3 := eqb (endB k)
    clear hb1'
    refine wp_region_after (by kernel_rfl) (by kernel_rfl) ?_
    repeat (go_big_quiet_step ((first
      | (go_at_call 13; with_reducible exact after_of (C1.out _))
      | (go_at_call 11; with_reducible exact after_of (C2.out _))
      | (go_at_call 13; with_reducible exact after_of (C3.out _))
      | (go_at_call 14; with_reducible exact after_of (E1.out _))
      | (go_at_call 15; with_reducible exact after_of (E2.out _))
      | (go_at_call 14; with_reducible exact after_of (E3.out _))
      | (go_at_call 15; with_reducible exact after_of (E4.out _)))))
    refine wpQuiet_nil ?_
    intro _ hw'
    obtain ⟨p1, hw''⟩ := hw'
    subst hw''
    go_wp2_with fail
    go_ret
    exact ⟨rfl, below_call B4.out p1.b⟩
  · obtain ⟨k1, hk1e⟩ : ∃ y, IntKind.i64.wrap (s + 1) = y := ⟨_, rfl⟩
    have hne : s ≠ k1 := by rw [← hk1e, IntKind.wrap_i64]; omega
    have hOut : outB k c r l s k c r l k1 = false := by simp [outB, hne]
    clear hne
    have fD0 := RD3.out.cell (k := 0) rfl
    have fD1 := RD3.out.cell (k := 1) rfl
    have fD2 := RD3.out.cell (k := 2) rfl
    have fD3 := RD3.out.cell (k := 3) rfl
    have fD4 := RD3.out.cell (k := 4) rfl
    have fD5 := RD3.out.cell (k := 5) rfl
    have yD0 := RD3.out.free 0
    have yD1 := RD3.out.free 1
    have yD2 := RD3.out.free 2
    have yD3 := RD3.out.free 3
    have yD4 := RD3.out.free 4
    have yD5 := RD3.out.free 5
    go_upto_region 15 with (fail)
    obtain ⟨W4, hW4⟩ : ∃ W, W3.setCell ⟨w1.heap.size, 5, none⟩ (.int .i64 k1) = W := ⟨_, rfl⟩
    have HW4 := hide hW4
    have RD4 := hide (show Row W4 (w1.heap.size) 36 [.int .i64 k, .int .u64 c, .int .u64 (lo r), .int .u64 (hi r), .slice A n cap, .int .i64 k1] by rw [← hW4]; exact (RD3.out).set_ 5 _)
    have RX4 := hide (show Row W4 (w.heap.size) 36 [.int .i64 k, .int .u64 c, .int .u64 (lo r), .int .u64 (hi r), .slice A n cap, .int .i64 s] by rw [← hW4]; exact (RX3.out).far (p := ⟨w1.heap.size, 5, none⟩) (by have := DD.out; simp <;> omega) _)
    clear RX3
    have RY4 := hide (show Row W4 (w.heap.size + 1) 36 [.int .i64 k', .int .u64 c', .int .u64 (lo r'), .int .u64 (hi r'), .slice A' n' cap', .int .i64 s'] by rw [← hW4]; exact (RY3.out).far (p := ⟨w1.heap.size, 5, none⟩) (by have := DD.out; simp <;> omega) _)
    clear RY3
    have B4 := hide (show Below w.heap.size w W4 by rw [← hW4]; exact below_put (B3.out) GD.out)
    clear hW4 RD3
    rw [HW4.out]
    clear fD0 fD1 fD2 fD3 fD4 fD5 yD0 yD1 yD2 yD3 yD4 yD5
    have HT1 := hide (show TrAt W4 W4.heap.size A n cap l from ⟨h.out.len, h.out.cap, h.out.most, h.out.nil_, ((h.out.below B4.out).see.more B4.out.size), h.out.lt⟩)
    have hr1 := hr
    have fX0 := fun p : After W4 => after_cell (RX4.out.cell (k := 0) rfl) p
    have fX1 := fun p : After W4 => after_cell (RX4.out.cell (k := 1) rfl) p
    have fX2 := fun p : After W4 => after_cell (RX4.out.cell (k := 2) rfl) p
    have fX3 := fun p : After W4 => after_cell (RX4.out.cell (k := 3) rfl) p
    have fX4 := fun p : After W4 => after_cell (RX4.out.cell (k := 4) rfl) p
    have fX5 := fun p : After W4 => after_cell (RX4.out.cell (k := 5) rfl) p
    have fY0 := fun p : After W4 => after_cell (RY4.out.cell (k := 0) rfl) p
    have fY1 := fun p : After W4 => after_cell (RY4.out.cell (k := 1) rfl) p
    have fY2 := fun p : After W4 => after_cell (RY4.out.cell (k := 2) rfl) p
    have fY3 := fun p : After W4 => after_cell (RY4.out.cell (k := 3) rfl) p
    have fY4 := fun p : After W4 => after_cell (RY4.out.cell (k := 4) rfl) p
    have fY5 := fun p : After W4 => after_cell (RY4.out.cell (k := 5) rfl) p
    have fD0 := fun p : After W4 => after_cell (RD4.out.cell (k := 0) rfl) p
    have fD1 := fun p : After W4 => after_cell (RD4.out.cell (k := 1) rfl) p
    have fD2 := fun p : After W4 => after_cell (RD4.out.cell (k := 2) rfl) p
    have fD3 := fun p : After W4 => after_cell (RD4.out.cell (k := 3) rfl) p
    have fD4 := fun p : After W4 => after_cell (RD4.out.cell (k := 4) rfl) p
    have fD5 := fun p : After W4 => after_cell (RD4.out.cell (k := 5) rfl) p
    have TA := hide (show TrAt W4 W4.heap.size A n cap l from ⟨h.out.len, h.out.cap, h.out.most, h.out.nil_, ((h.out.below B4.out).see.more B4.out.size), h.out.lt⟩)
    have TB := hide (show TrAt W4 W4.heap.size A' n' cap' l' from ⟨h'.out.len, h'.out.cap, h'.out.most, h'.out.nil_, ((h'.out.below B4.out).see.more B4.out.size), h'.out.lt⟩)
    have C1 := hide (fun p : After W4 => dsame_out k c r A n cap l s k' c' r' A' n' cap' l' s' p.w (hide (TA.out.call p.b)) (hide (TB.out.call p.b)) hr hr')
    have C2 := hide (fun p : After W4 => rsame_out k c r A n cap l s k' c' r' A' n' cap' l' s' p.w (hide (TA.out.call p.b)) (hide (TB.out.call p.b)) hr hr')
    have c3 := fun p : After W4 => dsame_out k c r A n cap l s k c r A n cap l k1 p.w (hide (TA.out.call p.b)) (hide (HT1.out.call p.b)) hr hr1
    simp only [hOut] at c3
    have C3 := hide c3
    clear c3 hOut
    obtain ⟨b1, hb1'⟩ : ∃ b, outB k c r l s k' c' r' l' s' = b := ⟨_, rfl⟩
    have E1 := hide (fun p : After W4 => dends_out k c r A n cap s p.w)
    have E2 := hide (fun p : After W4 => rends_out k c r A n cap s p.w)
    have E3 := hide (fun p : After W4 => dends_out k c r A n cap k1 p.w)
    have E4 := hide (fun p : After W4 => rends_out k c r A n cap k1 p.w)
    have y1 := eqb (outB k c r l s k' c' r' l' s')
    have y2 := eqb (endB k)
    have y3 := eqb (endB k)
    clear hb1'
    refine wp_region_after (by kernel_rfl) (by kernel_rfl) ?_
    repeat (go_big_quiet_step ((first
      | (go_at_call 13; with_reducible exact after_of (C1.out _))
      | (go_at_call 11; with_reducible exact after_of (C2.out _))
      | (go_at_call 13; with_reducible exact after_of (C3.out _))
      | (go_at_call 14; with_reducible exact after_of (E1.out _))
      | (go_at_call 15; with_reducible exact after_of (E2.out _))
      | (go_at_call 14; with_reducible exact after_of (E3.out _))
      | (go_at_call 15; with_reducible exact after_of (E4.out _)))))
    refine wpQuiet_nil ?_
    intro _ hw'
    obtain ⟨p1, hw''⟩ := hw'
    subst hw''
    go_wp2_with fail
    go_ret
    exact ⟨rfl, below_call B4.out p1.b⟩
  · obtain ⟨ia, hai, ha0, ha1, ha2⟩ := info_parts Tryd.info33z
    go_upto_region 14 with (fail)
    have HCA := hide h.out.nil_
    have HCL := hide (show (vcells l).length = n * 2 by rw [vcells_len, h.out.len])
    have HCS := hide ((h.out.below B3.out).see)
    have HCC := hide h.out.cap
    have hbs := hide B3.out.size
    have HM1 := hide (show 0 + n ≤ maxLen by unfold maxLen; omega)
    have HM2 := hide (show (0 + n) * 16 ≤ 140737488355328 by omega)
    have HM3 := hide (show n + 1 ≤ maxLen by unfold maxLen; omega)
    have HM4 := hide (show (n + 1) * 16 ≤ 140737488355328 by omega)
    have fX4 := RX3.out.cell (k := 4) rfl
    have fX4a : ∀ o : Obj, (W3.alloc o).cell? ⟨w.heap.size, 4, none⟩ = some (.slice A n cap) := fun o => (RX3.out.alloc o).cell (k := 4) rfl
    have fX4b : ∀ o : Obj, ((W3.drewN 1).alloc o).cell? ⟨w.heap.size, 4, none⟩ = some (.slice A n cap) := fun o => ((RX3.out.drewN 1).alloc o).cell (k := 4) rfl
    go_wp2_with (at_builtin; refine wpList_append_seesN rfl (.const (.slice none 0 0)) (.tmp 64) 34 rfl W3.heap.size 33 ia (.agg #[.int .u64 0, .int .u64 0]) 2 16 Tryd.underlying34 hai ha0 ha1 ha2 rfl (by decide) (.slice none 0 0) 0 [] rfl (World.ownsRow_nil _ _ _ _) w.heap.size A n cap (vcells l) rfl HCA HCL (HCS) HCC (vcells_oneCell _) HM1.out HM2.out (Nat.le_refl _) ?_)
    intro v1 w6 ho0 hG1
    have ho1 : w6.ownsRow W3.heap.size 33 2 v1 n (vcells l) := by simpa using ho0
    clear ho0
    have hone := vcell_oneCell 0
    rw [show vcell 0 = [.int .u64 0, .int .u64 0] from rfl] at hone
    have hbase7 : W3.heap.size ≤ (w6.alloc (.cells #[.int .u64 0, .int .u64 0] 33)).heap.size := Nat.le_trans hG1.size (by simp)
    have hcel := fun (j : Nat) (u : Value) (hu : ([.int .u64 0, .int .u64 0] : List Value)[j]? = some u) => (show (w6.alloc (.cells #[.int .u64 0, .int .u64 0] 33)).cell? ((⟨w6.heap.size, 0, none⟩ : Addr).add j) = some u by rw [WideShapes.add_plain, Nat.zero_add]; exact (Row.new w6 33 [.int .u64 0, .int .u64 0]).cell hu)
    go_wp2_with (at_builtin; refine wpList_append_own _ rfl (.tmp 65) (.tmp 67) 34 rfl W3.heap.size 33 ia (.agg #[.int .u64 0, .int .u64 0]) 2 16 Tryd.underlying34 hai ha0 ha1 ha2 rfl (by decide) v1 n (vcells l) rfl (ho1.alloc _) ⟨w6.heap.size, 0, none⟩ 1 1 [.int .u64 0, .int .u64 0] rfl rfl hcel hone HM3.out HM4.out hbase7 ?_)
    intro v2 w7 ho2 hg2 _
    have HG7 : Hid (W3.grownBy w7 none) := hide ((hG1.trans (World.grownBy_alloc _ _ _)).andThen hg2 (fun k hk => .inl (ho1.lt k hk).1))
    obtain ⟨A7, c7, rfl, hA7, hc7, hf7, -⟩ := own_seen ho2
    have p0 := (RD3.out.grown HG7.out (fun e => by cases e)).cell (k := 4) rfl
    have p1 := (RD3.out.grown HG7.out (fun e => by cases e)).free 4
    try simp only [Nat.zero_add, List.nil_append] at ho2
    have hv7 : vcells (l ++ [0]) = vcells l ++ [.int .u64 0, .int .u64 0] := by rw [vcells_app]; rfl
    have ho3 := ownsRow_setCell_below ho2 (a := ⟨w1.heap.size, 4, none⟩) (by have := RD3.out.lt; simp <;> omega) (.slice A7 (n + 1) c7)
    rw [← hv7] at ho3
    obtain ⟨A8, c8, h8, hA8, hc8, -, hs8⟩ := own_seen ho3
    injection h8 with h8a _ h8c
    subst h8a h8c
    have RX7 := hide (RX3.out.grown HG7.out (fun e => by cases e))
    have RY7 := hide (RY3.out.grown HG7.out (fun e => by cases e))
    have RD7 := hide (RD3.out.grown HG7.out (fun e => by cases e))
    have B7 := hide (B3.out.grown HG7.out hbs.out (fun k hk => by cases hk))
    have HT8 := hide (show TrAt (w7.setCell ⟨w1.heap.size, 4, none⟩ (.slice A7 (n + 1) c7)) (w7.setCell ⟨w1.heap.size, 4, none⟩ (.slice A7 (n + 1) c7)).heap.size A7 (n + 1) c7 (l ++ [0]) from ⟨by simp [h.out.len], hc8, by omega, hA8, hs8, fun v hv => by rcases List.mem_append.1 hv with hv | hv; exact h.out.lt v hv; (rw [List.mem_singleton.1 hv]; decide)⟩)
    have hOut : outB k c r l s k c r (l ++ [0]) s = false := by simp [outB]
    clear ho1 hG1 ho2 hg2 hA7 hc7 hf7 ho3 hA8 hc8 hs8 hv7
    clear fX4 fX4a fX4b
    obtain ⟨W4, hW4⟩ : ∃ W, w7.setCell ⟨w1.heap.size, 4, none⟩ (.slice A7 (n + 1) c7) = W := ⟨_, rfl⟩
    have HW4 := hide hW4
    have RD4 := hide (show Row W4 (w1.heap.size) 36 [.int .i64 k, .int .u64 c, .int .u64 (lo r), .int .u64 (hi r), .slice A7 (n + 1) c7, .int .i64 s] by rw [← hW4]; exact (RD7.out).set_ 4 _)
    have RX4 := hide (show Row W4 (w.heap.size) 36 [.int .i64 k, .int .u64 c, .int .u64 (lo r), .int .u64 (hi r), .slice A n cap, .int .i64 s] by rw [← hW4]; exact (RX7.out).far (p := ⟨w1.heap.size, 4, none⟩) (by have := DD.out; simp <;> omega) _)
    clear RX7
    have RY4 := hide (show Row W4 (w.heap.size + 1) 36 [.int .i64 k', .int .u64 c', .int .u64 (lo r'), .int .u64 (hi r'), .slice A' n' cap', .int .i64 s'] by rw [← hW4]; exact (RY7.out).far (p := ⟨w1.heap.size, 4, none⟩) (by have := DD.out; simp <;> omega) _)
    clear RY7
    have B4 := hide (show Below w.heap.size w W4 by rw [← hW4]; exact below_put (B7.out) GD.out)
    clear hW4 RD7
    rw [HW4.out] at HT8
    go_upto_region 15 with (fail)
    rw [HW4.out]
    clear p0 p1
    have HT1 := HT8
    have hr1 := hr
    have fX0 := fun p : After W4 => after_cell (RX4.out.cell (k := 0) rfl) p
    have fX1 := fun p : After W4 => after_cell (RX4.out.cell (k := 1) rfl) p
    have fX2 := fun p : After W4 => after_cell (RX4.out.cell (k := 2) rfl) p
    have fX3 := fun p : After W4 => after_cell (RX4.out.cell (k := 3) rfl) p
    have fX4 := fun p : After W4 => after_cell (RX4.out.cell (k := 4) rfl) p
    have fX5 := fun p : After W4 => after_cell (RX4.out.cell (k := 5) rfl) p
    have fY0 := fun p : After W4 => after_cell (RY4.out.cell (k := 0) rfl) p
    have fY1 := fun p : After W4 => after_cell (RY4.out.cell (k := 1) rfl) p
    have fY2 := fun p : After W4 => after_cell (RY4.out.cell (k := 2) rfl) p
    have fY3 := fun p : After W4 => after_cell (RY4.out.cell (k := 3) rfl) p
    have fY4 := fun p : After W4 => after_cell (RY4.out.cell (k := 4) rfl) p
    have fY5 := fun p : After W4 => after_cell (RY4.out.cell (k := 5) rfl) p
    have fD0 := fun p : After W4 => after_cell (RD4.out.cell (k := 0) rfl) p
    have fD1 := fun p : After W4 => after_cell (RD4.out.cell (k := 1) rfl) p
    have fD2 := fun p : After W4 => after_cell (RD4.out.cell (k := 2) rfl) p
    have fD3 := fun p : After W4 => after_cell (RD4.out.cell (k := 3) rfl) p
    have fD4 := fun p : After W4 => after_cell (RD4.out.cell (k := 4) rfl) p
    have fD5 := fun p : After W4 => after_cell (RD4.out.cell (k := 5) rfl) p
    have TA := hide (show TrAt W4 W4.heap.size A n cap l from ⟨h.out.len, h.out.cap, h.out.most, h.out.nil_, ((h.out.below B4.out).see.more B4.out.size), h.out.lt⟩)
    have TB := hide (show TrAt W4 W4.heap.size A' n' cap' l' from ⟨h'.out.len, h'.out.cap, h'.out.most, h'.out.nil_, ((h'.out.below B4.out).see.more B4.out.size), h'.out.lt⟩)
    have C1 := hide (fun p : After W4 => dsame_out k c r A n cap l s k' c' r' A' n' cap' l' s' p.w (hide (TA.out.call p.b)) (hide (TB.out.call p.b)) hr hr')
    have C2 := hide (fun p : After W4 => rsame_out k c r A n cap l s k' c' r' A' n' cap' l' s' p.w (hide (TA.out.call p.b)) (hide (TB.out.call p.b)) hr hr')
    have c3 := fun p : After W4 => dsame_out k c r A n cap l s k c r A7 (n + 1) c7 (l ++ [0]) s p.w (hide (TA.out.call p.b)) (hide (HT1.out.call p.b)) hr hr1
    simp only [hOut] at c3
    have C3 := hide c3
    clear c3 hOut
    obtain ⟨b1, hb1'⟩ : ∃ b, outB k c r l s k' c' r' l' s' = b := ⟨_, rfl⟩
    have E1 := hide (fun p : After W4 => dends_out k c r A n cap s p.w)
    have E2 := hide (fun p : After W4 => rends_out k c r A n cap s p.w)
    have E3 := hide (fun p : After W4 => dends_out k c r A7 (n + 1) c7 s p.w)
    have E4 := hide (fun p : After W4 => rends_out k c r A7 (n + 1) c7 s p.w)
    have y1 := eqb (outB k c r l s k' c' r' l' s')
    have y2 := eqb (endB k)
    have y3 := eqb (endB k)
    clear hb1'
    refine wp_region_after (by kernel_rfl) (by kernel_rfl) ?_
    repeat (go_big_quiet_step ((first
      | (go_at_call 13; with_reducible exact after_of (C1.out _))
      | (go_at_call 11; with_reducible exact after_of (C2.out _))
      | (go_at_call 13; with_reducible exact after_of (C3.out _))
      | (go_at_call 14; with_reducible exact after_of (E1.out _))
      | (go_at_call 15; with_reducible exact after_of (E2.out _))
      | (go_at_call 14; with_reducible exact after_of (E3.out _))
      | (go_at_call 15; with_reducible exact after_of (E4.out _)))))
    refine wpQuiet_nil ?_
    intro _ hw'
    obtain ⟨p1, hw''⟩ := hw'
    subst hw''
    go_wp2_with fail
    go_ret
    exact ⟨rfl, below_call B4.out p1.b⟩
  · have hOut : outB k c r l s k c r l s = true := outB_self k c r l s
    have fD0 := RD3.out.cell (k := 0) rfl
    have fD1 := RD3.out.cell (k := 1) rfl
    have fD2 := RD3.out.cell (k := 2) rfl
    have fD3 := RD3.out.cell (k := 3) rfl
    have fD4 := RD3.out.cell (k := 4) rfl
    have fD5 := RD3.out.cell (k := 5) rfl
    go_upto_region 15 with (fail)
    clear fD0 fD1 fD2 fD3 fD4 fD5
    have HT1 := hide (show TrAt W3 W3.heap.size A n cap l from ⟨h.out.len, h.out.cap, h.out.most, h.out.nil_, ((h.out.below B3.out).see.more B3.out.size), h.out.lt⟩)
    have hr1 := hr
    have fX0 := fun p : After W3 => after_cell (RX3.out.cell (k := 0) rfl) p
    have fX1 := fun p : After W3 => after_cell (RX3.out.cell (k := 1) rfl) p
    have fX2 := fun p : After W3 => after_cell (RX3.out.cell (k := 2) rfl) p
    have fX3 := fun p : After W3 => after_cell (RX3.out.cell (k := 3) rfl) p
    have fX4 := fun p : After W3 => after_cell (RX3.out.cell (k := 4) rfl) p
    have fX5 := fun p : After W3 => after_cell (RX3.out.cell (k := 5) rfl) p
    have fY0 := fun p : After W3 => after_cell (RY3.out.cell (k := 0) rfl) p
    have fY1 := fun p : After W3 => after_cell (RY3.out.cell (k := 1) rfl) p
    have fY2 := fun p : After W3 => after_cell (RY3.out.cell (k := 2) rfl) p
    have fY3 := fun p : After W3 => after_cell (RY3.out.cell (k := 3) rfl) p
    have fY4 := fun p : After W3 => after_cell (RY3.out.cell (k := 4) rfl) p
    have fY5 := fun p : After W3 => after_cell (RY3.out.cell (k := 5) rfl) p
    have fD0 := fun p : After W3 => after_cell (RD3.out.cell (k := 0) rfl) p
    have fD1 := fun p : After W3 => after_cell (RD3.out.cell (k := 1) rfl) p
    have fD2 := fun p : After W3 => after_cell (RD3.out.cell (k := 2) rfl) p
    have fD3 := fun p : After W3 => after_cell (RD3.out.cell (k := 3) rfl) p
    have fD4 := fun p : After W3 => after_cell (RD3.out.cell (k := 4) rfl) p
    have fD5 := fun p : After W3 => after_cell (RD3.out.cell (k := 5) rfl) p
    have TA := hide (show TrAt W3 W3.heap.size A n cap l from ⟨h.out.len, h.out.cap, h.out.most, h.out.nil_, ((h.out.below B3.out).see.more B3.out.size), h.out.lt⟩)
    have TB := hide (show TrAt W3 W3.heap.size A' n' cap' l' from ⟨h'.out.len, h'.out.cap, h'.out.most, h'.out.nil_, ((h'.out.below B3.out).see.more B3.out.size), h'.out.lt⟩)
    have C1 := hide (fun p : After W3 => dsame_out k c r A n cap l s k' c' r' A' n' cap' l' s' p.w (hide (TA.out.call p.b)) (hide (TB.out.call p.b)) hr hr')
    have C2 := hide (fun p : After W3 => rsame_out k c r A n cap l s k' c' r' A' n' cap' l' s' p.w (hide (TA.out.call p.b)) (hide (TB.out.call p.b)) hr hr')
    have c3 := fun p : After W3 => dsame_out k c r A n cap l s k c r A n cap l s p.w (hide (TA.out.call p.b)) (hide (HT1.out.call p.b)) hr hr1
    simp only [hOut] at c3
    have C3 := hide c3
    clear c3 hOut
    obtain ⟨b1, hb1'⟩ : ∃ b, outB k c r l s k' c' r' l' s' = b := ⟨_, rfl⟩
    have E1 := hide (fun p : After W3 => dends_out k c r A n cap s p.w)
    have E2 := hide (fun p : After W3 => rends_out k c r A n cap s p.w)
    have E3 := hide (fun p : After W3 => dends_out k c r A n cap s p.w)
    have E4 := hide (fun p : After W3 => rends_out k c r A n cap s p.w)
    have y1 := eqb (outB k c r l s k' c' r' l' s')
    have y2 := eqb (endB k)
    have y3 := eqb (endB k)
    clear hb1'
    refine wp_region_after (by kernel_rfl) (by kernel_rfl) ?_
    repeat (go_big_quiet_step ((first
      | (go_at_call 13; with_reducible exact after_of (C1.out _))
      | (go_at_call 11; with_reducible exact after_of (C2.out _))
      | (go_at_call 13; with_reducible exact after_of (C3.out _))
      | (go_at_call 14; with_reducible exact after_of (E1.out _))
      | (go_at_call 15; with_reducible exact after_of (E2.out _))
      | (go_at_call 14; with_reducible exact after_of (E3.out _))
      | (go_at_call 15; with_reducible exact after_of (E4.out _)))))
    refine wpQuiet_nil ?_
    intro _ hw'
    obtain ⟨p1, hw''⟩ := hw'
    subst hw''
    go_wp2_with fail
    go_ret
    exact ⟨rfl, below_call B3.out p1.b⟩
end Go.Proofs.YtipjeihfhnilcaaDoor
end

section
/-
  What an outcome that came in gives: its numbers, its value, its trace in memory. No function of the program is named here.
-/
namespace Go.Proofs.YtipjeihfhnilcaaDoor
open Go.Joins Go.ChangeShapes Go.WideShapes Go.ChangeAt Go.RowKit Go.Deep

section
variable {H : Type} {enc : TypeId × Value → H} {W : World} {held : Bool}
/-- A slice whose elements lie in K cells each, read element by element. -/
theorem open_flatm {P : Program} {α : Type} {f : α → List Value} {Q : α → Prop} {K : Nat} {t e : TypeId} (hf : ∀ a, (f a).length = K) (hK : 0 < K) (ht : P.underlying t = some (.slice e)) (hC : P.cellsOf e = K)
    (hel : ∀ (cs : List Value) (y : DataW H × List MemPlace) (n : Nat), cs.length = K → DataW.trod enc P W 0 (fun _ => true) held n e cs = some y → ∃ a, cs = f a ∧ Q a)
    {fuel : Nat} {cs : List Value} {x : DataW H × List MemPlace} (h : DataW.trod enc P W 0 (fun _ => true) held fuel t cs = some x) :
    ∃ (A : Option Addr) (n c : Nat) (l : List α), cs = [.slice A n c] ∧ (A = none → c = 0) ∧ l.length = n ∧ n ≤ c ∧ n ≤ 9223372036854775807 ∧ Sees W W.heap.size A (l.flatMap f) ∧ ∀ a ∈ l, Q a := by
  rcases open_slice ht h with ⟨hcs, hx⟩ | ⟨a, len, cap, m, n, D, Pl, hcs, _, hlc, hm, hmm, hx, hi⟩
  · exact ⟨none, 0, 0, [], hcs, fun _ => rfl, rfl, Nat.le_refl _, by omega, Sees.nil_ _ _ _, (fun a h => by cases h)⟩
  · simp only [if_true] at hmm
    subst hmm
    have hel2 : ∀ i, i < len → ∃ u : α, Q u ∧ ∀ r, r < K → W.cell? (a.add (i * K + r)) = (f u)[r]? := by
      intro i hlt
      obtain ⟨cs', hc, ht'⟩ := hi i (by omega)
      rw [hC] at hc
      obtain ⟨_, hcl, hat⟩ := World.cells?_some hc
      obtain ⟨u, hu, hq⟩ := hel cs' _ n hcl ht'
      refine ⟨u, hq, fun r hr => ?_⟩
      have := hat r hr
      rw [Go.Deep.add_add] at this
      rw [this, hu]
    have hex : ∀ k, k ≤ len → ∃ l : List α, l.length = k ∧ (∀ u ∈ l, Q u) ∧ ∀ i (u : α), l[i]? = some u → ∀ r, r < K → W.cell? (a.add (i * K + r)) = (f u)[r]? := by
      intro k
      induction k with
      | zero => exact fun _ => ⟨[], rfl, (fun u h => by cases h), (fun i u hu => by simp at hu)⟩
      | succ k ih =>
        intro hk
        obtain ⟨l, hl, hq, hcl⟩ := ih (by omega)
        obtain ⟨u, hqu, hu⟩ := hel2 k (by omega)
        refine ⟨l ++ [u], by simp [hl], (fun v hv => ?_), fun i v hv => ?_⟩
        · rcases List.mem_append.1 hv with h | h
          · exact hq v h
          · simp at h; subst h; exact hqu
        · rcases Nat.lt_or_ge i k with h2 | h2
          · rw [List.getElem?_append_left (by omega)] at hv
            exact hcl i v hv
          · rw [List.getElem?_append_right (by omega)] at hv
            obtain rfl : i = k := by
              rcases Nat.lt_or_ge (i - l.length) 1 with h3 | h3
              · omega
              · rw [List.getElem?_eq_none (by simpa using h3)] at hv; simp at hv
            rw [hl, Nat.sub_self] at hv
            simp at hv
            subst hv
            exact hu
    obtain ⟨l, hl, hq, hcl⟩ := hex len (Nat.le_refl _)
    refine ⟨some a, len, m, l, hcs, (fun h => by cases h), hl, hlc, (by unfold maxLen at hm; omega), ?_, hq⟩
    intro k u hu
    have hlen := flat_len hf l
    have hk : k < l.length * K := by
      rcases Nat.lt_or_ge k (l.length * K) with h2 | h2
      · exact h2
      · rw [List.getElem?_eq_none (by rw [hlen]; exact h2)] at hu; simp at hu
    have hq1 : k / K < l.length := Nat.div_lt_of_lt_mul (by rw [Nat.mul_comm]; exact hk)
    have hr1 : k % K < K := Nat.mod_lt _ hK
    have hdm : k / K * K + k % K = k := Nat.div_add_mod' k K
    have hv := List.getElem?_eq_getElem hq1
    have hfa := flat_at hf l (k / K) _ hv (k % K) hr1
    rw [hdm, hu] at hfa
    have hc := hcl (k / K) _ hv (k % K) hr1
    rw [hdm, ← hfa] at hc
    obtain ⟨ab, ao, spot⟩ := a
    have hspot : spot = none := by
      have h0 : 0 < l.length := Nat.pos_of_ne_zero fun e => by rw [e] at hk; simp at hk
      have hc0 := hcl 0 _ (List.getElem?_eq_getElem h0) 0 hK
      rw [List.getElem?_eq_getElem (by rw [hf]; exact hK)] at hc0
      simpa [Addr.add] using World.cell?_spot hc0
    subst hspot
    rw [WideShapes.add_plain] at hc
    exact ⟨ab, ao, rfl, World.block_lt_of_cell? _ _ hc, hc⟩
set_option maxRecDepth 100000 in
theorem val_of0 {base : Nat} {sp : Nat → Bool} {fuel : Nat} {cs : List Value} {x : DataW H × List MemPlace} (f0 f1 : Field) (he : Tryd.prog.underlying 33 = some (.struct #[f0, f1])) (h0 : f0.type = 31) (h1 : f1.type = 31) (hone : oneCellFields Tryd.prog #[f0, f1] = true) (hl : cs.length = 2)
    (h : DataW.trod enc Tryd.prog W base sp held fuel 33 cs = some x) : ∃ V, cs = vcell V ∧ V < two128 := by
  obtain ⟨ys, n, _, hx, _, hyl, hg⟩ := DataW.trod_struct he h
  match cs, hl, ys, hyl with
  | [c0, c1], _, [y0, y1], _ =>
    have g0 := hg 0 f0 rfl
    have g1 := hg 1 f1 rfl
    obtain ⟨o0, k0⟩ := hone_of hone 0 f0 rfl
    obtain ⟨o1, k1⟩ := hone_of hone 1 f1 rfl
    rw [o0, k0, h0] at g0
    rw [o1, k1, h1] at g1
    obtain ⟨n0, e0, _, w0⟩ := DataW.trod_int (x := y0) Tryd.underlying31 (by simpa using g0)
    obtain ⟨n1, e1, _, w1⟩ := DataW.trod_int (x := y1) Tryd.underlying31 (by simpa using g1)
    simp only [List.cons.injEq, and_true] at e0 e1
    subst e0 e1
    have ba := bounds_u64 w0
    have bb := bounds_u64 w1
    exact ⟨num n0 n1, by unfold vcell; rw [lo_num ba.1 ba.2 bb.1 bb.2, hi_num ba.1 ba.2 bb.1 bb.2], num_lt ba.2 bb.2⟩
set_option maxRecDepth 100000 in
theorem val_of {base : Nat} {sp : Nat → Bool} {fuel : Nat} {cs : List Value} {x : DataW H × List MemPlace} (hl : cs.length = 2)
    (h : DataW.trod enc Tryd.prog W base sp held fuel 33 cs = some x) : ∃ V, cs = vcell V ∧ V < two128 :=
  val_of0 _ _ Tryd.underlying33 rfl rfl (by kernel_rfl) hl h
set_option maxRecDepth 100000 in
theorem open_tr {fuel : Nat} {cs : List Value} {x : DataW H × List MemPlace} (h : DataW.trod enc Tryd.prog W 0 (fun _ => true) held fuel 34 cs = some x) : ∃ (A : Option Addr) (n c : Nat) (l : List Nat), cs = [.slice A n c] ∧ TrAt W W.heap.size A n c l := by
  obtain ⟨A, n, c, l, e, h1, h2, h3, h4, h5, h6⟩ := open_flatm (f := vcell) (Q := fun V => V < two128) vcell_len (by decide) Tryd.underlying34 (by kernel_rfl) (fun cs y n hl ht => val_of hl ht) h
  exact ⟨A, n, c, l, e, h2, h3, h4, h1, h5, h6⟩
theorem array6 {α : Type} {cs : Array α} (h : cs.size = 6) : ∃ c0 c1 c2 c3 c4 c5, cs = #[c0, c1, c2, c3, c4, c5] := by
  obtain ⟨l⟩ := cs
  match l, h with
  | [c0, c1, c2, c3, c4, c5], _ => exact ⟨c0, c1, c2, c3, c4, c5, rfl⟩
set_option maxRecDepth 100000 in
theorem out_of0 {r : Reach} {b0 : Nat} {v : Value} {d : DataW H} {p : List MemPlace} (f0 f1 f2 f3 f4 : Field) (hs : Tryd.prog.underlying 36 = some (.struct #[f0, f1, f2, f3, f4]))
    (h0 : f0.type = 3) (h1 : f1.type = 31) (h2 : f2.type = 33) (h3 : f3.type = 34) (h4 : f4.type = 3) (o0 : f0.offset = 0) (o1 : f1.offset = 1) (o2 : f2.offset = 2) (o3 : f3.offset = 4) (o4 : f4.offset = 5)
    (hv : Value.okWide Tryd.prog W r b0 36 v) (h : DataW.Trod enc Tryd.prog W 0 (fun _ => true) held 36 v d p) :
    ∃ (k c : Int) (q : Nat) (A : Option Addr) (n cap : Nat) (l : List Nat) (s : Int), v = ov k c q A n cap s ∧ TrAt W W.heap.size A n cap l ∧ q < two128 ∧ (-9223372036854775808 ≤ k ∧ k ≤ 9223372036854775807) ∧ (0 ≤ c ∧ c ≤ 18446744073709551615) ∧ (-9223372036854775808 ≤ s ∧ s ≤ 9223372036854775807) := by
  obtain ⟨cs, rfl, hsz⟩ := okWide_struct hs hv
  obtain ⟨c0, c1, c2, c3, c4, c5, rfl⟩ := array6 (hsz.trans (by kernel_rfl))
  obtain ⟨fuel, hf⟩ := h
  obtain ⟨xs, n, _, _, _, hlen, hg⟩ := DataW.trod_struct hs hf
  match xs, hlen with
  | [y0, y1, y2, y3, y4], _ =>
    have g0 := hg 0 f0 rfl
    have g1 := hg 1 f1 rfl
    have g2 := hg 2 f2 rfl
    have g3 := hg 3 f3 rfl
    have g4 := hg 4 f4 rfl
    rw [h0, o0, show Tryd.prog.cellsOf 3 = 1 by kernel_rfl] at g0
    rw [h1, o1, show Tryd.prog.cellsOf 31 = 1 by kernel_rfl] at g1
    rw [h2, o2, show Tryd.prog.cellsOf 33 = 2 by kernel_rfl] at g2
    rw [h3, o3, show Tryd.prog.cellsOf 34 = 1 by kernel_rfl] at g3
    rw [h4, o4, show Tryd.prog.cellsOf 3 = 1 by kernel_rfl] at g4
    obtain ⟨k, e0, _, w0⟩ := DataW.trod_int (x := y0) Tryd.underlying3 (by simpa [Value.cells] using g0)
    obtain ⟨c, e1, _, w1⟩ := DataW.trod_int (x := y1) Tryd.underlying31 (by simpa [Value.cells] using g1)
    obtain ⟨q, e2, hq⟩ := val_of (x := y2) (cs := [c2, c3]) rfl (by simpa [Value.cells] using g2)
    obtain ⟨A, m, cap, l, e3, ht⟩ := open_tr (x := y3) (cs := [c4]) (by simpa [Value.cells] using g3)
    obtain ⟨s, e4, _, w4⟩ := DataW.trod_int (x := y4) Tryd.underlying3 (by simpa [Value.cells] using g4)
    unfold vcell at e2
    simp only [List.cons.injEq, and_true] at e0 e1 e2 e3 e4
    obtain ⟨e2, e5⟩ := e2
    subst e0 e1 e2 e3 e4 e5
    exact ⟨k, c, q, A, m, cap, l, s, rfl, ht, hq, bounds_i64 w0, bounds_u64 w1, bounds_i64 w4⟩
set_option maxRecDepth 100000 in
theorem open_out {r : Reach} {b0 : Nat} {v : Value} {d : DataW H} {p : List MemPlace}
    (hv : Value.okWide Tryd.prog W r b0 36 v) (h : DataW.Trod enc Tryd.prog W 0 (fun _ => true) held 36 v d p) :
    ∃ (k c : Int) (q : Nat) (A : Option Addr) (n cap : Nat) (l : List Nat) (s : Int), v = ov k c q A n cap s ∧ TrAt W W.heap.size A n cap l ∧ q < two128 ∧ (-9223372036854775808 ≤ k ∧ k ≤ 9223372036854775807) ∧ (0 ≤ c ∧ c ≤ 18446744073709551615) ∧ (-9223372036854775808 ≤ s ∧ s ≤ 9223372036854775807) :=
  out_of0 _ _ _ _ _ Tryd.underlying36 rfl rfl rfl rfl rfl rfl rfl rfl rfl rfl hv h
end
end Go.Proofs.YtipjeihfhnilcaaDoor
end

section
/-
  SirrunSame: for every input the law returns true, and each argument reads behind the call as it did before, where the listed table lies as its initialiser lays it; the card ties that table to the program's text. No other condition: every input that the row speaks of.
-/
namespace Go.Proofs.YtipjeihfhnilcaaDoor
open Go.ChangeShapes Go.WideShapes Go.ChangeAt Go.RowKit

namespace rowSirrunSame
set_option maxRecDepth 100000 in
theorem contract (H : Type) (enc : TypeId × Value → H) (W : World) (base : Nat) (args : Array Value) (ds gs : List (DataW H)) (before : List MemPlace)
    (hval : ∀ (j : Nat) t v, Tryd.f5.params[j]? = some t → args[j]? = some v → Value.okWide Tryd.prog W .any base t v)
    (hW : DataW.Whole enc Tryd.prog Tryd.f5.params.toList Rows.sirrunSameSpec.vars false W args.toList ds gs before) (hL : laidMetH Tryd.prog laidOne W) :
    Calls Tryd.prog 5 args W fun e W' => ∃ v, e = .returned v ∧ Rows.sirrunSameSpec.post enc Tryd.prog Tryd.f5 false true false false W args v W' := by
  have hW' := hW
  obtain ⟨p, q, hA, hV, rfl, hfz, hnd⟩ := hW
  have hA : DataW.TrodAll enc Tryd.prog W 0 (fun _ => true) true Tryd.f5.params.toList args.toList ds p := hA
  rw [Tryd.params5] at hA hval
  obtain ⟨v0, vs0, d0, ds0, p0, q0, hargs, rfl, rfl, h0, r0⟩ := trodAll_cons hA
  obtain ⟨v1, vs1, d1, ds1, p1, q1, rfl, rfl, rfl, h1, r1⟩ := trodAll_cons r0
  obtain ⟨v2, vs2, d2, ds2, p2, q2, rfl, rfl, rfl, h2, r2⟩ := trodAll_cons r1
  obtain ⟨rfl, rfl, rfl⟩ := trodAll_nil r2
  obtain rfl : args = #[v0, v1, v2] := by cases args; simp_all
  obtain ⟨k0, c0, q0, A0, n0, cap0, l0, s0, rfl, ht0, hq0, hk0, hc0, hs0⟩ := open_out (hval 0 36 v0 rfl rfl) h0
  obtain ⟨k1, c1, q1, A1, n1, cap1, l1, s1, rfl, ht1, hq1, hk1, hc1, hs1⟩ := open_out (hval 1 36 v1 rfl rfl) h1
  obtain ⟨a2, rfl, _, _, w2⟩ := open_int Tryd.underlying5 (hval 2 5 v2 rfl rfl) h2
  have b2 := bounds_u8 w2
  refine (same8_walk k0 c0 q0 A0 n0 cap0 l0 s0 k1 c1 q1 A1 n1 cap1 l1 s1 a2 W (hide ht0) (hide ht1) hq0 hq1 hk0.1 hk0.2 hc0.1 hc0.2 hs0.1 hs0.2 b2.1 b2.2 (hide (shapes_of_laid hL))).mono fun e W' ⟨he, hB⟩ => ⟨_, he, ?_⟩
  exact law_post laid_out (by decide +kernel) rfl rfl Tryd.underlying4 rfl hW' hB

set_option maxRecDepth 100000 in
theorem lifted (os : Os) (started : os.Started) (H : Type) (enc : TypeId × Value → H) :
    ReturnsInHanded {} Tryd.checked os 5 .any (fun w args => (Rows.sirrunSameSpec.pre enc Tryd.prog Tryd.f5 [] false w args ∧ laidMetH Tryd.prog laidOne w) ∧ sizedMet enc Tryd.prog Tryd.f5 (OpenSpec.ofChange Rows.sirrunSameSpec) false w args)
      (Rows.sirrunSameSpec.post enc Tryd.prog Tryd.f5 false true false false) := by
  refine returnsInHanded_of_change_and (C := Tryd.checked) (X := fun w _ => laidMetH Tryd.prog laidOne w) (fun _ _ _ hh h => h.of_heap hh) own_knob started (by kernel_rfl) Tryd.func5
    (ChangeSpec.witness_shaped (enc := enc) (C := Tryd.checked) (os := os) (X := fun w _ => laidMetH Tryd.prog laidOne w) false (World.doorLaid Tryd.prog 400 os) #[.agg #[.int .i64 0, .int .u64 0, .int .u64 0, .int .u64 0, .slice none 0 0, .int .i64 0], .agg #[.int .i64 0, .int .u64 0, .int .u64 0, .int .u64 0, .slice none 0 0, .int .i64 0], .int .u8 0] 8 rfl (World.shaped_of_RefB (by kernel_rfl) (by kernel_rfl)) (by kernel_rfl) (by kernel_rfl) (by kernel_rfl) (door_met os _)) ?_
  intro W base args ds gs before hval hW _ _ hL _
  exact contract H enc W base args ds gs before hval hW hL

theorem row : Rows.SirrunSameSaid :=
  OpenClaim.holds_of_wide 5 Tryd.f5 rfl rfl rfl rfl rfl rfl rfl ⟨rfl, rfl, rfl, rfl, rfl⟩ rfl rfl rfl rfl rfl (by kernel_rfl) Tryd.func5 (by kernel_rfl)
    (of_decide_eq_true (by kernel_rfl)) (by unfold Func.isWrapper; first | (rw [if_pos (by decide +kernel)]; kernel_rfl) | (rw [if_neg (by decide +kernel)]; exact ⟨rfl, rfl⟩))
    (fun os started H enc _ => lifted os started H enc)

theorem proved : Rows.SirrunSameCardSaid :=
  Claim7.holds_tied_plain_at .later [] [.data] true (true, "7214d98ae4d8f6f134295dcbcb4eafae30b3741b3e4c3b827d3dac806e496980") false
    row (fun _ h => by cases h) (by kernel_rfl) (fun _ h => by cases h) sirrunSame_row_tie rfl ⟨rfl, rfl⟩ (by kernel_rfl) rfl
    (fun f fn hf hfn => by
      obtain rfl : f = 5 := Option.some.inj ((show Tryd.prog.funcNamed "spillframe/spillframelaw08.SirrunSame" = some 5 by kernel_rfl).symm.trans hf) |>.symm
      obtain rfl : fn = Tryd.f5 := (Option.some.inj (Tryd.func5.symm.trans hfn)).symm
      exact ⟨by kernel_rfl, fun j t ht => by
        rw [Tryd.params5] at ht
        have hm : t ∈ [36, 36, 5] := by simpa using Array.mem_of_getElem? ht
        have hall : ([36, 36, 5].all fun u => !Tryd.prog.wantsStandIn u) = true := by kernel_rfl
        exact (show Tryd.prog.wantsStandIn t = false by simpa using List.all_eq_true.1 hall t hm)⟩)
    (by kernel_rfl)
end rowSirrunSame
end Go.Proofs.YtipjeihfhnilcaaDoor
end
