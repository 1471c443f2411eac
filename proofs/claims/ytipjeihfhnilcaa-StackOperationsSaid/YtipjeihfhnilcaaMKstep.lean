import Derived.Test.YtipjeihfhnilcaaMKleft
import Derived.Test.YtipjeihfhnilcaaMKld
import Derived.Test.YtipjeihfhnilcaaMKrmove
import Derived.Test.YtipjeihfhnilcaaMKsame
import Derived.Test.YtipjeihfhnilcaaMVeq
import Derived.BigRegion
import Derived.Deep.DeepFit
import Derived.Deep.RegionLaw
import Derived.Deep.DeepCutAuto
import Derived.Deep.CutBlock
set_option linter.unusedVariables false
set_option linter.unusedSimpArgs false
section
/-
  The contract of step: one operation on two equal stacks leaves two equal stacks, and the truth value is true; a choice is taken away. Conditions: those of the types; the stacks are such for which Check is true.
-/
set_option linter.unusedVariables false
set_option linter.unusedSimpArgs false
namespace Go.Proofs.Ytipjeihfhnilcaa
open Go.RowKit
attribute [local go_sem ↓] Go.wp_at_zero Go.wp_at_succ

theorem grown_put {w w' : World} {g p j : Nat} {u : Value} (h : w.grownBy w' (some g)) (hp : w.heap.size ≤ p) : w.grownBy (w'.setCell ⟨p, j, none⟩ u) (some g) :=
  ⟨h.os, h.tape, h.output, by simpa [World.setCell] using h.size, fun i hi hne => (Below.heap_setCell _ _ _ _ (by simp; omega)).trans (h.block i hi hne)⟩
theorem below4 (w : World) (o p q r : Obj) : Below w.heap.size w ((((w.alloc o).alloc p).alloc q).alloc r) := (below3 w o p q).alloc (by simp; omega) _
theorem pick7 {m : Nat} {z : Int} (h : (m : Int) < 7) : ∃ n : Int, ([.int .i64 1, .int .i64 2, .int .i64 4, .int .i64 8, .int .i64 16, .int .i64 z, .int .i64 3] : List Value)[m]? = some (.int .i64 n) := by
  rcases (show m = 0 ∨ m = 1 ∨ m = 2 ∨ m = 3 ∨ m = 4 ∨ m = 5 ∨ m = 6 by omega) with rfl | rfl | rfl | rfl | rfl | rfl | rfl <;> exact ⟨_, rfl⟩
/-- What step gives. -/
def StepPost (r0 g : Nat) (w : World) (e : Ending) (w' : World) : Prop :=
  ∃ (T : Sk) (x1 : Option Addr) (y1 : Nat) (x2 : Option Addr) (y2 : Nat) (p1 : Option Addr) (q1 : Nat) (p2 : Option Addr) (q2 : Nat), e = .returned (.tuple #[sv x1 y1 x2 y2 T, sv p1 q1 p2 q2 T, .bool true]) ∧ StkAt w' w'.heap.size x1 y1 x2 y2 T ∧ StkAt w' w'.heap.size p1 q1 p2 q2 T ∧ CodesM r0 w' g ∧ w.grownBy w' (some g)
/-- What the switch leaves. -/
def StepCut (S : Sk) (a1 : Option Addr) (k1 : Nat) (a2 : Option Addr) (k2 : Nat) (b1 : Option Addr) (l1 : Nat) (b2 : Option Addr) (l2 : Nat) (r0 g : Nat) (w : World) (gp : Nat) (ve vf vp vq : Value) (wx : World) : Prop :=
  ∃ (E : Int) (b : Bool) (T : Sk) (x1 : Option Addr) (y1 : Nat) (x2 : Option Addr) (y2 : Nat) (p1 : Option Addr) (q1 : Nat) (p2 : Option Addr) (q2 : Nat), ve = .int .i64 E ∧ vf = .int .i64 E ∧ vp = .bool b ∧ vq = .bool b ∧
    Row wx w.heap.size 29 [.slice a1 S.bs.length k1, .slice a2 S.bs.length k2, .int .i64 (S.sp : Int)] ∧ Row wx (w.heap.size + 1) 29 [.slice b1 S.bs.length l1, .slice b2 S.bs.length l2, .int .i64 (S.sp : Int)] ∧ Row wx (w.heap.size + 2) 29 [.slice none 0 0, .slice none 0 0, .int .i64 0] ∧ Row wx (w.heap.size + 3) 29 [.slice none 0 0, .slice none 0 0, .int .i64 0] ∧
    Row wx gp 29 [.slice x1 T.bs.length y1, .slice x2 T.bs.length y2, .int .i64 (T.sp : Int)] ∧ Row wx (gp + 1) 29 [.slice p1 T.bs.length q1, .slice p2 T.bs.length q2, .int .i64 (T.sp : Int)] ∧
    StkAt wx wx.heap.size a1 k1 a2 k2 S ∧ StkAt wx wx.heap.size b1 l1 b2 l2 S ∧ StkAt wx wx.heap.size x1 y1 x2 y2 T ∧ StkAt wx wx.heap.size p1 q1 p2 q2 T ∧ CodesM r0 wx g ∧ w.grownBy wx (some g)
theorem same_b (b : Bool) : (b == b) = true := by cases b <;> rfl

set_option maxRecDepth 100000 in
set_option maxHeartbeats 16000000 in
theorem step_any {a1 a2 b1 b2 : Option Addr} {k1 k2 l1 l2 : Nat} {S : Sk} (r0 g : Nat) (off size : Int) (w : World) (ho : isI off) (hA : Hid (StkAt w w.heap.size a1 k1 a2 k2 S)) (hB : Hid (StkAt w w.heap.size b1 l1 b2 l2 S)) (hC : Hid (CodesM (r0 + 1) w g)) :
    Calls Try.prog 13 #[.pointer (some ⟨g, 0, none⟩), sv a1 k1 a2 k2 S, sv b1 l1 b2 l2 S, .int .i64 off, .int .i64 size] w (StepPost r0 g w) := by
  obtain ⟨W0, hW0⟩ : ∃ W, (((w.alloc (.cells #[.slice a1 S.bs.length k1, .slice a2 S.bs.length k2, .int .i64 (S.sp : Int)] 29)).alloc (.cells #[.slice b1 S.bs.length l1, .slice b2 S.bs.length l2, .int .i64 (S.sp : Int)] 29)).alloc (.cells #[.slice none 0 0, .slice none 0 0, .int .i64 0] 29)).alloc (.cells #[.slice none 0 0, .slice none 0 0, .int .i64 0] 29) = W := ⟨_, rfl⟩
  have HW0 := hide hW0
  have RA0 := hide (show Row W0 (w.heap.size) 29 [.slice a1 S.bs.length k1, .slice a2 S.bs.length k2, .int .i64 (S.sp : Int)] by rw [← hW0]; exact ((((Row.new w 29 [.slice a1 S.bs.length k1, .slice a2 S.bs.length k2, .int .i64 (S.sp : Int)]).alloc _).alloc _).alloc _))
  have RB0 := hide (show Row W0 (w.heap.size + 1) 29 [.slice b1 S.bs.length l1, .slice b2 S.bs.length l2, .int .i64 (S.sp : Int)] by rw [← hW0]; exact (((Row.new (w.alloc (.cells #[.slice a1 S.bs.length k1, .slice a2 S.bs.length k2, .int .i64 (S.sp : Int)] 29)) 29 [.slice b1 S.bs.length l1, .slice b2 S.bs.length l2, .int .i64 (S.sp : Int)]).alloc _).alloc _).at_ (by simp))
  have RY0 := hide (show Row W0 (w.heap.size + 2) 29 [.slice none 0 0, .slice none 0 0, .int .i64 0] by rw [← hW0]; exact ((Row.new ((w.alloc (.cells #[.slice a1 S.bs.length k1, .slice a2 S.bs.length k2, .int .i64 (S.sp : Int)] 29)).alloc (.cells #[.slice b1 S.bs.length l1, .slice b2 S.bs.length l2, .int .i64 (S.sp : Int)] 29)) 29 [.slice none 0 0, .slice none 0 0, .int .i64 0]).alloc _).at_ (by simp))
  have RZ0 := hide (show Row W0 (w.heap.size + 3) 29 [.slice none 0 0, .slice none 0 0, .int .i64 0] by rw [← hW0]; exact (Row.new (((w.alloc (.cells #[.slice a1 S.bs.length k1, .slice a2 S.bs.length k2, .int .i64 (S.sp : Int)] 29)).alloc (.cells #[.slice b1 S.bs.length l1, .slice b2 S.bs.length l2, .int .i64 (S.sp : Int)] 29)).alloc (.cells #[.slice none 0 0, .slice none 0 0, .int .i64 0] 29)) 29 [.slice none 0 0, .slice none 0 0, .int .i64 0]).at_ (by simp))
  have B0 := hide (show Below w.heap.size w W0 by rw [← hW0]; exact below4 w _ _ _ _)
  have Z0 := hide (show W0.heap.size = w.heap.size + 4 by rw [← hW0]; simp)
  clear hW0
  have Ca := hide (hC.out.below B0.out)
  have Sa := hide (hA.out.call B0.out)
  have Sb := hide (hB.out.call B0.out)
  have G0 := hide (grown_below B0.out (some g))
  go_enter Try.func13, Try.ntmps13
  go_upto_region 1 with (fail)
  rw [HW0.out]
  have Cb := hide (Ca.out.alloc (.cells #[.int .i64 1, .int .i64 2, .int .i64 4, .int .i64 8, .int .i64 16, .int .i64 size, .int .i64 3] 3))
  obtain ⟨W1, hW1⟩ : ∃ W, W0.alloc (.cells #[.int .i64 1, .int .i64 2, .int .i64 4, .int .i64 8, .int .i64 16, .int .i64 size, .int .i64 3] 3) = W := ⟨_, rfl⟩
  have HW1 := hide hW1
  have RA1 := hide (show Row W1 (w.heap.size) 29 [.slice a1 S.bs.length k1, .slice a2 S.bs.length k2, .int .i64 (S.sp : Int)] by rw [← hW1]; exact RA0.out.alloc _)
  clear RA0
  have RB1 := hide (show Row W1 (w.heap.size + 1) 29 [.slice b1 S.bs.length l1, .slice b2 S.bs.length l2, .int .i64 (S.sp : Int)] by rw [← hW1]; exact RB0.out.alloc _)
  clear RB0
  have RY1 := hide (show Row W1 (w.heap.size + 2) 29 [.slice none 0 0, .slice none 0 0, .int .i64 0] by rw [← hW1]; exact RY0.out.alloc _)
  clear RY0
  have RZ1 := hide (show Row W1 (w.heap.size + 3) 29 [.slice none 0 0, .slice none 0 0, .int .i64 0] by rw [← hW1]; exact RZ0.out.alloc _)
  clear RZ0
  have RL1 := hide (show Row W1 (W0.heap.size) 3 [.int .i64 1, .int .i64 2, .int .i64 4, .int .i64 8, .int .i64 16, .int .i64 size, .int .i64 3] by rw [← hW1]; exact Row.new W0 _ _)
  have Sa1 := hide (show StkAt W1 W1.heap.size a1 k1 a2 k2 S by rw [← hW1]; exact Sa.out.alloc _)
  clear Sa
  have Sb1 := hide (show StkAt W1 W1.heap.size b1 l1 b2 l2 S by rw [← hW1]; exact Sb.out.alloc _)
  clear Sb
  have L1 := hide (show W0.heap.size < W1.heap.size by rw [← hW1]; simp)
  have G1 := hide G0.out.size
  have B1 := hide (show w.grownBy W1 (some g) by rw [← hW1]; exact G0.out.trans (grown_below (below1 _ _) _))
  clear hW1
  rw [HW1.out] at Cb
  go_wp2_with fail
  rw [HW1.out]
  go_fit (next_m g 7 _ Cb (by omega) (by omega))
  rintro e w2 ⟨j, rfl, j0, j1, hC2, hg2, -⟩
  rw [Nat.add_sub_cancel] at hC2
  have RA2 := hide (RA1.out.next Cb.out.codes (by decide) hg2)
  clear RA1
  have RB2 := hide (RB1.out.next Cb.out.codes (by decide) hg2)
  clear RB1
  have RY2 := hide (RY1.out.next Cb.out.codes (by decide) hg2)
  clear RY1
  have RZ2 := hide (RZ1.out.next Cb.out.codes (by decide) hg2)
  clear RZ1
  have RL2 := hide (RL1.out.next Cb.out.codes (by decide) hg2)
  clear RL1
  have Sa2 := hide (Sa1.out.next Cb.out.codes hg2)
  clear Sa1
  have Sb2 := hide (Sb1.out.next Cb.out.codes hg2)
  clear Sb1
  have B2 := hide (B1.out.trans hg2)
  clear B1
  have Cc2 := hide hC2
  clear Cb hC2 hg2
  obtain ⟨m, rfl⟩ : ∃ m : Nat, j = (m : Int) := ⟨j.toNat, by omega⟩
  obtain ⟨n, hcell⟩ := pick7 (z := size) j1
  have fl := RL2.out.cell hcell
  clear hcell
  go_wp2_with fail
  go_fit (next_w g 70 _ Cc2 (by omega) (by omega))
  rintro e w3 ⟨v, rfl, v0, v1, hC3, hg3, -⟩
  have RA3 := hide (RA2.out.next Cc2.out.codes (by decide) hg3)
  clear RA2
  have RB3 := hide (RB2.out.next Cc2.out.codes (by decide) hg3)
  clear RB2
  have RY3 := hide (RY2.out.next Cc2.out.codes (by decide) hg3)
  clear RY2
  have RZ3 := hide (RZ2.out.next Cc2.out.codes (by decide) hg3)
  clear RZ2
  have RL3 := hide (RL2.out.next Cc2.out.codes (by decide) hg3)
  clear RL2
  have Sa3 := hide (Sa2.out.next Cc2.out.codes hg3)
  clear Sa2
  have Sb3 := hide (Sb2.out.next Cc2.out.codes hg3)
  clear Sb2
  have B3 := hide (B2.out.trans hg3)
  clear B2
  have Cc3 := hide hC3
  clear Cc2 hC3 hg3
  clear fl j0 j1
  go_wp2_with fail
  go_fit (next_w g 8 _ Cc3 (by omega) (by omega))
  rintro e w4 ⟨h, rfl, h0, h1, hC4, hg4, -⟩
  have RA4 := hide (RA3.out.next Cc3.out.codes (by decide) hg4)
  clear RA3
  have RB4 := hide (RB3.out.next Cc3.out.codes (by decide) hg4)
  clear RB3
  have RY4 := hide (RY3.out.next Cc3.out.codes (by decide) hg4)
  clear RY3
  have RZ4 := hide (RZ3.out.next Cc3.out.codes (by decide) hg4)
  clear RZ3
  have Sa4 := hide (Sa3.out.next Cc3.out.codes hg4)
  clear Sa3
  have Sb4 := hide (Sb3.out.next Cc3.out.codes hg4)
  clear Sb3
  have B4 := hide (B3.out.trans hg4)
  clear B3
  have Cc4 := hide hC4
  clear Cc3 hC4 hg4
  go_upto_if 36 with (fail)
  go_cut [14] (fun v wx => (∃ kk : Int, isI kk ∧ v = .int .i64 kk) ∧ wx = w4)
  case first =>
    by_cases h7 : h = 7
    · subst h7
      go_wp2_with fail
      go_meet
      exact ⟨⟨off, ho, rfl⟩, rfl⟩
    · have hne : (h == 7) = false := by simpa using h7
      go_wp2_with fail
      go_meet
      exact ⟨⟨_, ⟨by omega, by omega⟩, rfl⟩, rfl⟩
  case rest =>
    obtain ⟨⟨kk, hk, rfl⟩, rfl⟩ := hcut
    clear v0 v1 h0 h1
    go_wp2_with fail
    go_fit (value_m g _ Cc4)
    rintro e w5 ⟨X, rfl, hX, hC5, hg5⟩
    have RA5 := hide (RA4.out.next Cc4.out.codes (by decide) hg5)
    clear RA4
    have RB5 := hide (RB4.out.next Cc4.out.codes (by decide) hg5)
    clear RB4
    have RY5 := hide (RY4.out.next Cc4.out.codes (by decide) hg5)
    clear RY4
    have RZ5 := hide (RZ4.out.next Cc4.out.codes (by decide) hg5)
    clear RZ4
    have Sa5 := hide (Sa4.out.next Cc4.out.codes hg5)
    clear Sa4
    have Sb5 := hide (Sb4.out.next Cc4.out.codes hg5)
    clear Sb4
    have B5 := hide (B4.out.trans hg5)
    clear B4
    have Cc5 := hide hC5
    clear Cc4 hC5 hg5
    go_upto_region 6 with (fail)
    obtain ⟨W6, hW6⟩ : ∃ W, w5.alloc (.cells #[.int .u64 (lo X), .int .u64 (hi X)] 39) = W := ⟨_, rfl⟩
    have HW6 := hide hW6
    have RA6 := hide (show Row W6 (w.heap.size) 29 [.slice a1 S.bs.length k1, .slice a2 S.bs.length k2, .int .i64 (S.sp : Int)] by rw [← hW6]; exact RA5.out.alloc _)
    clear RA5
    have RB6 := hide (show Row W6 (w.heap.size + 1) 29 [.slice b1 S.bs.length l1, .slice b2 S.bs.length l2, .int .i64 (S.sp : Int)] by rw [← hW6]; exact RB5.out.alloc _)
    clear RB5
    have RY6 := hide (show Row W6 (w.heap.size + 2) 29 [.slice none 0 0, .slice none 0 0, .int .i64 0] by rw [← hW6]; exact RY5.out.alloc _)
    clear RY5
    have RZ6 := hide (show Row W6 (w.heap.size + 3) 29 [.slice none 0 0, .slice none 0 0, .int .i64 0] by rw [← hW6]; exact RZ5.out.alloc _)
    clear RZ5
    have RV6 := hide (show Row W6 (w5.heap.size) 39 [.int .u64 (lo X), .int .u64 (hi X)] by rw [← hW6]; exact Row.new w5 _ _)
    have Sa6 := hide (show StkAt W6 W6.heap.size a1 k1 a2 k2 S by rw [← hW6]; exact Sa5.out.alloc _)
    clear Sa5
    have Sb6 := hide (show StkAt W6 W6.heap.size b1 l1 b2 l2 S by rw [← hW6]; exact Sb5.out.alloc _)
    clear Sb5
    have Cc6 := hide (show CodesM r0 W6 g by rw [← hW6]; exact Cc5.out.alloc _)
    clear Cc5
    have L6 := hide (show w5.heap.size < W6.heap.size by rw [← hW6]; simp)
    have G6 := hide B5.out.size
    have B6 := hide (show w.grownBy W6 (some g) by rw [← hW6]; exact B5.out.trans (grown_below (below1 _ _) _))
    clear hW6
    rw [HW6.out]
    have LV := hide L6.out
    go_upto_region 7 with (fail)
    have DP0 := hide (show w.heap.size + 3 < W6.heap.size from RZ6.out.lt)
    obtain ⟨W7, hW7⟩ : ∃ W, W6.alloc (.cells #[.slice none 0 0, .slice none 0 0, .int .i64 0] 29) = W := ⟨_, rfl⟩
    have HW7 := hide hW7
    have RA7 := hide (show Row W7 (w.heap.size) 29 [.slice a1 S.bs.length k1, .slice a2 S.bs.length k2, .int .i64 (S.sp : Int)] by rw [← hW7]; exact RA6.out.alloc _)
    clear RA6
    have RB7 := hide (show Row W7 (w.heap.size + 1) 29 [.slice b1 S.bs.length l1, .slice b2 S.bs.length l2, .int .i64 (S.sp : Int)] by rw [← hW7]; exact RB6.out.alloc _)
    clear RB6
    have RY7 := hide (show Row W7 (w.heap.size + 2) 29 [.slice none 0 0, .slice none 0 0, .int .i64 0] by rw [← hW7]; exact RY6.out.alloc _)
    clear RY6
    have RZ7 := hide (show Row W7 (w.heap.size + 3) 29 [.slice none 0 0, .slice none 0 0, .int .i64 0] by rw [← hW7]; exact RZ6.out.alloc _)
    clear RZ6
    have RV7 := hide (show Row W7 (w5.heap.size) 39 [.int .u64 (lo X), .int .u64 (hi X)] by rw [← hW7]; exact RV6.out.alloc _)
    clear RV6
    have RP7 := hide (show Row W7 (W6.heap.size) 29 [.slice none 0 0, .slice none 0 0, .int .i64 0] by rw [← hW7]; exact Row.new W6 _ _)
    have Sa7 := hide (show StkAt W7 W7.heap.size a1 k1 a2 k2 S by rw [← hW7]; exact Sa6.out.alloc _)
    clear Sa6
    have Sb7 := hide (show StkAt W7 W7.heap.size b1 l1 b2 l2 S by rw [← hW7]; exact Sb6.out.alloc _)
    clear Sb6
    have Cc7 := hide (show CodesM r0 W7 g by rw [← hW7]; exact Cc6.out.alloc _)
    clear Cc6
    have L7 := hide (show W6.heap.size < W7.heap.size by rw [← hW7]; simp)
    have G7 := hide B6.out.size
    have B7 := hide (show w.grownBy W7 (some g) by rw [← hW7]; exact B6.out.trans (grown_below (below1 _ _) _))
    clear hW7
    have LPQ := hide (show W6.heap.size < W7.heap.size from L7.out)
    obtain ⟨W8, hW8⟩ : ∃ W, W7.alloc (.cells #[.slice none 0 0, .slice none 0 0, .int .i64 0] 29) = W := ⟨_, rfl⟩
    have HW8 := hide hW8
    have RA8 := hide (show Row W8 (w.heap.size) 29 [.slice a1 S.bs.length k1, .slice a2 S.bs.length k2, .int .i64 (S.sp : Int)] by rw [← hW8]; exact RA7.out.alloc _)
    clear RA7
    have RB8 := hide (show Row W8 (w.heap.size + 1) 29 [.slice b1 S.bs.length l1, .slice b2 S.bs.length l2, .int .i64 (S.sp : Int)] by rw [← hW8]; exact RB7.out.alloc _)
    clear RB7
    have RY8 := hide (show Row W8 (w.heap.size + 2) 29 [.slice none 0 0, .slice none 0 0, .int .i64 0] by rw [← hW8]; exact RY7.out.alloc _)
    clear RY7
    have RZ8 := hide (show Row W8 (w.heap.size + 3) 29 [.slice none 0 0, .slice none 0 0, .int .i64 0] by rw [← hW8]; exact RZ7.out.alloc _)
    clear RZ7
    have RV8 := hide (show Row W8 (w5.heap.size) 39 [.int .u64 (lo X), .int .u64 (hi X)] by rw [← hW8]; exact RV7.out.alloc _)
    clear RV7
    have RP8 := hide (show Row W8 (W6.heap.size) 29 [.slice none 0 0, .slice none 0 0, .int .i64 0] by rw [← hW8]; exact RP7.out.alloc _)
    clear RP7
    have RQ8 := hide (show Row W8 (W7.heap.size) 29 [.slice none 0 0, .slice none 0 0, .int .i64 0] by rw [← hW8]; exact Row.new W7 _ _)
    have Sa8 := hide (show StkAt W8 W8.heap.size a1 k1 a2 k2 S by rw [← hW8]; exact Sa7.out.alloc _)
    clear Sa7
    have Sb8 := hide (show StkAt W8 W8.heap.size b1 l1 b2 l2 S by rw [← hW8]; exact Sb7.out.alloc _)
    clear Sb7
    have Cc8 := hide (show CodesM r0 W8 g by rw [← hW8]; exact Cc7.out.alloc _)
    clear Cc7
    have L8 := hide (show W7.heap.size < W8.heap.size by rw [← hW8]; simp)
    have G8 := hide B7.out.size
    have B8 := hide (show w.grownBy W8 (some g) by rw [← hW8]; exact B7.out.trans (grown_below (below1 _ _) _))
    clear hW8
    rw [HW7.out, HW8.out]
    have HQ := hide (show W7.heap.size = W6.heap.size + 1 by rw [← HW7.out]; simp)
    rw [HQ.out] at RQ8
    go_wp2_with fail
    go_fit (next_w g 6 _ Cc8 (by omega) (by omega))
    rintro e w9 ⟨z, rfl, z0, z1, hC9, hg9, -⟩
    have RA9 := hide (RA8.out.next Cc8.out.codes (by decide) hg9)
    clear RA8
    have RB9 := hide (RB8.out.next Cc8.out.codes (by decide) hg9)
    clear RB8
    have RY9 := hide (RY8.out.next Cc8.out.codes (by decide) hg9)
    clear RY8
    have RZ9 := hide (RZ8.out.next Cc8.out.codes (by decide) hg9)
    clear RZ8
    have RV9 := hide (RV8.out.next Cc8.out.codes (by decide) hg9)
    clear RV8
    have RP9 := hide (RP8.out.next Cc8.out.codes (by decide) hg9)
    clear RP8
    have RQ9 := hide (RQ8.out.next Cc8.out.codes (by decide) hg9)
    clear RQ8
    have Sa9 := hide (Sa8.out.next Cc8.out.codes hg9)
    clear Sa8
    have Sb9 := hide (Sb8.out.next Cc8.out.codes hg9)
    clear Sb8
    have B9 := hide (B8.out.trans hg9)
    clear B8
    have Cc9 := hide hC9
    clear Cc8 hC9 hg9
    have DP := hide (show w.heap.size + 3 < W6.heap.size from DP0.out)
    have DQ := hide (show W6.heap.size < W6.heap.size + 1 from Nat.lt_succ_self _)
    go_upto_block 0 with (fail)
    go_cut [18, 19, 20, 21] (fun ve vf vp vq wx => Hid (StepCut S a1 k1 a2 k2 b1 l1 b2 l2 r0 g w W6.heap.size ve vf vp vq wx))
    case first =>
      by_cases hz0 : z = 0
      · subst hz0
        obtain ⟨T, hT⟩ : ∃ T, pushR S kk = T := ⟨_, rfl⟩
        obtain ⟨E, hEE⟩ : ∃ E, pushE S kk = E := ⟨_, rfl⟩
        have c1 := fun W HS => push_any (A1 := a1) (A2 := a2) (c1 := k1) (c2 := k2) (S := S) kk W HS
        have c2 := fun W HS => rpush_any (A1 := b1) (A2 := b2) (c1 := l1) (c2 := l2) (S := S) kk W HS
        simp only [hT, hEE] at c1 c2
        clear hT hEE
        have fA0 := RA9.out.cell (k := 0) rfl
        have fA1 := RA9.out.cell (k := 1) rfl
        have fA2 := RA9.out.cell (k := 2) rfl
        go_wp2_with fail
        go_fit (c1 _ Sa9)
        rintro e w10 ⟨x1, y1, x2, y2, rfl, hS10, hb10⟩
        have Sp10 := hide hS10
        clear hS10
        have RA11 := hide (RA9.out.call hb10)
        clear RA9
        have RB11 := hide (RB9.out.call hb10)
        clear RB9
        have RY11 := hide (RY9.out.call hb10)
        clear RY9
        have RZ11 := hide (RZ9.out.call hb10)
        clear RZ9
        have RV11 := hide (RV9.out.call hb10)
        clear RV9
        have RP11 := hide (RP9.out.call hb10)
        clear RP9
        have RQ11 := hide (RQ9.out.call hb10)
        clear RQ9
        have Sa11 := hide (Sa9.out.call hb10)
        clear Sa9
        have Sb11 := hide (Sb9.out.call hb10)
        clear Sb9
        have Cc11 := hide (Cc9.out.below hb10)
        clear Cc9
        have B11 := hide (B9.out.trans (grown_below hb10 _))
        clear B9
        clear hb10
        clear fA0 fA1 fA2
        have fP0 := RP11.out.cell (k := 0) rfl
        have fP1 := RP11.out.cell (k := 1) rfl
        have fP2 := RP11.out.cell (k := 2) rfl
        have yP0 := RP11.out.free 0
        have yP1 := RP11.out.free 1
        have yP2 := RP11.out.free 2
        go_upto_region 14 with (fail)
        obtain ⟨W12, hW12⟩ : ∃ W, ((w10.setCell ⟨W6.heap.size, 0, none⟩ (.slice x1 T.bs.length y1)).setCell ⟨W6.heap.size, 1, none⟩ (.slice x2 T.bs.length y2)).setCell ⟨W6.heap.size, 2, none⟩ (.int .i64 (T.sp : Int)) = W := ⟨_, rfl⟩
        have HW12 := hide hW12
        have RP12 := hide (show Row W12 (W6.heap.size) 29 [.slice x1 T.bs.length y1, .slice x2 T.bs.length y2, .int .i64 (T.sp : Int)] by rw [← hW12]; exact (((RP11.out).set_ 0 _).set_ 1 _).set_ 2 _)
        have RA12 := hide (show Row W12 (w.heap.size) 29 [.slice a1 S.bs.length k1, .slice a2 S.bs.length k2, .int .i64 (S.sp : Int)] by rw [← hW12]; exact (((RA11.out).far (p := ⟨W6.heap.size, 0, none⟩) (by have := DP.out; have := DQ.out; have := LV.out; simp <;> omega) _).far (p := ⟨W6.heap.size, 1, none⟩) (by have := DP.out; have := DQ.out; have := LV.out; simp <;> omega) _).far (p := ⟨W6.heap.size, 2, none⟩) (by have := DP.out; have := DQ.out; have := LV.out; simp <;> omega) _)
        clear RA11
        have RB12 := hide (show Row W12 (w.heap.size + 1) 29 [.slice b1 S.bs.length l1, .slice b2 S.bs.length l2, .int .i64 (S.sp : Int)] by rw [← hW12]; exact (((RB11.out).far (p := ⟨W6.heap.size, 0, none⟩) (by have := DP.out; have := DQ.out; have := LV.out; simp <;> omega) _).far (p := ⟨W6.heap.size, 1, none⟩) (by have := DP.out; have := DQ.out; have := LV.out; simp <;> omega) _).far (p := ⟨W6.heap.size, 2, none⟩) (by have := DP.out; have := DQ.out; have := LV.out; simp <;> omega) _)
        clear RB11
        have RY12 := hide (show Row W12 (w.heap.size + 2) 29 [.slice none 0 0, .slice none 0 0, .int .i64 0] by rw [← hW12]; exact (((RY11.out).far (p := ⟨W6.heap.size, 0, none⟩) (by have := DP.out; have := DQ.out; have := LV.out; simp <;> omega) _).far (p := ⟨W6.heap.size, 1, none⟩) (by have := DP.out; have := DQ.out; have := LV.out; simp <;> omega) _).far (p := ⟨W6.heap.size, 2, none⟩) (by have := DP.out; have := DQ.out; have := LV.out; simp <;> omega) _)
        clear RY11
        have RZ12 := hide (show Row W12 (w.heap.size + 3) 29 [.slice none 0 0, .slice none 0 0, .int .i64 0] by rw [← hW12]; exact (((RZ11.out).far (p := ⟨W6.heap.size, 0, none⟩) (by have := DP.out; have := DQ.out; have := LV.out; simp <;> omega) _).far (p := ⟨W6.heap.size, 1, none⟩) (by have := DP.out; have := DQ.out; have := LV.out; simp <;> omega) _).far (p := ⟨W6.heap.size, 2, none⟩) (by have := DP.out; have := DQ.out; have := LV.out; simp <;> omega) _)
        clear RZ11
        have RV12 := hide (show Row W12 (w5.heap.size) 39 [.int .u64 (lo X), .int .u64 (hi X)] by rw [← hW12]; exact (((RV11.out).far (p := ⟨W6.heap.size, 0, none⟩) (by have := DP.out; have := DQ.out; have := LV.out; simp <;> omega) _).far (p := ⟨W6.heap.size, 1, none⟩) (by have := DP.out; have := DQ.out; have := LV.out; simp <;> omega) _).far (p := ⟨W6.heap.size, 2, none⟩) (by have := DP.out; have := DQ.out; have := LV.out; simp <;> omega) _)
        clear RV11
        have RQ12 := hide (show Row W12 (W6.heap.size + 1) 29 [.slice none 0 0, .slice none 0 0, .int .i64 0] by rw [← hW12]; exact (((RQ11.out).far (p := ⟨W6.heap.size, 0, none⟩) (by have := DP.out; have := DQ.out; have := LV.out; simp <;> omega) _).far (p := ⟨W6.heap.size, 1, none⟩) (by have := DP.out; have := DQ.out; have := LV.out; simp <;> omega) _).far (p := ⟨W6.heap.size, 2, none⟩) (by have := DP.out; have := DQ.out; have := LV.out; simp <;> omega) _)
        clear RQ11
        have Sa12 := hide (show StkAt W12 W12.heap.size a1 k1 a2 k2 S by rw [← hW12]; exact StkAt.put (StkAt.put (StkAt.put (Sa11.out) ((RP11.out).cell (k := 0) rfl) rfl _) (((RP11.out).set_ 0 _).cell (k := 1) rfl) rfl _) ((((RP11.out).set_ 0 _).set_ 1 _).cell (k := 2) rfl) rfl _)
        clear Sa11
        have Sb12 := hide (show StkAt W12 W12.heap.size b1 l1 b2 l2 S by rw [← hW12]; exact StkAt.put (StkAt.put (StkAt.put (Sb11.out) ((RP11.out).cell (k := 0) rfl) rfl _) (((RP11.out).set_ 0 _).cell (k := 1) rfl) rfl _) ((((RP11.out).set_ 0 _).set_ 1 _).cell (k := 2) rfl) rfl _)
        clear Sb11
        have Sp12 := hide (show StkAt W12 W12.heap.size x1 y1 x2 y2 T by rw [← hW12]; exact StkAt.put (StkAt.put (StkAt.put (Sp10.out) ((RP11.out).cell (k := 0) rfl) rfl _) (((RP11.out).set_ 0 _).cell (k := 1) rfl) rfl _) ((((RP11.out).set_ 0 _).set_ 1 _).cell (k := 2) rfl) rfl _)
        clear Sp10
        have Cc12 := hide (show CodesM r0 W12 g by rw [← hW12]; exact (((Cc11.out).put (RP11.out) (by decide) ((RP11.out).cell (k := 0) rfl) rfl _).put ((RP11.out).set_ 0 _) (by decide) (((RP11.out).set_ 0 _).cell (k := 1) rfl) rfl _).put (((RP11.out).set_ 0 _).set_ 1 _) (by decide) ((((RP11.out).set_ 0 _).set_ 1 _).cell (k := 2) rfl) rfl _)
        clear Cc11
        have B12 := hide (show w.grownBy W12 (some g) by rw [← hW12]; exact grown_put (grown_put (grown_put (B11.out) (by have := DP.out; have := DQ.out; omega)) (by have := DP.out; have := DQ.out; omega)) (by have := DP.out; have := DQ.out; omega))
        clear hW12 RP11
        rw [HW12.out]
        clear fP0 fP1 fP2 yP0 yP1 yP2
        have fB0 := RB12.out.cell (k := 0) rfl
        have fB1 := RB12.out.cell (k := 1) rfl
        have fB2 := RB12.out.cell (k := 2) rfl
        go_wp2_with fail
        go_fit (c2 _ Sb12)
        rintro e w13 ⟨p1, q1, p2, q2, rfl, hS13, hb13⟩
        have Sq13 := hide hS13
        clear hS13
        have RA14 := hide (RA12.out.call hb13)
        clear RA12
        have RB14 := hide (RB12.out.call hb13)
        clear RB12
        have RY14 := hide (RY12.out.call hb13)
        clear RY12
        have RZ14 := hide (RZ12.out.call hb13)
        clear RZ12
        have RV14 := hide (RV12.out.call hb13)
        clear RV12
        have RP14 := hide (RP12.out.call hb13)
        clear RP12
        have RQ14 := hide (RQ12.out.call hb13)
        clear RQ12
        have Sa14 := hide (Sa12.out.call hb13)
        clear Sa12
        have Sb14 := hide (Sb12.out.call hb13)
        clear Sb12
        have Sp14 := hide (Sp12.out.call hb13)
        clear Sp12
        have Cc14 := hide (Cc12.out.below hb13)
        clear Cc12
        have B14 := hide (B12.out.trans (grown_below hb13 _))
        clear B12
        clear hb13
        clear fB0 fB1 fB2
        have fQ0 := RQ14.out.cell (k := 0) rfl
        have fQ1 := RQ14.out.cell (k := 1) rfl
        have fQ2 := RQ14.out.cell (k := 2) rfl
        have yQ0 := RQ14.out.free 0
        have yQ1 := RQ14.out.free 1
        have yQ2 := RQ14.out.free 2
        go_wp2_with fail
        obtain ⟨W15, hW15⟩ : ∃ W, ((w13.setCell ⟨W6.heap.size + 1, 0, none⟩ (.slice p1 T.bs.length q1)).setCell ⟨W6.heap.size + 1, 1, none⟩ (.slice p2 T.bs.length q2)).setCell ⟨W6.heap.size + 1, 2, none⟩ (.int .i64 (T.sp : Int)) = W := ⟨_, rfl⟩
        have HW15 := hide hW15
        have RQ15 := hide (show Row W15 (W6.heap.size + 1) 29 [.slice p1 T.bs.length q1, .slice p2 T.bs.length q2, .int .i64 (T.sp : Int)] by rw [← hW15]; exact (((RQ14.out).set_ 0 _).set_ 1 _).set_ 2 _)
        have RA15 := hide (show Row W15 (w.heap.size) 29 [.slice a1 S.bs.length k1, .slice a2 S.bs.length k2, .int .i64 (S.sp : Int)] by rw [← hW15]; exact (((RA14.out).far (p := ⟨W6.heap.size + 1, 0, none⟩) (by have := DP.out; have := DQ.out; have := LV.out; simp <;> omega) _).far (p := ⟨W6.heap.size + 1, 1, none⟩) (by have := DP.out; have := DQ.out; have := LV.out; simp <;> omega) _).far (p := ⟨W6.heap.size + 1, 2, none⟩) (by have := DP.out; have := DQ.out; have := LV.out; simp <;> omega) _)
        clear RA14
        have RB15 := hide (show Row W15 (w.heap.size + 1) 29 [.slice b1 S.bs.length l1, .slice b2 S.bs.length l2, .int .i64 (S.sp : Int)] by rw [← hW15]; exact (((RB14.out).far (p := ⟨W6.heap.size + 1, 0, none⟩) (by have := DP.out; have := DQ.out; have := LV.out; simp <;> omega) _).far (p := ⟨W6.heap.size + 1, 1, none⟩) (by have := DP.out; have := DQ.out; have := LV.out; simp <;> omega) _).far (p := ⟨W6.heap.size + 1, 2, none⟩) (by have := DP.out; have := DQ.out; have := LV.out; simp <;> omega) _)
        clear RB14
        have RY15 := hide (show Row W15 (w.heap.size + 2) 29 [.slice none 0 0, .slice none 0 0, .int .i64 0] by rw [← hW15]; exact (((RY14.out).far (p := ⟨W6.heap.size + 1, 0, none⟩) (by have := DP.out; have := DQ.out; have := LV.out; simp <;> omega) _).far (p := ⟨W6.heap.size + 1, 1, none⟩) (by have := DP.out; have := DQ.out; have := LV.out; simp <;> omega) _).far (p := ⟨W6.heap.size + 1, 2, none⟩) (by have := DP.out; have := DQ.out; have := LV.out; simp <;> omega) _)
        clear RY14
        have RZ15 := hide (show Row W15 (w.heap.size + 3) 29 [.slice none 0 0, .slice none 0 0, .int .i64 0] by rw [← hW15]; exact (((RZ14.out).far (p := ⟨W6.heap.size + 1, 0, none⟩) (by have := DP.out; have := DQ.out; have := LV.out; simp <;> omega) _).far (p := ⟨W6.heap.size + 1, 1, none⟩) (by have := DP.out; have := DQ.out; have := LV.out; simp <;> omega) _).far (p := ⟨W6.heap.size + 1, 2, none⟩) (by have := DP.out; have := DQ.out; have := LV.out; simp <;> omega) _)
        clear RZ14
        have RV15 := hide (show Row W15 (w5.heap.size) 39 [.int .u64 (lo X), .int .u64 (hi X)] by rw [← hW15]; exact (((RV14.out).far (p := ⟨W6.heap.size + 1, 0, none⟩) (by have := DP.out; have := DQ.out; have := LV.out; simp <;> omega) _).far (p := ⟨W6.heap.size + 1, 1, none⟩) (by have := DP.out; have := DQ.out; have := LV.out; simp <;> omega) _).far (p := ⟨W6.heap.size + 1, 2, none⟩) (by have := DP.out; have := DQ.out; have := LV.out; simp <;> omega) _)
        clear RV14
        have RP15 := hide (show Row W15 (W6.heap.size) 29 [.slice x1 T.bs.length y1, .slice x2 T.bs.length y2, .int .i64 (T.sp : Int)] by rw [← hW15]; exact (((RP14.out).far (p := ⟨W6.heap.size + 1, 0, none⟩) (by have := DP.out; have := DQ.out; have := LV.out; simp <;> omega) _).far (p := ⟨W6.heap.size + 1, 1, none⟩) (by have := DP.out; have := DQ.out; have := LV.out; simp <;> omega) _).far (p := ⟨W6.heap.size + 1, 2, none⟩) (by have := DP.out; have := DQ.out; have := LV.out; simp <;> omega) _)
        clear RP14
        have Sa15 := hide (show StkAt W15 W15.heap.size a1 k1 a2 k2 S by rw [← hW15]; exact StkAt.put (StkAt.put (StkAt.put (Sa14.out) ((RQ14.out).cell (k := 0) rfl) rfl _) (((RQ14.out).set_ 0 _).cell (k := 1) rfl) rfl _) ((((RQ14.out).set_ 0 _).set_ 1 _).cell (k := 2) rfl) rfl _)
        clear Sa14
        have Sb15 := hide (show StkAt W15 W15.heap.size b1 l1 b2 l2 S by rw [← hW15]; exact StkAt.put (StkAt.put (StkAt.put (Sb14.out) ((RQ14.out).cell (k := 0) rfl) rfl _) (((RQ14.out).set_ 0 _).cell (k := 1) rfl) rfl _) ((((RQ14.out).set_ 0 _).set_ 1 _).cell (k := 2) rfl) rfl _)
        clear Sb14
        have Sp15 := hide (show StkAt W15 W15.heap.size x1 y1 x2 y2 T by rw [← hW15]; exact StkAt.put (StkAt.put (StkAt.put (Sp14.out) ((RQ14.out).cell (k := 0) rfl) rfl _) (((RQ14.out).set_ 0 _).cell (k := 1) rfl) rfl _) ((((RQ14.out).set_ 0 _).set_ 1 _).cell (k := 2) rfl) rfl _)
        clear Sp14
        have Sq15 := hide (show StkAt W15 W15.heap.size p1 q1 p2 q2 T by rw [← hW15]; exact StkAt.put (StkAt.put (StkAt.put (Sq13.out) ((RQ14.out).cell (k := 0) rfl) rfl _) (((RQ14.out).set_ 0 _).cell (k := 1) rfl) rfl _) ((((RQ14.out).set_ 0 _).set_ 1 _).cell (k := 2) rfl) rfl _)
        clear Sq13
        have Cc15 := hide (show CodesM r0 W15 g by rw [← hW15]; exact (((Cc14.out).put (RQ14.out) (by decide) ((RQ14.out).cell (k := 0) rfl) rfl _).put ((RQ14.out).set_ 0 _) (by decide) (((RQ14.out).set_ 0 _).cell (k := 1) rfl) rfl _).put (((RQ14.out).set_ 0 _).set_ 1 _) (by decide) ((((RQ14.out).set_ 0 _).set_ 1 _).cell (k := 2) rfl) rfl _)
        clear Cc14
        have B15 := hide (show w.grownBy W15 (some g) by rw [← hW15]; exact grown_put (grown_put (grown_put (B14.out) (by have := DP.out; have := DQ.out; omega)) (by have := DP.out; have := DQ.out; omega)) (by have := DP.out; have := DQ.out; omega))
        clear hW15 RQ14
        rw [HW15.out]
        go_meet
        exact hide ⟨E, true, T, x1, y1, x2, y2, p1, q1, p2, q2, rfl, rfl, rfl, rfl, RA15.out, RB15.out, RY15.out, RZ15.out, RP15.out, RQ15.out, Sa15.out, Sb15.out, Sp15.out, Sq15.out, Cc15.out, B15.out⟩
      by_cases hz1 : z = 1
      · subst hz1
        obtain ⟨T, hT⟩ : ∃ T, popR S kk = T := ⟨_, rfl⟩
        obtain ⟨E, hEE⟩ : ∃ E, popE S kk = E := ⟨_, rfl⟩
        have c1 := fun W HS => pop_any (A1 := a1) (A2 := a2) (c1 := k1) (c2 := k2) (S := S) kk W HS
        have c2 := fun W HS => rpop_any (A1 := b1) (A2 := b2) (c1 := l1) (c2 := l2) (S := S) kk W HS
        simp only [hT, hEE] at c1 c2
        clear hT hEE
        have fA0 := RA9.out.cell (k := 0) rfl
        have fA1 := RA9.out.cell (k := 1) rfl
        have fA2 := RA9.out.cell (k := 2) rfl
        go_wp2_with fail
        go_fit (c1 _ Sa9)
        rintro e w10 ⟨x1, y1, x2, y2, rfl, hS10, hb10⟩
        have Sp10 := hide hS10
        clear hS10
        have RA11 := hide (RA9.out.call hb10)
        clear RA9
        have RB11 := hide (RB9.out.call hb10)
        clear RB9
        have RY11 := hide (RY9.out.call hb10)
        clear RY9
        have RZ11 := hide (RZ9.out.call hb10)
        clear RZ9
        have RV11 := hide (RV9.out.call hb10)
        clear RV9
        have RP11 := hide (RP9.out.call hb10)
        clear RP9
        have RQ11 := hide (RQ9.out.call hb10)
        clear RQ9
        have Sa11 := hide (Sa9.out.call hb10)
        clear Sa9
        have Sb11 := hide (Sb9.out.call hb10)
        clear Sb9
        have Cc11 := hide (Cc9.out.below hb10)
        clear Cc9
        have B11 := hide (B9.out.trans (grown_below hb10 _))
        clear B9
        clear hb10
        clear fA0 fA1 fA2
        have fP0 := RP11.out.cell (k := 0) rfl
        have fP1 := RP11.out.cell (k := 1) rfl
        have fP2 := RP11.out.cell (k := 2) rfl
        have yP0 := RP11.out.free 0
        have yP1 := RP11.out.free 1
        have yP2 := RP11.out.free 2
        go_upto_region 17 with (fail)
        obtain ⟨W12, hW12⟩ : ∃ W, ((w10.setCell ⟨W6.heap.size, 0, none⟩ (.slice x1 T.bs.length y1)).setCell ⟨W6.heap.size, 1, none⟩ (.slice x2 T.bs.length y2)).setCell ⟨W6.heap.size, 2, none⟩ (.int .i64 (T.sp : Int)) = W := ⟨_, rfl⟩
        have HW12 := hide hW12
        have RP12 := hide (show Row W12 (W6.heap.size) 29 [.slice x1 T.bs.length y1, .slice x2 T.bs.length y2, .int .i64 (T.sp : Int)] by rw [← hW12]; exact (((RP11.out).set_ 0 _).set_ 1 _).set_ 2 _)
        have RA12 := hide (show Row W12 (w.heap.size) 29 [.slice a1 S.bs.length k1, .slice a2 S.bs.length k2, .int .i64 (S.sp : Int)] by rw [← hW12]; exact (((RA11.out).far (p := ⟨W6.heap.size, 0, none⟩) (by have := DP.out; have := DQ.out; have := LV.out; simp <;> omega) _).far (p := ⟨W6.heap.size, 1, none⟩) (by have := DP.out; have := DQ.out; have := LV.out; simp <;> omega) _).far (p := ⟨W6.heap.size, 2, none⟩) (by have := DP.out; have := DQ.out; have := LV.out; simp <;> omega) _)
        clear RA11
        have RB12 := hide (show Row W12 (w.heap.size + 1) 29 [.slice b1 S.bs.length l1, .slice b2 S.bs.length l2, .int .i64 (S.sp : Int)] by rw [← hW12]; exact (((RB11.out).far (p := ⟨W6.heap.size, 0, none⟩) (by have := DP.out; have := DQ.out; have := LV.out; simp <;> omega) _).far (p := ⟨W6.heap.size, 1, none⟩) (by have := DP.out; have := DQ.out; have := LV.out; simp <;> omega) _).far (p := ⟨W6.heap.size, 2, none⟩) (by have := DP.out; have := DQ.out; have := LV.out; simp <;> omega) _)
        clear RB11
        have RY12 := hide (show Row W12 (w.heap.size + 2) 29 [.slice none 0 0, .slice none 0 0, .int .i64 0] by rw [← hW12]; exact (((RY11.out).far (p := ⟨W6.heap.size, 0, none⟩) (by have := DP.out; have := DQ.out; have := LV.out; simp <;> omega) _).far (p := ⟨W6.heap.size, 1, none⟩) (by have := DP.out; have := DQ.out; have := LV.out; simp <;> omega) _).far (p := ⟨W6.heap.size, 2, none⟩) (by have := DP.out; have := DQ.out; have := LV.out; simp <;> omega) _)
        clear RY11
        have RZ12 := hide (show Row W12 (w.heap.size + 3) 29 [.slice none 0 0, .slice none 0 0, .int .i64 0] by rw [← hW12]; exact (((RZ11.out).far (p := ⟨W6.heap.size, 0, none⟩) (by have := DP.out; have := DQ.out; have := LV.out; simp <;> omega) _).far (p := ⟨W6.heap.size, 1, none⟩) (by have := DP.out; have := DQ.out; have := LV.out; simp <;> omega) _).far (p := ⟨W6.heap.size, 2, none⟩) (by have := DP.out; have := DQ.out; have := LV.out; simp <;> omega) _)
        clear RZ11
        have RV12 := hide (show Row W12 (w5.heap.size) 39 [.int .u64 (lo X), .int .u64 (hi X)] by rw [← hW12]; exact (((RV11.out).far (p := ⟨W6.heap.size, 0, none⟩) (by have := DP.out; have := DQ.out; have := LV.out; simp <;> omega) _).far (p := ⟨W6.heap.size, 1, none⟩) (by have := DP.out; have := DQ.out; have := LV.out; simp <;> omega) _).far (p := ⟨W6.heap.size, 2, none⟩) (by have := DP.out; have := DQ.out; have := LV.out; simp <;> omega) _)
        clear RV11
        have RQ12 := hide (show Row W12 (W6.heap.size + 1) 29 [.slice none 0 0, .slice none 0 0, .int .i64 0] by rw [← hW12]; exact (((RQ11.out).far (p := ⟨W6.heap.size, 0, none⟩) (by have := DP.out; have := DQ.out; have := LV.out; simp <;> omega) _).far (p := ⟨W6.heap.size, 1, none⟩) (by have := DP.out; have := DQ.out; have := LV.out; simp <;> omega) _).far (p := ⟨W6.heap.size, 2, none⟩) (by have := DP.out; have := DQ.out; have := LV.out; simp <;> omega) _)
        clear RQ11
        have Sa12 := hide (show StkAt W12 W12.heap.size a1 k1 a2 k2 S by rw [← hW12]; exact StkAt.put (StkAt.put (StkAt.put (Sa11.out) ((RP11.out).cell (k := 0) rfl) rfl _) (((RP11.out).set_ 0 _).cell (k := 1) rfl) rfl _) ((((RP11.out).set_ 0 _).set_ 1 _).cell (k := 2) rfl) rfl _)
        clear Sa11
        have Sb12 := hide (show StkAt W12 W12.heap.size b1 l1 b2 l2 S by rw [← hW12]; exact StkAt.put (StkAt.put (StkAt.put (Sb11.out) ((RP11.out).cell (k := 0) rfl) rfl _) (((RP11.out).set_ 0 _).cell (k := 1) rfl) rfl _) ((((RP11.out).set_ 0 _).set_ 1 _).cell (k := 2) rfl) rfl _)
        clear Sb11
        have Sp12 := hide (show StkAt W12 W12.heap.size x1 y1 x2 y2 T by rw [← hW12]; exact StkAt.put (StkAt.put (StkAt.put (Sp10.out) ((RP11.out).cell (k := 0) rfl) rfl _) (((RP11.out).set_ 0 _).cell (k := 1) rfl) rfl _) ((((RP11.out).set_ 0 _).set_ 1 _).cell (k := 2) rfl) rfl _)
        clear Sp10
        have Cc12 := hide (show CodesM r0 W12 g by rw [← hW12]; exact (((Cc11.out).put (RP11.out) (by decide) ((RP11.out).cell (k := 0) rfl) rfl _).put ((RP11.out).set_ 0 _) (by decide) (((RP11.out).set_ 0 _).cell (k := 1) rfl) rfl _).put (((RP11.out).set_ 0 _).set_ 1 _) (by decide) ((((RP11.out).set_ 0 _).set_ 1 _).cell (k := 2) rfl) rfl _)
        clear Cc11
        have B12 := hide (show w.grownBy W12 (some g) by rw [← hW12]; exact grown_put (grown_put (grown_put (B11.out) (by have := DP.out; have := DQ.out; omega)) (by have := DP.out; have := DQ.out; omega)) (by have := DP.out; have := DQ.out; omega))
        clear hW12 RP11
        rw [HW12.out]
        clear fP0 fP1 fP2 yP0 yP1 yP2
        have fB0 := RB12.out.cell (k := 0) rfl
        have fB1 := RB12.out.cell (k := 1) rfl
        have fB2 := RB12.out.cell (k := 2) rfl
        go_wp2_with fail
        go_fit (c2 _ Sb12)
        rintro e w13 ⟨p1, q1, p2, q2, rfl, hS13, hb13⟩
        have Sq13 := hide hS13
        clear hS13
        have RA14 := hide (RA12.out.call hb13)
        clear RA12
        have RB14 := hide (RB12.out.call hb13)
        clear RB12
        have RY14 := hide (RY12.out.call hb13)
        clear RY12
        have RZ14 := hide (RZ12.out.call hb13)
        clear RZ12
        have RV14 := hide (RV12.out.call hb13)
        clear RV12
        have RP14 := hide (RP12.out.call hb13)
        clear RP12
        have RQ14 := hide (RQ12.out.call hb13)
        clear RQ12
        have Sa14 := hide (Sa12.out.call hb13)
        clear Sa12
        have Sb14 := hide (Sb12.out.call hb13)
        clear Sb12
        have Sp14 := hide (Sp12.out.call hb13)
        clear Sp12
        have Cc14 := hide (Cc12.out.below hb13)
        clear Cc12
        have B14 := hide (B12.out.trans (grown_below hb13 _))
        clear B12
        clear hb13
        clear fB0 fB1 fB2
        have fQ0 := RQ14.out.cell (k := 0) rfl
        have fQ1 := RQ14.out.cell (k := 1) rfl
        have fQ2 := RQ14.out.cell (k := 2) rfl
        have yQ0 := RQ14.out.free 0
        have yQ1 := RQ14.out.free 1
        have yQ2 := RQ14.out.free 2
        go_wp2_with fail
        obtain ⟨W15, hW15⟩ : ∃ W, ((w13.setCell ⟨W6.heap.size + 1, 0, none⟩ (.slice p1 T.bs.length q1)).setCell ⟨W6.heap.size + 1, 1, none⟩ (.slice p2 T.bs.length q2)).setCell ⟨W6.heap.size + 1, 2, none⟩ (.int .i64 (T.sp : Int)) = W := ⟨_, rfl⟩
        have HW15 := hide hW15
        have RQ15 := hide (show Row W15 (W6.heap.size + 1) 29 [.slice p1 T.bs.length q1, .slice p2 T.bs.length q2, .int .i64 (T.sp : Int)] by rw [← hW15]; exact (((RQ14.out).set_ 0 _).set_ 1 _).set_ 2 _)
        have RA15 := hide (show Row W15 (w.heap.size) 29 [.slice a1 S.bs.length k1, .slice a2 S.bs.length k2, .int .i64 (S.sp : Int)] by rw [← hW15]; exact (((RA14.out).far (p := ⟨W6.heap.size + 1, 0, none⟩) (by have := DP.out; have := DQ.out; have := LV.out; simp <;> omega) _).far (p := ⟨W6.heap.size + 1, 1, none⟩) (by have := DP.out; have := DQ.out; have := LV.out; simp <;> omega) _).far (p := ⟨W6.heap.size + 1, 2, none⟩) (by have := DP.out; have := DQ.out; have := LV.out; simp <;> omega) _)
        clear RA14
        have RB15 := hide (show Row W15 (w.heap.size + 1) 29 [.slice b1 S.bs.length l1, .slice b2 S.bs.length l2, .int .i64 (S.sp : Int)] by rw [← hW15]; exact (((RB14.out).far (p := ⟨W6.heap.size + 1, 0, none⟩) (by have := DP.out; have := DQ.out; have := LV.out; simp <;> omega) _).far (p := ⟨W6.heap.size + 1, 1, none⟩) (by have := DP.out; have := DQ.out; have := LV.out; simp <;> omega) _).far (p := ⟨W6.heap.size + 1, 2, none⟩) (by have := DP.out; have := DQ.out; have := LV.out; simp <;> omega) _)
        clear RB14
        have RY15 := hide (show Row W15 (w.heap.size + 2) 29 [.slice none 0 0, .slice none 0 0, .int .i64 0] by rw [← hW15]; exact (((RY14.out).far (p := ⟨W6.heap.size + 1, 0, none⟩) (by have := DP.out; have := DQ.out; have := LV.out; simp <;> omega) _).far (p := ⟨W6.heap.size + 1, 1, none⟩) (by have := DP.out; have := DQ.out; have := LV.out; simp <;> omega) _).far (p := ⟨W6.heap.size + 1, 2, none⟩) (by have := DP.out; have := DQ.out; have := LV.out; simp <;> omega) _)
        clear RY14
        have RZ15 := hide (show Row W15 (w.heap.size + 3) 29 [.slice none 0 0, .slice none 0 0, .int .i64 0] by rw [← hW15]; exact (((RZ14.out).far (p := ⟨W6.heap.size + 1, 0, none⟩) (by have := DP.out; have := DQ.out; have := LV.out; simp <;> omega) _).far (p := ⟨W6.heap.size + 1, 1, none⟩) (by have := DP.out; have := DQ.out; have := LV.out; simp <;> omega) _).far (p := ⟨W6.heap.size + 1, 2, none⟩) (by have := DP.out; have := DQ.out; have := LV.out; simp <;> omega) _)
        clear RZ14
        have RV15 := hide (show Row W15 (w5.heap.size) 39 [.int .u64 (lo X), .int .u64 (hi X)] by rw [← hW15]; exact (((RV14.out).far (p := ⟨W6.heap.size + 1, 0, none⟩) (by have := DP.out; have := DQ.out; have := LV.out; simp <;> omega) _).far (p := ⟨W6.heap.size + 1, 1, none⟩) (by have := DP.out; have := DQ.out; have := LV.out; simp <;> omega) _).far (p := ⟨W6.heap.size + 1, 2, none⟩) (by have := DP.out; have := DQ.out; have := LV.out; simp <;> omega) _)
        clear RV14
        have RP15 := hide (show Row W15 (W6.heap.size) 29 [.slice x1 T.bs.length y1, .slice x2 T.bs.length y2, .int .i64 (T.sp : Int)] by rw [← hW15]; exact (((RP14.out).far (p := ⟨W6.heap.size + 1, 0, none⟩) (by have := DP.out; have := DQ.out; have := LV.out; simp <;> omega) _).far (p := ⟨W6.heap.size + 1, 1, none⟩) (by have := DP.out; have := DQ.out; have := LV.out; simp <;> omega) _).far (p := ⟨W6.heap.size + 1, 2, none⟩) (by have := DP.out; have := DQ.out; have := LV.out; simp <;> omega) _)
        clear RP14
        have Sa15 := hide (show StkAt W15 W15.heap.size a1 k1 a2 k2 S by rw [← hW15]; exact StkAt.put (StkAt.put (StkAt.put (Sa14.out) ((RQ14.out).cell (k := 0) rfl) rfl _) (((RQ14.out).set_ 0 _).cell (k := 1) rfl) rfl _) ((((RQ14.out).set_ 0 _).set_ 1 _).cell (k := 2) rfl) rfl _)
        clear Sa14
        have Sb15 := hide (show StkAt W15 W15.heap.size b1 l1 b2 l2 S by rw [← hW15]; exact StkAt.put (StkAt.put (StkAt.put (Sb14.out) ((RQ14.out).cell (k := 0) rfl) rfl _) (((RQ14.out).set_ 0 _).cell (k := 1) rfl) rfl _) ((((RQ14.out).set_ 0 _).set_ 1 _).cell (k := 2) rfl) rfl _)
        clear Sb14
        have Sp15 := hide (show StkAt W15 W15.heap.size x1 y1 x2 y2 T by rw [← hW15]; exact StkAt.put (StkAt.put (StkAt.put (Sp14.out) ((RQ14.out).cell (k := 0) rfl) rfl _) (((RQ14.out).set_ 0 _).cell (k := 1) rfl) rfl _) ((((RQ14.out).set_ 0 _).set_ 1 _).cell (k := 2) rfl) rfl _)
        clear Sp14
        have Sq15 := hide (show StkAt W15 W15.heap.size p1 q1 p2 q2 T by rw [← hW15]; exact StkAt.put (StkAt.put (StkAt.put (Sq13.out) ((RQ14.out).cell (k := 0) rfl) rfl _) (((RQ14.out).set_ 0 _).cell (k := 1) rfl) rfl _) ((((RQ14.out).set_ 0 _).set_ 1 _).cell (k := 2) rfl) rfl _)
        clear Sq13
        have Cc15 := hide (show CodesM r0 W15 g by rw [← hW15]; exact (((Cc14.out).put (RQ14.out) (by decide) ((RQ14.out).cell (k := 0) rfl) rfl _).put ((RQ14.out).set_ 0 _) (by decide) (((RQ14.out).set_ 0 _).cell (k := 1) rfl) rfl _).put (((RQ14.out).set_ 0 _).set_ 1 _) (by decide) ((((RQ14.out).set_ 0 _).set_ 1 _).cell (k := 2) rfl) rfl _)
        clear Cc14
        have B15 := hide (show w.grownBy W15 (some g) by rw [← hW15]; exact grown_put (grown_put (grown_put (B14.out) (by have := DP.out; have := DQ.out; omega)) (by have := DP.out; have := DQ.out; omega)) (by have := DP.out; have := DQ.out; omega))
        clear hW15 RQ14
        rw [HW15.out]
        go_meet
        exact hide ⟨E, true, T, x1, y1, x2, y2, p1, q1, p2, q2, rfl, rfl, rfl, rfl, RA15.out, RB15.out, RY15.out, RZ15.out, RP15.out, RQ15.out, Sa15.out, Sb15.out, Sp15.out, Sq15.out, Cc15.out, B15.out⟩
      by_cases hz2 : z = 2
      · subst hz2
        go_wp2_with fail
        go_fit (next_w g 70 _ Cc9 (by omega) (by omega))
        rintro e w10 ⟨mm, rfl, mm0, mm1, hC10, hg10, -⟩
        have RA10 := hide (RA9.out.next Cc9.out.codes (by decide) hg10)
        clear RA9
        have RB10 := hide (RB9.out.next Cc9.out.codes (by decide) hg10)
        clear RB9
        have RY10 := hide (RY9.out.next Cc9.out.codes (by decide) hg10)
        clear RY9
        have RZ10 := hide (RZ9.out.next Cc9.out.codes (by decide) hg10)
        clear RZ9
        have RV10 := hide (RV9.out.next Cc9.out.codes (by decide) hg10)
        clear RV9
        have RP10 := hide (RP9.out.next Cc9.out.codes (by decide) hg10)
        clear RP9
        have RQ10 := hide (RQ9.out.next Cc9.out.codes (by decide) hg10)
        clear RQ9
        have Sa10 := hide (Sa9.out.next Cc9.out.codes hg10)
        clear Sa9
        have Sb10 := hide (Sb9.out.next Cc9.out.codes hg10)
        clear Sb9
        have B10 := hide (B9.out.trans hg10)
        clear B9
        have Cc10 := hide hC10
        clear Cc9 hC10 hg10
        obtain ⟨md, hmd⟩ : ∃ d : Int, mm - 2 = d := ⟨_, rfl⟩
        have hmi : isI md := ⟨by omega, by omega⟩
        obtain ⟨T, hT⟩ : ∃ T, moveR S kk md n = T := ⟨_, rfl⟩
        obtain ⟨E, hEE⟩ : ∃ E, moveE S kk md n = E := ⟨_, rfl⟩
        obtain ⟨b, hbb⟩ : ∃ b, moveB S kk md n = b := ⟨_, rfl⟩
        have c1 := fun W HS => move_any (A1 := a1) (A2 := a2) (c1 := k1) (c2 := k2) (S := S) kk md n W HS
        have c2 := fun W HS => rmove_any (A1 := b1) (A2 := b2) (c1 := l1) (c2 := l2) (S := S) kk md n hk hmi W HS
        simp only [hT, hEE, hbb] at c1 c2
        clear hT hEE hbb
        have fA0 := RA10.out.cell (k := 0) rfl
        have fA1 := RA10.out.cell (k := 1) rfl
        have fA2 := RA10.out.cell (k := 2) rfl
        go_wp2_with fail
        go_fit (c1 _ Sa10)
        rintro e w11 ⟨x1, y1, x2, y2, rfl, hS11, hb11⟩
        have Sp11 := hide hS11
        clear hS11
        have RA12 := hide (RA10.out.call hb11)
        clear RA10
        have RB12 := hide (RB10.out.call hb11)
        clear RB10
        have RY12 := hide (RY10.out.call hb11)
        clear RY10
        have RZ12 := hide (RZ10.out.call hb11)
        clear RZ10
        have RV12 := hide (RV10.out.call hb11)
        clear RV10
        have RP12 := hide (RP10.out.call hb11)
        clear RP10
        have RQ12 := hide (RQ10.out.call hb11)
        clear RQ10
        have Sa12 := hide (Sa10.out.call hb11)
        clear Sa10
        have Sb12 := hide (Sb10.out.call hb11)
        clear Sb10
        have Cc12 := hide (Cc10.out.below hb11)
        clear Cc10
        have B12 := hide (B10.out.trans (grown_below hb11 _))
        clear B10
        clear hb11
        clear fA0 fA1 fA2
        have fP0 := RP12.out.cell (k := 0) rfl
        have fP1 := RP12.out.cell (k := 1) rfl
        have fP2 := RP12.out.cell (k := 2) rfl
        have yP0 := RP12.out.free 0
        have yP1 := RP12.out.free 1
        have yP2 := RP12.out.free 2
        go_upto_region 21 with (fail)
        obtain ⟨W13, hW13⟩ : ∃ W, ((w11.setCell ⟨W6.heap.size, 0, none⟩ (.slice x1 T.bs.length y1)).setCell ⟨W6.heap.size, 1, none⟩ (.slice x2 T.bs.length y2)).setCell ⟨W6.heap.size, 2, none⟩ (.int .i64 (T.sp : Int)) = W := ⟨_, rfl⟩
        have HW13 := hide hW13
        have RP13 := hide (show Row W13 (W6.heap.size) 29 [.slice x1 T.bs.length y1, .slice x2 T.bs.length y2, .int .i64 (T.sp : Int)] by rw [← hW13]; exact (((RP12.out).set_ 0 _).set_ 1 _).set_ 2 _)
        have RA13 := hide (show Row W13 (w.heap.size) 29 [.slice a1 S.bs.length k1, .slice a2 S.bs.length k2, .int .i64 (S.sp : Int)] by rw [← hW13]; exact (((RA12.out).far (p := ⟨W6.heap.size, 0, none⟩) (by have := DP.out; have := DQ.out; have := LV.out; simp <;> omega) _).far (p := ⟨W6.heap.size, 1, none⟩) (by have := DP.out; have := DQ.out; have := LV.out; simp <;> omega) _).far (p := ⟨W6.heap.size, 2, none⟩) (by have := DP.out; have := DQ.out; have := LV.out; simp <;> omega) _)
        clear RA12
        have RB13 := hide (show Row W13 (w.heap.size + 1) 29 [.slice b1 S.bs.length l1, .slice b2 S.bs.length l2, .int .i64 (S.sp : Int)] by rw [← hW13]; exact (((RB12.out).far (p := ⟨W6.heap.size, 0, none⟩) (by have := DP.out; have := DQ.out; have := LV.out; simp <;> omega) _).far (p := ⟨W6.heap.size, 1, none⟩) (by have := DP.out; have := DQ.out; have := LV.out; simp <;> omega) _).far (p := ⟨W6.heap.size, 2, none⟩) (by have := DP.out; have := DQ.out; have := LV.out; simp <;> omega) _)
        clear RB12
        have RY13 := hide (show Row W13 (w.heap.size + 2) 29 [.slice none 0 0, .slice none 0 0, .int .i64 0] by rw [← hW13]; exact (((RY12.out).far (p := ⟨W6.heap.size, 0, none⟩) (by have := DP.out; have := DQ.out; have := LV.out; simp <;> omega) _).far (p := ⟨W6.heap.size, 1, none⟩) (by have := DP.out; have := DQ.out; have := LV.out; simp <;> omega) _).far (p := ⟨W6.heap.size, 2, none⟩) (by have := DP.out; have := DQ.out; have := LV.out; simp <;> omega) _)
        clear RY12
        have RZ13 := hide (show Row W13 (w.heap.size + 3) 29 [.slice none 0 0, .slice none 0 0, .int .i64 0] by rw [← hW13]; exact (((RZ12.out).far (p := ⟨W6.heap.size, 0, none⟩) (by have := DP.out; have := DQ.out; have := LV.out; simp <;> omega) _).far (p := ⟨W6.heap.size, 1, none⟩) (by have := DP.out; have := DQ.out; have := LV.out; simp <;> omega) _).far (p := ⟨W6.heap.size, 2, none⟩) (by have := DP.out; have := DQ.out; have := LV.out; simp <;> omega) _)
        clear RZ12
        have RV13 := hide (show Row W13 (w5.heap.size) 39 [.int .u64 (lo X), .int .u64 (hi X)] by rw [← hW13]; exact (((RV12.out).far (p := ⟨W6.heap.size, 0, none⟩) (by have := DP.out; have := DQ.out; have := LV.out; simp <;> omega) _).far (p := ⟨W6.heap.size, 1, none⟩) (by have := DP.out; have := DQ.out; have := LV.out; simp <;> omega) _).far (p := ⟨W6.heap.size, 2, none⟩) (by have := DP.out; have := DQ.out; have := LV.out; simp <;> omega) _)
        clear RV12
        have RQ13 := hide (show Row W13 (W6.heap.size + 1) 29 [.slice none 0 0, .slice none 0 0, .int .i64 0] by rw [← hW13]; exact (((RQ12.out).far (p := ⟨W6.heap.size, 0, none⟩) (by have := DP.out; have := DQ.out; have := LV.out; simp <;> omega) _).far (p := ⟨W6.heap.size, 1, none⟩) (by have := DP.out; have := DQ.out; have := LV.out; simp <;> omega) _).far (p := ⟨W6.heap.size, 2, none⟩) (by have := DP.out; have := DQ.out; have := LV.out; simp <;> omega) _)
        clear RQ12
        have Sa13 := hide (show StkAt W13 W13.heap.size a1 k1 a2 k2 S by rw [← hW13]; exact StkAt.put (StkAt.put (StkAt.put (Sa12.out) ((RP12.out).cell (k := 0) rfl) rfl _) (((RP12.out).set_ 0 _).cell (k := 1) rfl) rfl _) ((((RP12.out).set_ 0 _).set_ 1 _).cell (k := 2) rfl) rfl _)
        clear Sa12
        have Sb13 := hide (show StkAt W13 W13.heap.size b1 l1 b2 l2 S by rw [← hW13]; exact StkAt.put (StkAt.put (StkAt.put (Sb12.out) ((RP12.out).cell (k := 0) rfl) rfl _) (((RP12.out).set_ 0 _).cell (k := 1) rfl) rfl _) ((((RP12.out).set_ 0 _).set_ 1 _).cell (k := 2) rfl) rfl _)
        clear Sb12
        have Sp13 := hide (show StkAt W13 W13.heap.size x1 y1 x2 y2 T by rw [← hW13]; exact StkAt.put (StkAt.put (StkAt.put (Sp11.out) ((RP12.out).cell (k := 0) rfl) rfl _) (((RP12.out).set_ 0 _).cell (k := 1) rfl) rfl _) ((((RP12.out).set_ 0 _).set_ 1 _).cell (k := 2) rfl) rfl _)
        clear Sp11
        have Cc13 := hide (show CodesM r0 W13 g by rw [← hW13]; exact (((Cc12.out).put (RP12.out) (by decide) ((RP12.out).cell (k := 0) rfl) rfl _).put ((RP12.out).set_ 0 _) (by decide) (((RP12.out).set_ 0 _).cell (k := 1) rfl) rfl _).put (((RP12.out).set_ 0 _).set_ 1 _) (by decide) ((((RP12.out).set_ 0 _).set_ 1 _).cell (k := 2) rfl) rfl _)
        clear Cc12
        have B13 := hide (show w.grownBy W13 (some g) by rw [← hW13]; exact grown_put (grown_put (grown_put (B12.out) (by have := DP.out; have := DQ.out; omega)) (by have := DP.out; have := DQ.out; omega)) (by have := DP.out; have := DQ.out; omega))
        clear hW13 RP12
        rw [HW13.out]
        clear fP0 fP1 fP2 yP0 yP1 yP2
        have fB0 := RB13.out.cell (k := 0) rfl
        have fB1 := RB13.out.cell (k := 1) rfl
        have fB2 := RB13.out.cell (k := 2) rfl
        go_wp2_with fail
        go_fit (c2 _ Sb13)
        rintro e w14 ⟨p1, q1, p2, q2, rfl, hS14, hb14⟩
        have Sq14 := hide hS14
        clear hS14
        have RA15 := hide (RA13.out.call hb14)
        clear RA13
        have RB15 := hide (RB13.out.call hb14)
        clear RB13
        have RY15 := hide (RY13.out.call hb14)
        clear RY13
        have RZ15 := hide (RZ13.out.call hb14)
        clear RZ13
        have RV15 := hide (RV13.out.call hb14)
        clear RV13
        have RP15 := hide (RP13.out.call hb14)
        clear RP13
        have RQ15 := hide (RQ13.out.call hb14)
        clear RQ13
        have Sa15 := hide (Sa13.out.call hb14)
        clear Sa13
        have Sb15 := hide (Sb13.out.call hb14)
        clear Sb13
        have Sp15 := hide (Sp13.out.call hb14)
        clear Sp13
        have Cc15 := hide (Cc13.out.below hb14)
        clear Cc13
        have B15 := hide (B13.out.trans (grown_below hb14 _))
        clear B13
        clear hb14
        clear fB0 fB1 fB2
        have fQ0 := RQ15.out.cell (k := 0) rfl
        have fQ1 := RQ15.out.cell (k := 1) rfl
        have fQ2 := RQ15.out.cell (k := 2) rfl
        have yQ0 := RQ15.out.free 0
        have yQ1 := RQ15.out.free 1
        have yQ2 := RQ15.out.free 2
        go_wp2_with fail
        obtain ⟨W16, hW16⟩ : ∃ W, ((w14.setCell ⟨W6.heap.size + 1, 0, none⟩ (.slice p1 T.bs.length q1)).setCell ⟨W6.heap.size + 1, 1, none⟩ (.slice p2 T.bs.length q2)).setCell ⟨W6.heap.size + 1, 2, none⟩ (.int .i64 (T.sp : Int)) = W := ⟨_, rfl⟩
        have HW16 := hide hW16
        have RQ16 := hide (show Row W16 (W6.heap.size + 1) 29 [.slice p1 T.bs.length q1, .slice p2 T.bs.length q2, .int .i64 (T.sp : Int)] by rw [← hW16]; exact (((RQ15.out).set_ 0 _).set_ 1 _).set_ 2 _)
        have RA16 := hide (show Row W16 (w.heap.size) 29 [.slice a1 S.bs.length k1, .slice a2 S.bs.length k2, .int .i64 (S.sp : Int)] by rw [← hW16]; exact (((RA15.out).far (p := ⟨W6.heap.size + 1, 0, none⟩) (by have := DP.out; have := DQ.out; have := LV.out; simp <;> omega) _).far (p := ⟨W6.heap.size + 1, 1, none⟩) (by have := DP.out; have := DQ.out; have := LV.out; simp <;> omega) _).far (p := ⟨W6.heap.size + 1, 2, none⟩) (by have := DP.out; have := DQ.out; have := LV.out; simp <;> omega) _)
        clear RA15
        have RB16 := hide (show Row W16 (w.heap.size + 1) 29 [.slice b1 S.bs.length l1, .slice b2 S.bs.length l2, .int .i64 (S.sp : Int)] by rw [← hW16]; exact (((RB15.out).far (p := ⟨W6.heap.size + 1, 0, none⟩) (by have := DP.out; have := DQ.out; have := LV.out; simp <;> omega) _).far (p := ⟨W6.heap.size + 1, 1, none⟩) (by have := DP.out; have := DQ.out; have := LV.out; simp <;> omega) _).far (p := ⟨W6.heap.size + 1, 2, none⟩) (by have := DP.out; have := DQ.out; have := LV.out; simp <;> omega) _)
        clear RB15
        have RY16 := hide (show Row W16 (w.heap.size + 2) 29 [.slice none 0 0, .slice none 0 0, .int .i64 0] by rw [← hW16]; exact (((RY15.out).far (p := ⟨W6.heap.size + 1, 0, none⟩) (by have := DP.out; have := DQ.out; have := LV.out; simp <;> omega) _).far (p := ⟨W6.heap.size + 1, 1, none⟩) (by have := DP.out; have := DQ.out; have := LV.out; simp <;> omega) _).far (p := ⟨W6.heap.size + 1, 2, none⟩) (by have := DP.out; have := DQ.out; have := LV.out; simp <;> omega) _)
        clear RY15
        have RZ16 := hide (show Row W16 (w.heap.size + 3) 29 [.slice none 0 0, .slice none 0 0, .int .i64 0] by rw [← hW16]; exact (((RZ15.out).far (p := ⟨W6.heap.size + 1, 0, none⟩) (by have := DP.out; have := DQ.out; have := LV.out; simp <;> omega) _).far (p := ⟨W6.heap.size + 1, 1, none⟩) (by have := DP.out; have := DQ.out; have := LV.out; simp <;> omega) _).far (p := ⟨W6.heap.size + 1, 2, none⟩) (by have := DP.out; have := DQ.out; have := LV.out; simp <;> omega) _)
        clear RZ15
        have RV16 := hide (show Row W16 (w5.heap.size) 39 [.int .u64 (lo X), .int .u64 (hi X)] by rw [← hW16]; exact (((RV15.out).far (p := ⟨W6.heap.size + 1, 0, none⟩) (by have := DP.out; have := DQ.out; have := LV.out; simp <;> omega) _).far (p := ⟨W6.heap.size + 1, 1, none⟩) (by have := DP.out; have := DQ.out; have := LV.out; simp <;> omega) _).far (p := ⟨W6.heap.size + 1, 2, none⟩) (by have := DP.out; have := DQ.out; have := LV.out; simp <;> omega) _)
        clear RV15
        have RP16 := hide (show Row W16 (W6.heap.size) 29 [.slice x1 T.bs.length y1, .slice x2 T.bs.length y2, .int .i64 (T.sp : Int)] by rw [← hW16]; exact (((RP15.out).far (p := ⟨W6.heap.size + 1, 0, none⟩) (by have := DP.out; have := DQ.out; have := LV.out; simp <;> omega) _).far (p := ⟨W6.heap.size + 1, 1, none⟩) (by have := DP.out; have := DQ.out; have := LV.out; simp <;> omega) _).far (p := ⟨W6.heap.size + 1, 2, none⟩) (by have := DP.out; have := DQ.out; have := LV.out; simp <;> omega) _)
        clear RP15
        have Sa16 := hide (show StkAt W16 W16.heap.size a1 k1 a2 k2 S by rw [← hW16]; exact StkAt.put (StkAt.put (StkAt.put (Sa15.out) ((RQ15.out).cell (k := 0) rfl) rfl _) (((RQ15.out).set_ 0 _).cell (k := 1) rfl) rfl _) ((((RQ15.out).set_ 0 _).set_ 1 _).cell (k := 2) rfl) rfl _)
        clear Sa15
        have Sb16 := hide (show StkAt W16 W16.heap.size b1 l1 b2 l2 S by rw [← hW16]; exact StkAt.put (StkAt.put (StkAt.put (Sb15.out) ((RQ15.out).cell (k := 0) rfl) rfl _) (((RQ15.out).set_ 0 _).cell (k := 1) rfl) rfl _) ((((RQ15.out).set_ 0 _).set_ 1 _).cell (k := 2) rfl) rfl _)
        clear Sb15
        have Sp16 := hide (show StkAt W16 W16.heap.size x1 y1 x2 y2 T by rw [← hW16]; exact StkAt.put (StkAt.put (StkAt.put (Sp15.out) ((RQ15.out).cell (k := 0) rfl) rfl _) (((RQ15.out).set_ 0 _).cell (k := 1) rfl) rfl _) ((((RQ15.out).set_ 0 _).set_ 1 _).cell (k := 2) rfl) rfl _)
        clear Sp15
        have Sq16 := hide (show StkAt W16 W16.heap.size p1 q1 p2 q2 T by rw [← hW16]; exact StkAt.put (StkAt.put (StkAt.put (Sq14.out) ((RQ15.out).cell (k := 0) rfl) rfl _) (((RQ15.out).set_ 0 _).cell (k := 1) rfl) rfl _) ((((RQ15.out).set_ 0 _).set_ 1 _).cell (k := 2) rfl) rfl _)
        clear Sq14
        have Cc16 := hide (show CodesM r0 W16 g by rw [← hW16]; exact (((Cc15.out).put (RQ15.out) (by decide) ((RQ15.out).cell (k := 0) rfl) rfl _).put ((RQ15.out).set_ 0 _) (by decide) (((RQ15.out).set_ 0 _).cell (k := 1) rfl) rfl _).put (((RQ15.out).set_ 0 _).set_ 1 _) (by decide) ((((RQ15.out).set_ 0 _).set_ 1 _).cell (k := 2) rfl) rfl _)
        clear Cc15
        have B16 := hide (show w.grownBy W16 (some g) by rw [← hW16]; exact grown_put (grown_put (grown_put (B15.out) (by have := DP.out; have := DQ.out; omega)) (by have := DP.out; have := DQ.out; omega)) (by have := DP.out; have := DQ.out; omega))
        clear hW16 RQ15
        rw [HW16.out]
        go_meet
        exact hide ⟨E, b, T, x1, y1, x2, y2, p1, q1, p2, q2, rfl, rfl, rfl, rfl, RA16.out, RB16.out, RY16.out, RZ16.out, RP16.out, RQ16.out, Sa16.out, Sb16.out, Sp16.out, Sq16.out, Cc16.out, B16.out⟩
      by_cases hz3 : z = 3
      · subst hz3
        obtain ⟨E, hEE⟩ : ∃ E, fitE S kk n = E := ⟨_, rfl⟩
        obtain ⟨b, hbb⟩ : ∃ b, loadB S kk n = b := ⟨_, rfl⟩
        obtain ⟨V, hVV⟩ : ∃ V, loadV S kk n = V := ⟨_, rfl⟩
        have c1 := fun W HS => load_any (A1 := a1) (A2 := a2) (c1 := k1) (c2 := k2) (S := S) kk n hk W HS
        have c2 := fun W HS => rload_any (A1 := b1) (A2 := b2) (c1 := l1) (c2 := l2) (S := S) kk n hk W HS
        unfold LoadPost at c1 c2
        simp only [hEE, hbb, hVV] at c1 c2
        clear hEE hbb hVV
        have heq := fun W => run_eq_same V V W rfl
        go_upto_region 24 with (fail)
        have DM := hide (show w.heap.size + 3 < w9.heap.size from RZ9.out.lt)
        obtain ⟨W10, hW10⟩ : ∃ W, w9.alloc (.cells #[.int .u64 0, .int .u64 0] 39) = W := ⟨_, rfl⟩
        have HW10 := hide hW10
        have RA10 := hide (show Row W10 (w.heap.size) 29 [.slice a1 S.bs.length k1, .slice a2 S.bs.length k2, .int .i64 (S.sp : Int)] by rw [← hW10]; exact RA9.out.alloc _)
        clear RA9
        have RB10 := hide (show Row W10 (w.heap.size + 1) 29 [.slice b1 S.bs.length l1, .slice b2 S.bs.length l2, .int .i64 (S.sp : Int)] by rw [← hW10]; exact RB9.out.alloc _)
        clear RB9
        have RY10 := hide (show Row W10 (w.heap.size + 2) 29 [.slice none 0 0, .slice none 0 0, .int .i64 0] by rw [← hW10]; exact RY9.out.alloc _)
        clear RY9
        have RZ10 := hide (show Row W10 (w.heap.size + 3) 29 [.slice none 0 0, .slice none 0 0, .int .i64 0] by rw [← hW10]; exact RZ9.out.alloc _)
        clear RZ9
        have RV10 := hide (show Row W10 (w5.heap.size) 39 [.int .u64 (lo X), .int .u64 (hi X)] by rw [← hW10]; exact RV9.out.alloc _)
        clear RV9
        have RP10 := hide (show Row W10 (W6.heap.size) 29 [.slice none 0 0, .slice none 0 0, .int .i64 0] by rw [← hW10]; exact RP9.out.alloc _)
        clear RP9
        have RQ10 := hide (show Row W10 (W6.heap.size + 1) 29 [.slice none 0 0, .slice none 0 0, .int .i64 0] by rw [← hW10]; exact RQ9.out.alloc _)
        clear RQ9
        have RM10 := hide (show Row W10 (w9.heap.size) 39 [.int .u64 0, .int .u64 0] by rw [← hW10]; exact Row.new w9 _ _)
        have Sa10 := hide (show StkAt W10 W10.heap.size a1 k1 a2 k2 S by rw [← hW10]; exact Sa9.out.alloc _)
        clear Sa9
        have Sb10 := hide (show StkAt W10 W10.heap.size b1 l1 b2 l2 S by rw [← hW10]; exact Sb9.out.alloc _)
        clear Sb9
        have Cc10 := hide (show CodesM r0 W10 g by rw [← hW10]; exact Cc9.out.alloc _)
        clear Cc9
        have L10 := hide (show w9.heap.size < W10.heap.size by rw [← hW10]; simp)
        have G10 := hide B9.out.size
        have B10 := hide (show w.grownBy W10 (some g) by rw [← hW10]; exact B9.out.trans (grown_below (below1 _ _) _))
        clear hW10
        have DN := hide (show w9.heap.size < W10.heap.size from L10.out)
        obtain ⟨W11, hW11⟩ : ∃ W, W10.alloc (.cells #[.int .u64 0, .int .u64 0] 39) = W := ⟨_, rfl⟩
        have HW11 := hide hW11
        have RA11 := hide (show Row W11 (w.heap.size) 29 [.slice a1 S.bs.length k1, .slice a2 S.bs.length k2, .int .i64 (S.sp : Int)] by rw [← hW11]; exact RA10.out.alloc _)
        clear RA10
        have RB11 := hide (show Row W11 (w.heap.size + 1) 29 [.slice b1 S.bs.length l1, .slice b2 S.bs.length l2, .int .i64 (S.sp : Int)] by rw [← hW11]; exact RB10.out.alloc _)
        clear RB10
        have RY11 := hide (show Row W11 (w.heap.size + 2) 29 [.slice none 0 0, .slice none 0 0, .int .i64 0] by rw [← hW11]; exact RY10.out.alloc _)
        clear RY10
        have RZ11 := hide (show Row W11 (w.heap.size + 3) 29 [.slice none 0 0, .slice none 0 0, .int .i64 0] by rw [← hW11]; exact RZ10.out.alloc _)
        clear RZ10
        have RV11 := hide (show Row W11 (w5.heap.size) 39 [.int .u64 (lo X), .int .u64 (hi X)] by rw [← hW11]; exact RV10.out.alloc _)
        clear RV10
        have RP11 := hide (show Row W11 (W6.heap.size) 29 [.slice none 0 0, .slice none 0 0, .int .i64 0] by rw [← hW11]; exact RP10.out.alloc _)
        clear RP10
        have RQ11 := hide (show Row W11 (W6.heap.size + 1) 29 [.slice none 0 0, .slice none 0 0, .int .i64 0] by rw [← hW11]; exact RQ10.out.alloc _)
        clear RQ10
        have RM11 := hide (show Row W11 (w9.heap.size) 39 [.int .u64 0, .int .u64 0] by rw [← hW11]; exact RM10.out.alloc _)
        clear RM10
        have RN11 := hide (show Row W11 (W10.heap.size) 39 [.int .u64 0, .int .u64 0] by rw [← hW11]; exact Row.new W10 _ _)
        have Sa11 := hide (show StkAt W11 W11.heap.size a1 k1 a2 k2 S by rw [← hW11]; exact Sa10.out.alloc _)
        clear Sa10
        have Sb11 := hide (show StkAt W11 W11.heap.size b1 l1 b2 l2 S by rw [← hW11]; exact Sb10.out.alloc _)
        clear Sb10
        have Cc11 := hide (show CodesM r0 W11 g by rw [← hW11]; exact Cc10.out.alloc _)
        clear Cc10
        have L11 := hide (show W10.heap.size < W11.heap.size by rw [← hW11]; simp)
        have G11 := hide B10.out.size
        have B11 := hide (show w.grownBy W11 (some g) by rw [← hW11]; exact B10.out.trans (grown_below (below1 _ _) _))
        clear hW11
        rw [HW10.out, HW11.out]
        have HN := hide (show W10.heap.size = w9.heap.size + 1 by rw [← HW10.out]; simp)
        rw [HN.out] at RN11
        rw [HN.out] at DN
        have hbx := same_b b
        have fA0 := RA11.out.cell (k := 0) rfl
        have fA1 := RA11.out.cell (k := 1) rfl
        have fA2 := RA11.out.cell (k := 2) rfl
        go_wp2_with fail
        refine (c1 _ Sa11).mono ?_
        rintro e w12 ⟨rfl, hb12⟩
        have RA13 := hide (RA11.out.call hb12)
        clear RA11
        have RB13 := hide (RB11.out.call hb12)
        clear RB11
        have RY13 := hide (RY11.out.call hb12)
        clear RY11
        have RZ13 := hide (RZ11.out.call hb12)
        clear RZ11
        have RM13 := hide (RM11.out.call hb12)
        clear RM11
        have RN13 := hide (RN11.out.call hb12)
        clear RN11
        have Sa13 := hide (Sa11.out.call hb12)
        clear Sa11
        have Sb13 := hide (Sb11.out.call hb12)
        clear Sb11
        have Cc13 := hide (Cc11.out.below hb12)
        clear Cc11
        have B13 := hide (B11.out.trans (grown_below hb12 _))
        clear B11
        clear hb12
        clear fA0 fA1 fA2
        have fM0 := RM13.out.cell (k := 0) rfl
        have fM1 := RM13.out.cell (k := 1) rfl
        have yM0 := RM13.out.free 0
        have yM1 := RM13.out.free 1
        go_upto_region 25 with (fail)
        obtain ⟨W14, hW14⟩ : ∃ W, (w12.setCell ⟨w9.heap.size, 0, none⟩ (.int .u64 (lo V))).setCell ⟨w9.heap.size, 1, none⟩ (.int .u64 (hi V)) = W := ⟨_, rfl⟩
        have HW14 := hide hW14
        have RM14 := hide (show Row W14 (w9.heap.size) 39 [.int .u64 (lo V), .int .u64 (hi V)] by rw [← hW14]; exact ((RM13.out).set_ 0 _).set_ 1 _)
        have RA14 := hide (show Row W14 (w.heap.size) 29 [.slice a1 S.bs.length k1, .slice a2 S.bs.length k2, .int .i64 (S.sp : Int)] by rw [← hW14]; exact ((RA13.out).far (p := ⟨w9.heap.size, 0, none⟩) (by have := DM.out; have := DN.out; simp <;> omega) _).far (p := ⟨w9.heap.size, 1, none⟩) (by have := DM.out; have := DN.out; simp <;> omega) _)
        clear RA13
        have RB14 := hide (show Row W14 (w.heap.size + 1) 29 [.slice b1 S.bs.length l1, .slice b2 S.bs.length l2, .int .i64 (S.sp : Int)] by rw [← hW14]; exact ((RB13.out).far (p := ⟨w9.heap.size, 0, none⟩) (by have := DM.out; have := DN.out; simp <;> omega) _).far (p := ⟨w9.heap.size, 1, none⟩) (by have := DM.out; have := DN.out; simp <;> omega) _)
        clear RB13
        have RY14 := hide (show Row W14 (w.heap.size + 2) 29 [.slice none 0 0, .slice none 0 0, .int .i64 0] by rw [← hW14]; exact ((RY13.out).far (p := ⟨w9.heap.size, 0, none⟩) (by have := DM.out; have := DN.out; simp <;> omega) _).far (p := ⟨w9.heap.size, 1, none⟩) (by have := DM.out; have := DN.out; simp <;> omega) _)
        clear RY13
        have RZ14 := hide (show Row W14 (w.heap.size + 3) 29 [.slice none 0 0, .slice none 0 0, .int .i64 0] by rw [← hW14]; exact ((RZ13.out).far (p := ⟨w9.heap.size, 0, none⟩) (by have := DM.out; have := DN.out; simp <;> omega) _).far (p := ⟨w9.heap.size, 1, none⟩) (by have := DM.out; have := DN.out; simp <;> omega) _)
        clear RZ13
        have RN14 := hide (show Row W14 (w9.heap.size + 1) 39 [.int .u64 0, .int .u64 0] by rw [← hW14]; exact ((RN13.out).far (p := ⟨w9.heap.size, 0, none⟩) (by have := DM.out; have := DN.out; simp <;> omega) _).far (p := ⟨w9.heap.size, 1, none⟩) (by have := DM.out; have := DN.out; simp <;> omega) _)
        clear RN13
        have Sa14 := hide (show StkAt W14 W14.heap.size a1 k1 a2 k2 S by rw [← hW14]; exact StkAt.put (StkAt.put (Sa13.out) ((RM13.out).cell (k := 0) rfl) rfl _) (((RM13.out).set_ 0 _).cell (k := 1) rfl) rfl _)
        clear Sa13
        have Sb14 := hide (show StkAt W14 W14.heap.size b1 l1 b2 l2 S by rw [← hW14]; exact StkAt.put (StkAt.put (Sb13.out) ((RM13.out).cell (k := 0) rfl) rfl _) (((RM13.out).set_ 0 _).cell (k := 1) rfl) rfl _)
        clear Sb13
        have Cc14 := hide (show CodesM r0 W14 g by rw [← hW14]; exact ((Cc13.out).put (RM13.out) (by decide) ((RM13.out).cell (k := 0) rfl) rfl _).put ((RM13.out).set_ 0 _) (by decide) (((RM13.out).set_ 0 _).cell (k := 1) rfl) rfl _)
        clear Cc13
        have B14 := hide (show w.grownBy W14 (some g) by rw [← hW14]; exact grown_put (grown_put (B13.out) (by have := DM.out; have := DN.out; omega)) (by have := DM.out; have := DN.out; omega))
        clear hW14 RM13
        rw [HW14.out]
        clear fM0 fM1 yM0 yM1
        have fB0 := RB14.out.cell (k := 0) rfl
        have fB1 := RB14.out.cell (k := 1) rfl
        have fB2 := RB14.out.cell (k := 2) rfl
        go_wp2_with fail
        refine (c2 _ Sb14).mono ?_
        rintro e w15 ⟨rfl, hb15⟩
        have RA16 := hide (RA14.out.call hb15)
        clear RA14
        have RB16 := hide (RB14.out.call hb15)
        clear RB14
        have RY16 := hide (RY14.out.call hb15)
        clear RY14
        have RZ16 := hide (RZ14.out.call hb15)
        clear RZ14
        have RM16 := hide (RM14.out.call hb15)
        clear RM14
        have RN16 := hide (RN14.out.call hb15)
        clear RN14
        have Sa16 := hide (Sa14.out.call hb15)
        clear Sa14
        have Sb16 := hide (Sb14.out.call hb15)
        clear Sb14
        have Cc16 := hide (Cc14.out.below hb15)
        clear Cc14
        have B16 := hide (B14.out.trans (grown_below hb15 _))
        clear B14
        clear hb15
        clear fB0 fB1 fB2
        have fN0 := RN16.out.cell (k := 0) rfl
        have fN1 := RN16.out.cell (k := 1) rfl
        have yN0 := RN16.out.free 0
        have yN1 := RN16.out.free 1
        go_upto_region 26 with (fail)
        obtain ⟨W17, hW17⟩ : ∃ W, (w15.setCell ⟨w9.heap.size + 1, 0, none⟩ (.int .u64 (lo V))).setCell ⟨w9.heap.size + 1, 1, none⟩ (.int .u64 (hi V)) = W := ⟨_, rfl⟩
        have HW17 := hide hW17
        have RN17 := hide (show Row W17 (w9.heap.size + 1) 39 [.int .u64 (lo V), .int .u64 (hi V)] by rw [← hW17]; exact ((RN16.out).set_ 0 _).set_ 1 _)
        have RA17 := hide (show Row W17 (w.heap.size) 29 [.slice a1 S.bs.length k1, .slice a2 S.bs.length k2, .int .i64 (S.sp : Int)] by rw [← hW17]; exact ((RA16.out).far (p := ⟨w9.heap.size + 1, 0, none⟩) (by have := DM.out; have := DN.out; simp <;> omega) _).far (p := ⟨w9.heap.size + 1, 1, none⟩) (by have := DM.out; have := DN.out; simp <;> omega) _)
        clear RA16
        have RB17 := hide (show Row W17 (w.heap.size + 1) 29 [.slice b1 S.bs.length l1, .slice b2 S.bs.length l2, .int .i64 (S.sp : Int)] by rw [← hW17]; exact ((RB16.out).far (p := ⟨w9.heap.size + 1, 0, none⟩) (by have := DM.out; have := DN.out; simp <;> omega) _).far (p := ⟨w9.heap.size + 1, 1, none⟩) (by have := DM.out; have := DN.out; simp <;> omega) _)
        clear RB16
        have RY17 := hide (show Row W17 (w.heap.size + 2) 29 [.slice none 0 0, .slice none 0 0, .int .i64 0] by rw [← hW17]; exact ((RY16.out).far (p := ⟨w9.heap.size + 1, 0, none⟩) (by have := DM.out; have := DN.out; simp <;> omega) _).far (p := ⟨w9.heap.size + 1, 1, none⟩) (by have := DM.out; have := DN.out; simp <;> omega) _)
        clear RY16
        have RZ17 := hide (show Row W17 (w.heap.size + 3) 29 [.slice none 0 0, .slice none 0 0, .int .i64 0] by rw [← hW17]; exact ((RZ16.out).far (p := ⟨w9.heap.size + 1, 0, none⟩) (by have := DM.out; have := DN.out; simp <;> omega) _).far (p := ⟨w9.heap.size + 1, 1, none⟩) (by have := DM.out; have := DN.out; simp <;> omega) _)
        clear RZ16
        have RM17 := hide (show Row W17 (w9.heap.size) 39 [.int .u64 (lo V), .int .u64 (hi V)] by rw [← hW17]; exact ((RM16.out).far (p := ⟨w9.heap.size + 1, 0, none⟩) (by have := DM.out; have := DN.out; simp <;> omega) _).far (p := ⟨w9.heap.size + 1, 1, none⟩) (by have := DM.out; have := DN.out; simp <;> omega) _)
        clear RM16
        have Sa17 := hide (show StkAt W17 W17.heap.size a1 k1 a2 k2 S by rw [← hW17]; exact StkAt.put (StkAt.put (Sa16.out) ((RN16.out).cell (k := 0) rfl) rfl _) (((RN16.out).set_ 0 _).cell (k := 1) rfl) rfl _)
        clear Sa16
        have Sb17 := hide (show StkAt W17 W17.heap.size b1 l1 b2 l2 S by rw [← hW17]; exact StkAt.put (StkAt.put (Sb16.out) ((RN16.out).cell (k := 0) rfl) rfl _) (((RN16.out).set_ 0 _).cell (k := 1) rfl) rfl _)
        clear Sb16
        have Cc17 := hide (show CodesM r0 W17 g by rw [← hW17]; exact ((Cc16.out).put (RN16.out) (by decide) ((RN16.out).cell (k := 0) rfl) rfl _).put ((RN16.out).set_ 0 _) (by decide) (((RN16.out).set_ 0 _).cell (k := 1) rfl) rfl _)
        clear Cc16
        have B17 := hide (show w.grownBy W17 (some g) by rw [← hW17]; exact grown_put (grown_put (B16.out) (by have := DM.out; have := DN.out; omega)) (by have := DM.out; have := DN.out; omega))
        clear hW17 RN16
        rw [HW17.out]
        go_upto_region 26 with (fail)
        clear fN0 fN1 yN0 yN1
        have fA0 := RA17.out.cell (k := 0) rfl
        have fA1 := RA17.out.cell (k := 1) rfl
        have fA2 := RA17.out.cell (k := 2) rfl
        have fB0 := RB17.out.cell (k := 0) rfl
        have fB1 := RB17.out.cell (k := 1) rfl
        have fB2 := RB17.out.cell (k := 2) rfl
        have fY0 := RY17.out.cell (k := 0) rfl
        have fY1 := RY17.out.cell (k := 1) rfl
        have fY2 := RY17.out.cell (k := 2) rfl
        have fZ0 := RZ17.out.cell (k := 0) rfl
        have fZ1 := RZ17.out.cell (k := 1) rfl
        have fZ2 := RZ17.out.cell (k := 2) rfl
        have fM0 := RM17.out.cell (k := 0) rfl
        have fM1 := RM17.out.cell (k := 1) rfl
        have fN0 := RN17.out.cell (k := 0) rfl
        have fN1 := RN17.out.cell (k := 1) rfl
        have yY0 := RY17.out.free 0
        have yY1 := RY17.out.free 1
        have yY2 := RY17.out.free 2
        have yZ0 := RZ17.out.free 0
        have yZ1 := RZ17.out.free 1
        have yZ2 := RZ17.out.free 2
        go_region
        obtain ⟨W18, hW18⟩ : ∃ W, ((W17.setCell ⟨w.heap.size + 2, 0, none⟩ (.slice a1 S.bs.length k1)).setCell ⟨w.heap.size + 2, 1, none⟩ (.slice a2 S.bs.length k2)).setCell ⟨w.heap.size + 2, 2, none⟩ (.int .i64 (S.sp : Int)) = W := ⟨_, rfl⟩
        have HW18 := hide hW18
        have RY18 := hide (show Row W18 (w.heap.size + 2) 29 [.slice a1 S.bs.length k1, .slice a2 S.bs.length k2, .int .i64 (S.sp : Int)] by rw [← hW18]; exact (((RY17.out).set_ 0 _).set_ 1 _).set_ 2 _)
        have RA18 := hide (show Row W18 (w.heap.size) 29 [.slice a1 S.bs.length k1, .slice a2 S.bs.length k2, .int .i64 (S.sp : Int)] by rw [← hW18]; exact (((RA17.out).far (p := ⟨w.heap.size + 2, 0, none⟩) (by simp) _).far (p := ⟨w.heap.size + 2, 1, none⟩) (by simp) _).far (p := ⟨w.heap.size + 2, 2, none⟩) (by simp) _)
        clear RA17
        have RB18 := hide (show Row W18 (w.heap.size + 1) 29 [.slice b1 S.bs.length l1, .slice b2 S.bs.length l2, .int .i64 (S.sp : Int)] by rw [← hW18]; exact (((RB17.out).far (p := ⟨w.heap.size + 2, 0, none⟩) (by simp) _).far (p := ⟨w.heap.size + 2, 1, none⟩) (by simp) _).far (p := ⟨w.heap.size + 2, 2, none⟩) (by simp) _)
        clear RB17
        have RZ18 := hide (show Row W18 (w.heap.size + 3) 29 [.slice none 0 0, .slice none 0 0, .int .i64 0] by rw [← hW18]; exact (((RZ17.out).far (p := ⟨w.heap.size + 2, 0, none⟩) (by simp) _).far (p := ⟨w.heap.size + 2, 1, none⟩) (by simp) _).far (p := ⟨w.heap.size + 2, 2, none⟩) (by simp) _)
        clear RZ17
        have Sa18 := hide (show StkAt W18 W18.heap.size a1 k1 a2 k2 S by rw [← hW18]; exact StkAt.put (StkAt.put (StkAt.put (Sa17.out) ((RY17.out).cell (k := 0) rfl) rfl _) (((RY17.out).set_ 0 _).cell (k := 1) rfl) rfl _) ((((RY17.out).set_ 0 _).set_ 1 _).cell (k := 2) rfl) rfl _)
        clear Sa17
        have Sb18 := hide (show StkAt W18 W18.heap.size b1 l1 b2 l2 S by rw [← hW18]; exact StkAt.put (StkAt.put (StkAt.put (Sb17.out) ((RY17.out).cell (k := 0) rfl) rfl _) (((RY17.out).set_ 0 _).cell (k := 1) rfl) rfl _) ((((RY17.out).set_ 0 _).set_ 1 _).cell (k := 2) rfl) rfl _)
        clear Sb17
        have Cc18 := hide (show CodesM r0 W18 g by rw [← hW18]; exact (((Cc17.out).put (RY17.out) (by decide) ((RY17.out).cell (k := 0) rfl) rfl _).put ((RY17.out).set_ 0 _) (by decide) (((RY17.out).set_ 0 _).cell (k := 1) rfl) rfl _).put (((RY17.out).set_ 0 _).set_ 1 _) (by decide) ((((RY17.out).set_ 0 _).set_ 1 _).cell (k := 2) rfl) rfl _)
        clear Cc17
        have B18 := hide (show w.grownBy W18 (some g) by rw [← hW18]; exact grown_put (grown_put (grown_put (B17.out) (by omega)) (by omega)) (by omega))
        clear hW18 RY17
        obtain ⟨W19, hW19⟩ : ∃ W, ((W18.setCell ⟨w.heap.size + 3, 0, none⟩ (.slice b1 S.bs.length l1)).setCell ⟨w.heap.size + 3, 1, none⟩ (.slice b2 S.bs.length l2)).setCell ⟨w.heap.size + 3, 2, none⟩ (.int .i64 (S.sp : Int)) = W := ⟨_, rfl⟩
        have HW19 := hide hW19
        have RZ19 := hide (show Row W19 (w.heap.size + 3) 29 [.slice b1 S.bs.length l1, .slice b2 S.bs.length l2, .int .i64 (S.sp : Int)] by rw [← hW19]; exact (((RZ18.out).set_ 0 _).set_ 1 _).set_ 2 _)
        have RA19 := hide (show Row W19 (w.heap.size) 29 [.slice a1 S.bs.length k1, .slice a2 S.bs.length k2, .int .i64 (S.sp : Int)] by rw [← hW19]; exact (((RA18.out).far (p := ⟨w.heap.size + 3, 0, none⟩) (by simp) _).far (p := ⟨w.heap.size + 3, 1, none⟩) (by simp) _).far (p := ⟨w.heap.size + 3, 2, none⟩) (by simp) _)
        clear RA18
        have RB19 := hide (show Row W19 (w.heap.size + 1) 29 [.slice b1 S.bs.length l1, .slice b2 S.bs.length l2, .int .i64 (S.sp : Int)] by rw [← hW19]; exact (((RB18.out).far (p := ⟨w.heap.size + 3, 0, none⟩) (by simp) _).far (p := ⟨w.heap.size + 3, 1, none⟩) (by simp) _).far (p := ⟨w.heap.size + 3, 2, none⟩) (by simp) _)
        clear RB18
        have RY19 := hide (show Row W19 (w.heap.size + 2) 29 [.slice a1 S.bs.length k1, .slice a2 S.bs.length k2, .int .i64 (S.sp : Int)] by rw [← hW19]; exact (((RY18.out).far (p := ⟨w.heap.size + 3, 0, none⟩) (by simp) _).far (p := ⟨w.heap.size + 3, 1, none⟩) (by simp) _).far (p := ⟨w.heap.size + 3, 2, none⟩) (by simp) _)
        clear RY18
        have Sa19 := hide (show StkAt W19 W19.heap.size a1 k1 a2 k2 S by rw [← hW19]; exact StkAt.put (StkAt.put (StkAt.put (Sa18.out) ((RZ18.out).cell (k := 0) rfl) rfl _) (((RZ18.out).set_ 0 _).cell (k := 1) rfl) rfl _) ((((RZ18.out).set_ 0 _).set_ 1 _).cell (k := 2) rfl) rfl _)
        clear Sa18
        have Sb19 := hide (show StkAt W19 W19.heap.size b1 l1 b2 l2 S by rw [← hW19]; exact StkAt.put (StkAt.put (StkAt.put (Sb18.out) ((RZ18.out).cell (k := 0) rfl) rfl _) (((RZ18.out).set_ 0 _).cell (k := 1) rfl) rfl _) ((((RZ18.out).set_ 0 _).set_ 1 _).cell (k := 2) rfl) rfl _)
        clear Sb18
        have Cc19 := hide (show CodesM r0 W19 g by rw [← hW19]; exact (((Cc18.out).put (RZ18.out) (by decide) ((RZ18.out).cell (k := 0) rfl) rfl _).put ((RZ18.out).set_ 0 _) (by decide) (((RZ18.out).set_ 0 _).cell (k := 1) rfl) rfl _).put (((RZ18.out).set_ 0 _).set_ 1 _) (by decide) ((((RZ18.out).set_ 0 _).set_ 1 _).cell (k := 2) rfl) rfl _)
        clear Cc18
        have B19 := hide (show w.grownBy W19 (some g) by rw [← hW19]; exact grown_put (grown_put (grown_put (B18.out) (by omega)) (by omega)) (by omega))
        clear hW19 RZ18
        go_wp2_with fail
        rw [HW18.out, HW19.out]
        have fY0 := RY19.out.cell (k := 0) rfl
        have fY1 := RY19.out.cell (k := 1) rfl
        have fY2 := RY19.out.cell (k := 2) rfl
        have fZ0 := RZ19.out.cell (k := 0) rfl
        have fZ1 := RZ19.out.cell (k := 1) rfl
        have fZ2 := RZ19.out.cell (k := 2) rfl
        refine bodyPost_ret (v := .tuple #[.agg #[.slice a1 S.bs.length k1, .slice a2 S.bs.length k2, .int .i64 (S.sp : Int)], .agg #[.slice b1 S.bs.length l1, .slice b2 S.bs.length l2, .int .i64 (S.sp : Int)], .bool true]) (by simp [results, Try.results13, go_sem, fY0, fY1, fY2, fZ0, fZ1, fZ2]) rfl ?_
        exact ⟨S, _, _, _, _, _, _, _, _, rfl, Sa19.out.drewN 1, Sb19.out.drewN 1, Cc19.out.drewN 1, grown_draws (B19.out) 1⟩
      have e0 : (z == 0) = false := by simpa using hz0
      have e1 : (z == 1) = false := by simpa using hz1
      have e2 : (z == 2) = false := by simpa using hz2
      have e3 : (z == 3) = false := by simpa using hz3
      obtain ⟨T, hT⟩ : ∃ T, storeR S kk n X = T := ⟨_, rfl⟩
      obtain ⟨E, hEE⟩ : ∃ E, fitE S kk n = E := ⟨_, rfl⟩
      have c1 := fun W HS => store_any (A1 := a1) (A2 := a2) (c1 := k1) (c2 := k2) (S := S) kk n X hX W HS
      have c2 := fun W HS => rstore_any (A1 := b1) (A2 := b2) (c1 := l1) (c2 := l2) (S := S) kk n X hX hk W HS
      simp only [hT, hEE] at c1 c2
      clear hT hEE
      have fA0 := RA9.out.cell (k := 0) rfl
      have fA1 := RA9.out.cell (k := 1) rfl
      have fA2 := RA9.out.cell (k := 2) rfl
      have fV0 := RV9.out.cell (k := 0) rfl
      have fV1 := RV9.out.cell (k := 1) rfl
      go_wp2_with fail
      go_fit (c1 _ Sa9)
      rintro e w10 ⟨x1, y1, x2, y2, rfl, hS10, hb10⟩
      have Sp10 := hide hS10
      clear hS10
      have RA11 := hide (RA9.out.call hb10)
      clear RA9
      have RB11 := hide (RB9.out.call hb10)
      clear RB9
      have RY11 := hide (RY9.out.call hb10)
      clear RY9
      have RZ11 := hide (RZ9.out.call hb10)
      clear RZ9
      have RV11 := hide (RV9.out.call hb10)
      clear RV9
      have RP11 := hide (RP9.out.call hb10)
      clear RP9
      have RQ11 := hide (RQ9.out.call hb10)
      clear RQ9
      have Sa11 := hide (Sa9.out.call hb10)
      clear Sa9
      have Sb11 := hide (Sb9.out.call hb10)
      clear Sb9
      have Cc11 := hide (Cc9.out.below hb10)
      clear Cc9
      have B11 := hide (B9.out.trans (grown_below hb10 _))
      clear B9
      clear hb10
      clear fA0 fA1 fA2 fV0 fV1
      have fP0 := RP11.out.cell (k := 0) rfl
      have fP1 := RP11.out.cell (k := 1) rfl
      have fP2 := RP11.out.cell (k := 2) rfl
      have yP0 := RP11.out.free 0
      have yP1 := RP11.out.free 1
      have yP2 := RP11.out.free 2
      go_upto_region 11 with (fail)
      obtain ⟨W12, hW12⟩ : ∃ W, ((w10.setCell ⟨W6.heap.size, 0, none⟩ (.slice x1 T.bs.length y1)).setCell ⟨W6.heap.size, 1, none⟩ (.slice x2 T.bs.length y2)).setCell ⟨W6.heap.size, 2, none⟩ (.int .i64 (T.sp : Int)) = W := ⟨_, rfl⟩
      have HW12 := hide hW12
      have RP12 := hide (show Row W12 (W6.heap.size) 29 [.slice x1 T.bs.length y1, .slice x2 T.bs.length y2, .int .i64 (T.sp : Int)] by rw [← hW12]; exact (((RP11.out).set_ 0 _).set_ 1 _).set_ 2 _)
      have RA12 := hide (show Row W12 (w.heap.size) 29 [.slice a1 S.bs.length k1, .slice a2 S.bs.length k2, .int .i64 (S.sp : Int)] by rw [← hW12]; exact (((RA11.out).far (p := ⟨W6.heap.size, 0, none⟩) (by have := DP.out; have := DQ.out; have := LV.out; simp <;> omega) _).far (p := ⟨W6.heap.size, 1, none⟩) (by have := DP.out; have := DQ.out; have := LV.out; simp <;> omega) _).far (p := ⟨W6.heap.size, 2, none⟩) (by have := DP.out; have := DQ.out; have := LV.out; simp <;> omega) _)
      clear RA11
      have RB12 := hide (show Row W12 (w.heap.size + 1) 29 [.slice b1 S.bs.length l1, .slice b2 S.bs.length l2, .int .i64 (S.sp : Int)] by rw [← hW12]; exact (((RB11.out).far (p := ⟨W6.heap.size, 0, none⟩) (by have := DP.out; have := DQ.out; have := LV.out; simp <;> omega) _).far (p := ⟨W6.heap.size, 1, none⟩) (by have := DP.out; have := DQ.out; have := LV.out; simp <;> omega) _).far (p := ⟨W6.heap.size, 2, none⟩) (by have := DP.out; have := DQ.out; have := LV.out; simp <;> omega) _)
      clear RB11
      have RY12 := hide (show Row W12 (w.heap.size + 2) 29 [.slice none 0 0, .slice none 0 0, .int .i64 0] by rw [← hW12]; exact (((RY11.out).far (p := ⟨W6.heap.size, 0, none⟩) (by have := DP.out; have := DQ.out; have := LV.out; simp <;> omega) _).far (p := ⟨W6.heap.size, 1, none⟩) (by have := DP.out; have := DQ.out; have := LV.out; simp <;> omega) _).far (p := ⟨W6.heap.size, 2, none⟩) (by have := DP.out; have := DQ.out; have := LV.out; simp <;> omega) _)
      clear RY11
      have RZ12 := hide (show Row W12 (w.heap.size + 3) 29 [.slice none 0 0, .slice none 0 0, .int .i64 0] by rw [← hW12]; exact (((RZ11.out).far (p := ⟨W6.heap.size, 0, none⟩) (by have := DP.out; have := DQ.out; have := LV.out; simp <;> omega) _).far (p := ⟨W6.heap.size, 1, none⟩) (by have := DP.out; have := DQ.out; have := LV.out; simp <;> omega) _).far (p := ⟨W6.heap.size, 2, none⟩) (by have := DP.out; have := DQ.out; have := LV.out; simp <;> omega) _)
      clear RZ11
      have RV12 := hide (show Row W12 (w5.heap.size) 39 [.int .u64 (lo X), .int .u64 (hi X)] by rw [← hW12]; exact (((RV11.out).far (p := ⟨W6.heap.size, 0, none⟩) (by have := DP.out; have := DQ.out; have := LV.out; simp <;> omega) _).far (p := ⟨W6.heap.size, 1, none⟩) (by have := DP.out; have := DQ.out; have := LV.out; simp <;> omega) _).far (p := ⟨W6.heap.size, 2, none⟩) (by have := DP.out; have := DQ.out; have := LV.out; simp <;> omega) _)
      clear RV11
      have RQ12 := hide (show Row W12 (W6.heap.size + 1) 29 [.slice none 0 0, .slice none 0 0, .int .i64 0] by rw [← hW12]; exact (((RQ11.out).far (p := ⟨W6.heap.size, 0, none⟩) (by have := DP.out; have := DQ.out; have := LV.out; simp <;> omega) _).far (p := ⟨W6.heap.size, 1, none⟩) (by have := DP.out; have := DQ.out; have := LV.out; simp <;> omega) _).far (p := ⟨W6.heap.size, 2, none⟩) (by have := DP.out; have := DQ.out; have := LV.out; simp <;> omega) _)
      clear RQ11
      have Sa12 := hide (show StkAt W12 W12.heap.size a1 k1 a2 k2 S by rw [← hW12]; exact StkAt.put (StkAt.put (StkAt.put (Sa11.out) ((RP11.out).cell (k := 0) rfl) rfl _) (((RP11.out).set_ 0 _).cell (k := 1) rfl) rfl _) ((((RP11.out).set_ 0 _).set_ 1 _).cell (k := 2) rfl) rfl _)
      clear Sa11
      have Sb12 := hide (show StkAt W12 W12.heap.size b1 l1 b2 l2 S by rw [← hW12]; exact StkAt.put (StkAt.put (StkAt.put (Sb11.out) ((RP11.out).cell (k := 0) rfl) rfl _) (((RP11.out).set_ 0 _).cell (k := 1) rfl) rfl _) ((((RP11.out).set_ 0 _).set_ 1 _).cell (k := 2) rfl) rfl _)
      clear Sb11
      have Sp12 := hide (show StkAt W12 W12.heap.size x1 y1 x2 y2 T by rw [← hW12]; exact StkAt.put (StkAt.put (StkAt.put (Sp10.out) ((RP11.out).cell (k := 0) rfl) rfl _) (((RP11.out).set_ 0 _).cell (k := 1) rfl) rfl _) ((((RP11.out).set_ 0 _).set_ 1 _).cell (k := 2) rfl) rfl _)
      clear Sp10
      have Cc12 := hide (show CodesM r0 W12 g by rw [← hW12]; exact (((Cc11.out).put (RP11.out) (by decide) ((RP11.out).cell (k := 0) rfl) rfl _).put ((RP11.out).set_ 0 _) (by decide) (((RP11.out).set_ 0 _).cell (k := 1) rfl) rfl _).put (((RP11.out).set_ 0 _).set_ 1 _) (by decide) ((((RP11.out).set_ 0 _).set_ 1 _).cell (k := 2) rfl) rfl _)
      clear Cc11
      have B12 := hide (show w.grownBy W12 (some g) by rw [← hW12]; exact grown_put (grown_put (grown_put (B11.out) (by have := DP.out; have := DQ.out; omega)) (by have := DP.out; have := DQ.out; omega)) (by have := DP.out; have := DQ.out; omega))
      clear hW12 RP11
      rw [HW12.out]
      clear fP0 fP1 fP2 yP0 yP1 yP2
      have fB0 := RB12.out.cell (k := 0) rfl
      have fB1 := RB12.out.cell (k := 1) rfl
      have fB2 := RB12.out.cell (k := 2) rfl
      have fV0 := RV12.out.cell (k := 0) rfl
      have fV1 := RV12.out.cell (k := 1) rfl
      go_wp2_with fail
      go_fit (c2 _ Sb12)
      rintro e w13 ⟨p1, q1, p2, q2, rfl, hS13, hb13⟩
      have Sq13 := hide hS13
      clear hS13
      have RA14 := hide (RA12.out.call hb13)
      clear RA12
      have RB14 := hide (RB12.out.call hb13)
      clear RB12
      have RY14 := hide (RY12.out.call hb13)
      clear RY12
      have RZ14 := hide (RZ12.out.call hb13)
      clear RZ12
      have RV14 := hide (RV12.out.call hb13)
      clear RV12
      have RP14 := hide (RP12.out.call hb13)
      clear RP12
      have RQ14 := hide (RQ12.out.call hb13)
      clear RQ12
      have Sa14 := hide (Sa12.out.call hb13)
      clear Sa12
      have Sb14 := hide (Sb12.out.call hb13)
      clear Sb12
      have Sp14 := hide (Sp12.out.call hb13)
      clear Sp12
      have Cc14 := hide (Cc12.out.below hb13)
      clear Cc12
      have B14 := hide (B12.out.trans (grown_below hb13 _))
      clear B12
      clear hb13
      clear fB0 fB1 fB2 fV0 fV1
      have fQ0 := RQ14.out.cell (k := 0) rfl
      have fQ1 := RQ14.out.cell (k := 1) rfl
      have fQ2 := RQ14.out.cell (k := 2) rfl
      have yQ0 := RQ14.out.free 0
      have yQ1 := RQ14.out.free 1
      have yQ2 := RQ14.out.free 2
      go_wp2_with fail
      obtain ⟨W15, hW15⟩ : ∃ W, ((w13.setCell ⟨W6.heap.size + 1, 0, none⟩ (.slice p1 T.bs.length q1)).setCell ⟨W6.heap.size + 1, 1, none⟩ (.slice p2 T.bs.length q2)).setCell ⟨W6.heap.size + 1, 2, none⟩ (.int .i64 (T.sp : Int)) = W := ⟨_, rfl⟩
      have HW15 := hide hW15
      have RQ15 := hide (show Row W15 (W6.heap.size + 1) 29 [.slice p1 T.bs.length q1, .slice p2 T.bs.length q2, .int .i64 (T.sp : Int)] by rw [← hW15]; exact (((RQ14.out).set_ 0 _).set_ 1 _).set_ 2 _)
      have RA15 := hide (show Row W15 (w.heap.size) 29 [.slice a1 S.bs.length k1, .slice a2 S.bs.length k2, .int .i64 (S.sp : Int)] by rw [← hW15]; exact (((RA14.out).far (p := ⟨W6.heap.size + 1, 0, none⟩) (by have := DP.out; have := DQ.out; have := LV.out; simp <;> omega) _).far (p := ⟨W6.heap.size + 1, 1, none⟩) (by have := DP.out; have := DQ.out; have := LV.out; simp <;> omega) _).far (p := ⟨W6.heap.size + 1, 2, none⟩) (by have := DP.out; have := DQ.out; have := LV.out; simp <;> omega) _)
      clear RA14
      have RB15 := hide (show Row W15 (w.heap.size + 1) 29 [.slice b1 S.bs.length l1, .slice b2 S.bs.length l2, .int .i64 (S.sp : Int)] by rw [← hW15]; exact (((RB14.out).far (p := ⟨W6.heap.size + 1, 0, none⟩) (by have := DP.out; have := DQ.out; have := LV.out; simp <;> omega) _).far (p := ⟨W6.heap.size + 1, 1, none⟩) (by have := DP.out; have := DQ.out; have := LV.out; simp <;> omega) _).far (p := ⟨W6.heap.size + 1, 2, none⟩) (by have := DP.out; have := DQ.out; have := LV.out; simp <;> omega) _)
      clear RB14
      have RY15 := hide (show Row W15 (w.heap.size + 2) 29 [.slice none 0 0, .slice none 0 0, .int .i64 0] by rw [← hW15]; exact (((RY14.out).far (p := ⟨W6.heap.size + 1, 0, none⟩) (by have := DP.out; have := DQ.out; have := LV.out; simp <;> omega) _).far (p := ⟨W6.heap.size + 1, 1, none⟩) (by have := DP.out; have := DQ.out; have := LV.out; simp <;> omega) _).far (p := ⟨W6.heap.size + 1, 2, none⟩) (by have := DP.out; have := DQ.out; have := LV.out; simp <;> omega) _)
      clear RY14
      have RZ15 := hide (show Row W15 (w.heap.size + 3) 29 [.slice none 0 0, .slice none 0 0, .int .i64 0] by rw [← hW15]; exact (((RZ14.out).far (p := ⟨W6.heap.size + 1, 0, none⟩) (by have := DP.out; have := DQ.out; have := LV.out; simp <;> omega) _).far (p := ⟨W6.heap.size + 1, 1, none⟩) (by have := DP.out; have := DQ.out; have := LV.out; simp <;> omega) _).far (p := ⟨W6.heap.size + 1, 2, none⟩) (by have := DP.out; have := DQ.out; have := LV.out; simp <;> omega) _)
      clear RZ14
      have RV15 := hide (show Row W15 (w5.heap.size) 39 [.int .u64 (lo X), .int .u64 (hi X)] by rw [← hW15]; exact (((RV14.out).far (p := ⟨W6.heap.size + 1, 0, none⟩) (by have := DP.out; have := DQ.out; have := LV.out; simp <;> omega) _).far (p := ⟨W6.heap.size + 1, 1, none⟩) (by have := DP.out; have := DQ.out; have := LV.out; simp <;> omega) _).far (p := ⟨W6.heap.size + 1, 2, none⟩) (by have := DP.out; have := DQ.out; have := LV.out; simp <;> omega) _)
      clear RV14
      have RP15 := hide (show Row W15 (W6.heap.size) 29 [.slice x1 T.bs.length y1, .slice x2 T.bs.length y2, .int .i64 (T.sp : Int)] by rw [← hW15]; exact (((RP14.out).far (p := ⟨W6.heap.size + 1, 0, none⟩) (by have := DP.out; have := DQ.out; have := LV.out; simp <;> omega) _).far (p := ⟨W6.heap.size + 1, 1, none⟩) (by have := DP.out; have := DQ.out; have := LV.out; simp <;> omega) _).far (p := ⟨W6.heap.size + 1, 2, none⟩) (by have := DP.out; have := DQ.out; have := LV.out; simp <;> omega) _)
      clear RP14
      have Sa15 := hide (show StkAt W15 W15.heap.size a1 k1 a2 k2 S by rw [← hW15]; exact StkAt.put (StkAt.put (StkAt.put (Sa14.out) ((RQ14.out).cell (k := 0) rfl) rfl _) (((RQ14.out).set_ 0 _).cell (k := 1) rfl) rfl _) ((((RQ14.out).set_ 0 _).set_ 1 _).cell (k := 2) rfl) rfl _)
      clear Sa14
      have Sb15 := hide (show StkAt W15 W15.heap.size b1 l1 b2 l2 S by rw [← hW15]; exact StkAt.put (StkAt.put (StkAt.put (Sb14.out) ((RQ14.out).cell (k := 0) rfl) rfl _) (((RQ14.out).set_ 0 _).cell (k := 1) rfl) rfl _) ((((RQ14.out).set_ 0 _).set_ 1 _).cell (k := 2) rfl) rfl _)
      clear Sb14
      have Sp15 := hide (show StkAt W15 W15.heap.size x1 y1 x2 y2 T by rw [← hW15]; exact StkAt.put (StkAt.put (StkAt.put (Sp14.out) ((RQ14.out).cell (k := 0) rfl) rfl _) (((RQ14.out).set_ 0 _).cell (k := 1) rfl) rfl _) ((((RQ14.out).set_ 0 _).set_ 1 _).cell (k := 2) rfl) rfl _)
      clear Sp14
      have Sq15 := hide (show StkAt W15 W15.heap.size p1 q1 p2 q2 T by rw [← hW15]; exact StkAt.put (StkAt.put (StkAt.put (Sq13.out) ((RQ14.out).cell (k := 0) rfl) rfl _) (((RQ14.out).set_ 0 _).cell (k := 1) rfl) rfl _) ((((RQ14.out).set_ 0 _).set_ 1 _).cell (k := 2) rfl) rfl _)
      clear Sq13
      have Cc15 := hide (show CodesM r0 W15 g by rw [← hW15]; exact (((Cc14.out).put (RQ14.out) (by decide) ((RQ14.out).cell (k := 0) rfl) rfl _).put ((RQ14.out).set_ 0 _) (by decide) (((RQ14.out).set_ 0 _).cell (k := 1) rfl) rfl _).put (((RQ14.out).set_ 0 _).set_ 1 _) (by decide) ((((RQ14.out).set_ 0 _).set_ 1 _).cell (k := 2) rfl) rfl _)
      clear Cc14
      have B15 := hide (show w.grownBy W15 (some g) by rw [← hW15]; exact grown_put (grown_put (grown_put (B14.out) (by have := DP.out; have := DQ.out; omega)) (by have := DP.out; have := DQ.out; omega)) (by have := DP.out; have := DQ.out; omega))
      clear hW15 RQ14
      rw [HW15.out]
      go_meet
      exact hide ⟨E, true, T, x1, y1, x2, y2, p1, q1, p2, q2, rfl, rfl, rfl, rfl, RA15.out, RB15.out, RY15.out, RZ15.out, RP15.out, RQ15.out, Sa15.out, Sb15.out, Sp15.out, Sq15.out, Cc15.out, B15.out⟩
    case rest =>
      obtain ⟨E, b, T, x1, y1, x2, y2, p1, q1, p2, q2, rfl, rfl, rfl, rfl, rA, rB, rY, rZ, rP, rQ, sA, sB, sP, sQ, rC, rG⟩ := hcut.out
      have RA99 := hide rA
      have RB99 := hide rB
      have RY99 := hide rY
      have RZ99 := hide rZ
      have RP99 := hide rP
      have RQ99 := hide rQ
      have Sa99 := hide sA
      have Sb99 := hide sB
      have Sp99 := hide sP
      have Sq99 := hide sQ
      have Cc99 := hide rC
      have G99 := hide rG
      clear hcut rA rB rY rZ rP rQ sA sB sP sQ rC rG
      have hbx := same_b b
      by_cases hE : E = 0
      · subst hE
        go_upto_region 31 with (fail)
        have RY10 := hide (RY99.out.drew)
        have RZ10 := hide (RZ99.out.drew)
        have RP10 := hide (RP99.out.drew)
        have RQ10 := hide (RQ99.out.drew)
        have Sp10 := hide (show StkAt wc.drew wc.drew.heap.size x1 y1 x2 y2 T from Sp99.out.drewN 1)
        have Sq10 := hide (show StkAt wc.drew wc.drew.heap.size p1 q1 p2 q2 T from Sq99.out.drewN 1)
        have Cc10 := hide (Cc99.out.drew)
        have B10 := hide (grown_draws G99.out 1)
        have fP0 := RP10.out.cell (k := 0) rfl
        have fP1 := RP10.out.cell (k := 1) rfl
        have fP2 := RP10.out.cell (k := 2) rfl
        have fQ0 := RQ10.out.cell (k := 0) rfl
        have fQ1 := RQ10.out.cell (k := 1) rfl
        have fQ2 := RQ10.out.cell (k := 2) rfl
        go_region_law
          (first
            | (        go_simp;         go_at_call 21;         refine (rsame_stk _ Sp10 Sq10).mono ?_;         rintro e w11 ⟨rfl, hb11⟩;         have RY12 := hide (RY10.out.call hb11);         clear RY10;         have RZ12 := hide (RZ10.out.call hb11);         clear RZ10;         have RP12 := hide (RP10.out.call hb11);         clear RP10;         have RQ12 := hide (RQ10.out.call hb11);         clear RQ10;         have Sp12 := hide (Sp10.out.call hb11);         clear Sp10;         have Sq12 := hide (Sq10.out.call hb11);         clear Sq10;         have Cc12 := hide (Cc10.out.below hb11);         clear Cc10;         have B12 := hide (B10.out.trans (grown_below hb11 _));         clear B10;         clear hb11;         have fP0 := RP12.out.cell (k := 0) rfl;         have fP1 := RP12.out.cell (k := 1) rfl;         have fP2 := RP12.out.cell (k := 2) rfl;         have fQ0 := RQ12.out.cell (k := 0) rfl;         have fQ1 := RQ12.out.cell (k := 1) rfl;         have fQ2 := RQ12.out.cell (k := 2) rfl;         have fY0 := RY12.out.cell (k := 0) rfl;         have fY1 := RY12.out.cell (k := 1) rfl;         have fY2 := RY12.out.cell (k := 2) rfl;         have fZ0 := RZ12.out.cell (k := 0) rfl;         have fZ1 := RZ12.out.cell (k := 1) rfl;         have fZ2 := RZ12.out.cell (k := 2) rfl;         have yY0 := RY12.out.free 0;         have yY1 := RY12.out.free 1;         have yY2 := RY12.out.free 2;         have yZ0 := RZ12.out.free 0;         have yZ1 := RZ12.out.free 1;         have yZ2 := RZ12.out.free 2;         have gQ0 := ((((RQ12.out).far (p := ⟨w.heap.size + 2, 0, none⟩) (by have := DP.out; have := DQ.out; simp <;> omega) (.slice x1 T.bs.length y1)).far (p := ⟨w.heap.size + 2, 1, none⟩) (by have := DP.out; have := DQ.out; simp <;> omega) (.slice x2 T.bs.length y2)).far (p := ⟨w.heap.size + 2, 2, none⟩) (by have := DP.out; have := DQ.out; simp <;> omega) (.int .i64 (T.sp : Int))).cell (k := 0) rfl;         have gQ1 := ((((RQ12.out).far (p := ⟨w.heap.size + 2, 0, none⟩) (by have := DP.out; have := DQ.out; simp <;> omega) (.slice x1 T.bs.length y1)).far (p := ⟨w.heap.size + 2, 1, none⟩) (by have := DP.out; have := DQ.out; simp <;> omega) (.slice x2 T.bs.length y2)).far (p := ⟨w.heap.size + 2, 2, none⟩) (by have := DP.out; have := DQ.out; simp <;> omega) (.int .i64 (T.sp : Int))).cell (k := 1) rfl;         have gQ2 := ((((RQ12.out).far (p := ⟨w.heap.size + 2, 0, none⟩) (by have := DP.out; have := DQ.out; simp <;> omega) (.slice x1 T.bs.length y1)).far (p := ⟨w.heap.size + 2, 1, none⟩) (by have := DP.out; have := DQ.out; simp <;> omega) (.slice x2 T.bs.length y2)).far (p := ⟨w.heap.size + 2, 2, none⟩) (by have := DP.out; have := DQ.out; simp <;> omega) (.int .i64 (T.sp : Int))).cell (k := 2) rfl;         dsimp only))
        all_goals
          obtain ⟨W13, hW13⟩ : ∃ W, ((w11.setCell ⟨w.heap.size + 2, 0, none⟩ (.slice x1 T.bs.length y1)).setCell ⟨w.heap.size + 2, 1, none⟩ (.slice x2 T.bs.length y2)).setCell ⟨w.heap.size + 2, 2, none⟩ (.int .i64 (T.sp : Int)) = W := ⟨_, rfl⟩
          have HW13 := hide hW13
          have RY13 := hide (show Row W13 (w.heap.size + 2) 29 [.slice x1 T.bs.length y1, .slice x2 T.bs.length y2, .int .i64 (T.sp : Int)] by rw [← hW13]; exact (((RY12.out).set_ 0 _).set_ 1 _).set_ 2 _)
          have RZ13 := hide (show Row W13 (w.heap.size + 3) 29 [.slice none 0 0, .slice none 0 0, .int .i64 0] by rw [← hW13]; exact (((RZ12.out).far (p := ⟨w.heap.size + 2, 0, none⟩) (by simp) _).far (p := ⟨w.heap.size + 2, 1, none⟩) (by simp) _).far (p := ⟨w.heap.size + 2, 2, none⟩) (by simp) _)
          clear RZ12
          have Sp13 := hide (show StkAt W13 W13.heap.size x1 y1 x2 y2 T by rw [← hW13]; exact StkAt.put (StkAt.put (StkAt.put (Sp12.out) ((RY12.out).cell (k := 0) rfl) rfl _) (((RY12.out).set_ 0 _).cell (k := 1) rfl) rfl _) ((((RY12.out).set_ 0 _).set_ 1 _).cell (k := 2) rfl) rfl _)
          clear Sp12
          have Sq13 := hide (show StkAt W13 W13.heap.size p1 q1 p2 q2 T by rw [← hW13]; exact StkAt.put (StkAt.put (StkAt.put (Sq12.out) ((RY12.out).cell (k := 0) rfl) rfl _) (((RY12.out).set_ 0 _).cell (k := 1) rfl) rfl _) ((((RY12.out).set_ 0 _).set_ 1 _).cell (k := 2) rfl) rfl _)
          clear Sq12
          have Cc13 := hide (show CodesM r0 W13 g by rw [← hW13]; exact (((Cc12.out).put (RY12.out) (by decide) ((RY12.out).cell (k := 0) rfl) rfl _).put ((RY12.out).set_ 0 _) (by decide) (((RY12.out).set_ 0 _).cell (k := 1) rfl) rfl _).put (((RY12.out).set_ 0 _).set_ 1 _) (by decide) ((((RY12.out).set_ 0 _).set_ 1 _).cell (k := 2) rfl) rfl _)
          clear Cc12
          have B13 := hide (show w.grownBy W13 (some g) by rw [← hW13]; exact grown_put (grown_put (grown_put (B12.out) (by omega)) (by omega)) (by omega))
          clear hW13 RY12
          obtain ⟨W14, hW14⟩ : ∃ W, ((W13.setCell ⟨w.heap.size + 3, 0, none⟩ (.slice p1 T.bs.length q1)).setCell ⟨w.heap.size + 3, 1, none⟩ (.slice p2 T.bs.length q2)).setCell ⟨w.heap.size + 3, 2, none⟩ (.int .i64 (T.sp : Int)) = W := ⟨_, rfl⟩
          have HW14 := hide hW14
          have RZ14 := hide (show Row W14 (w.heap.size + 3) 29 [.slice p1 T.bs.length q1, .slice p2 T.bs.length q2, .int .i64 (T.sp : Int)] by rw [← hW14]; exact (((RZ13.out).set_ 0 _).set_ 1 _).set_ 2 _)
          have RY14 := hide (show Row W14 (w.heap.size + 2) 29 [.slice x1 T.bs.length y1, .slice x2 T.bs.length y2, .int .i64 (T.sp : Int)] by rw [← hW14]; exact (((RY13.out).far (p := ⟨w.heap.size + 3, 0, none⟩) (by simp) _).far (p := ⟨w.heap.size + 3, 1, none⟩) (by simp) _).far (p := ⟨w.heap.size + 3, 2, none⟩) (by simp) _)
          clear RY13
          have Sp14 := hide (show StkAt W14 W14.heap.size x1 y1 x2 y2 T by rw [← hW14]; exact StkAt.put (StkAt.put (StkAt.put (Sp13.out) ((RZ13.out).cell (k := 0) rfl) rfl _) (((RZ13.out).set_ 0 _).cell (k := 1) rfl) rfl _) ((((RZ13.out).set_ 0 _).set_ 1 _).cell (k := 2) rfl) rfl _)
          clear Sp13
          have Sq14 := hide (show StkAt W14 W14.heap.size p1 q1 p2 q2 T by rw [← hW14]; exact StkAt.put (StkAt.put (StkAt.put (Sq13.out) ((RZ13.out).cell (k := 0) rfl) rfl _) (((RZ13.out).set_ 0 _).cell (k := 1) rfl) rfl _) ((((RZ13.out).set_ 0 _).set_ 1 _).cell (k := 2) rfl) rfl _)
          clear Sq13
          have Cc14 := hide (show CodesM r0 W14 g by rw [← hW14]; exact (((Cc13.out).put (RZ13.out) (by decide) ((RZ13.out).cell (k := 0) rfl) rfl _).put ((RZ13.out).set_ 0 _) (by decide) (((RZ13.out).set_ 0 _).cell (k := 1) rfl) rfl _).put (((RZ13.out).set_ 0 _).set_ 1 _) (by decide) ((((RZ13.out).set_ 0 _).set_ 1 _).cell (k := 2) rfl) rfl _)
          clear Cc13
          have B14 := hide (show w.grownBy W14 (some g) by rw [← hW14]; exact grown_put (grown_put (grown_put (B13.out) (by omega)) (by omega)) (by omega))
          clear hW14 RZ13
          go_wp2_with fail
          rw [HW13.out, HW14.out]
          have fY0 := RY14.out.cell (k := 0) rfl
          have fY1 := RY14.out.cell (k := 1) rfl
          have fY2 := RY14.out.cell (k := 2) rfl
          have fZ0 := RZ14.out.cell (k := 0) rfl
          have fZ1 := RZ14.out.cell (k := 1) rfl
          have fZ2 := RZ14.out.cell (k := 2) rfl
          refine bodyPost_ret (v := .tuple #[.agg #[.slice x1 T.bs.length y1, .slice x2 T.bs.length y2, .int .i64 (T.sp : Int)], .agg #[.slice p1 T.bs.length q1, .slice p2 T.bs.length q2, .int .i64 (T.sp : Int)], .bool true]) (by simp [results, Try.results13, go_sem, fY0, fY1, fY2, fZ0, fZ1, fZ2]) rfl ?_
          exact ⟨T, _, _, _, _, _, _, _, _, rfl, Sp14.out, Sq14.out, Cc14.out, B14.out⟩
      · have hne : (E == 0) = false := by simpa using hE
        go_upto_region 30 with (fail)
        have fA0 := RA99.out.cell (k := 0) rfl
        have fA1 := RA99.out.cell (k := 1) rfl
        have fA2 := RA99.out.cell (k := 2) rfl
        have fB0 := RB99.out.cell (k := 0) rfl
        have fB1 := RB99.out.cell (k := 1) rfl
        have fB2 := RB99.out.cell (k := 2) rfl
        have fY0 := RY99.out.cell (k := 0) rfl
        have fY1 := RY99.out.cell (k := 1) rfl
        have fY2 := RY99.out.cell (k := 2) rfl
        have fZ0 := RZ99.out.cell (k := 0) rfl
        have fZ1 := RZ99.out.cell (k := 1) rfl
        have fZ2 := RZ99.out.cell (k := 2) rfl
        have yY0 := RY99.out.free 0
        have yY1 := RY99.out.free 1
        have yY2 := RY99.out.free 2
        have yZ0 := RZ99.out.free 0
        have yZ1 := RZ99.out.free 1
        have yZ2 := RZ99.out.free 2
        go_region
        obtain ⟨W10, hW10⟩ : ∃ W, ((wc.setCell ⟨w.heap.size + 2, 0, none⟩ (.slice a1 S.bs.length k1)).setCell ⟨w.heap.size + 2, 1, none⟩ (.slice a2 S.bs.length k2)).setCell ⟨w.heap.size + 2, 2, none⟩ (.int .i64 (S.sp : Int)) = W := ⟨_, rfl⟩
        have HW10 := hide hW10
        have RY10 := hide (show Row W10 (w.heap.size + 2) 29 [.slice a1 S.bs.length k1, .slice a2 S.bs.length k2, .int .i64 (S.sp : Int)] by rw [← hW10]; exact (((RY99.out).set_ 0 _).set_ 1 _).set_ 2 _)
        have RA10 := hide (show Row W10 (w.heap.size) 29 [.slice a1 S.bs.length k1, .slice a2 S.bs.length k2, .int .i64 (S.sp : Int)] by rw [← hW10]; exact (((RA99.out).far (p := ⟨w.heap.size + 2, 0, none⟩) (by simp) _).far (p := ⟨w.heap.size + 2, 1, none⟩) (by simp) _).far (p := ⟨w.heap.size + 2, 2, none⟩) (by simp) _)
        clear RA99
        have RB10 := hide (show Row W10 (w.heap.size + 1) 29 [.slice b1 S.bs.length l1, .slice b2 S.bs.length l2, .int .i64 (S.sp : Int)] by rw [← hW10]; exact (((RB99.out).far (p := ⟨w.heap.size + 2, 0, none⟩) (by simp) _).far (p := ⟨w.heap.size + 2, 1, none⟩) (by simp) _).far (p := ⟨w.heap.size + 2, 2, none⟩) (by simp) _)
        clear RB99
        have RZ10 := hide (show Row W10 (w.heap.size + 3) 29 [.slice none 0 0, .slice none 0 0, .int .i64 0] by rw [← hW10]; exact (((RZ99.out).far (p := ⟨w.heap.size + 2, 0, none⟩) (by simp) _).far (p := ⟨w.heap.size + 2, 1, none⟩) (by simp) _).far (p := ⟨w.heap.size + 2, 2, none⟩) (by simp) _)
        clear RZ99
        have Sa10 := hide (show StkAt W10 W10.heap.size a1 k1 a2 k2 S by rw [← hW10]; exact StkAt.put (StkAt.put (StkAt.put (Sa99.out) ((RY99.out).cell (k := 0) rfl) rfl _) (((RY99.out).set_ 0 _).cell (k := 1) rfl) rfl _) ((((RY99.out).set_ 0 _).set_ 1 _).cell (k := 2) rfl) rfl _)
        clear Sa99
        have Sb10 := hide (show StkAt W10 W10.heap.size b1 l1 b2 l2 S by rw [← hW10]; exact StkAt.put (StkAt.put (StkAt.put (Sb99.out) ((RY99.out).cell (k := 0) rfl) rfl _) (((RY99.out).set_ 0 _).cell (k := 1) rfl) rfl _) ((((RY99.out).set_ 0 _).set_ 1 _).cell (k := 2) rfl) rfl _)
        clear Sb99
        have Cc10 := hide (show CodesM r0 W10 g by rw [← hW10]; exact (((Cc99.out).put (RY99.out) (by decide) ((RY99.out).cell (k := 0) rfl) rfl _).put ((RY99.out).set_ 0 _) (by decide) (((RY99.out).set_ 0 _).cell (k := 1) rfl) rfl _).put (((RY99.out).set_ 0 _).set_ 1 _) (by decide) ((((RY99.out).set_ 0 _).set_ 1 _).cell (k := 2) rfl) rfl _)
        clear Cc99
        have B10 := hide (show w.grownBy W10 (some g) by rw [← hW10]; exact grown_put (grown_put (grown_put (G99.out) (by omega)) (by omega)) (by omega))
        clear hW10 RY99
        obtain ⟨W11, hW11⟩ : ∃ W, ((W10.setCell ⟨w.heap.size + 3, 0, none⟩ (.slice b1 S.bs.length l1)).setCell ⟨w.heap.size + 3, 1, none⟩ (.slice b2 S.bs.length l2)).setCell ⟨w.heap.size + 3, 2, none⟩ (.int .i64 (S.sp : Int)) = W := ⟨_, rfl⟩
        have HW11 := hide hW11
        have RZ11 := hide (show Row W11 (w.heap.size + 3) 29 [.slice b1 S.bs.length l1, .slice b2 S.bs.length l2, .int .i64 (S.sp : Int)] by rw [← hW11]; exact (((RZ10.out).set_ 0 _).set_ 1 _).set_ 2 _)
        have RA11 := hide (show Row W11 (w.heap.size) 29 [.slice a1 S.bs.length k1, .slice a2 S.bs.length k2, .int .i64 (S.sp : Int)] by rw [← hW11]; exact (((RA10.out).far (p := ⟨w.heap.size + 3, 0, none⟩) (by simp) _).far (p := ⟨w.heap.size + 3, 1, none⟩) (by simp) _).far (p := ⟨w.heap.size + 3, 2, none⟩) (by simp) _)
        clear RA10
        have RB11 := hide (show Row W11 (w.heap.size + 1) 29 [.slice b1 S.bs.length l1, .slice b2 S.bs.length l2, .int .i64 (S.sp : Int)] by rw [← hW11]; exact (((RB10.out).far (p := ⟨w.heap.size + 3, 0, none⟩) (by simp) _).far (p := ⟨w.heap.size + 3, 1, none⟩) (by simp) _).far (p := ⟨w.heap.size + 3, 2, none⟩) (by simp) _)
        clear RB10
        have RY11 := hide (show Row W11 (w.heap.size + 2) 29 [.slice a1 S.bs.length k1, .slice a2 S.bs.length k2, .int .i64 (S.sp : Int)] by rw [← hW11]; exact (((RY10.out).far (p := ⟨w.heap.size + 3, 0, none⟩) (by simp) _).far (p := ⟨w.heap.size + 3, 1, none⟩) (by simp) _).far (p := ⟨w.heap.size + 3, 2, none⟩) (by simp) _)
        clear RY10
        have Sa11 := hide (show StkAt W11 W11.heap.size a1 k1 a2 k2 S by rw [← hW11]; exact StkAt.put (StkAt.put (StkAt.put (Sa10.out) ((RZ10.out).cell (k := 0) rfl) rfl _) (((RZ10.out).set_ 0 _).cell (k := 1) rfl) rfl _) ((((RZ10.out).set_ 0 _).set_ 1 _).cell (k := 2) rfl) rfl _)
        clear Sa10
        have Sb11 := hide (show StkAt W11 W11.heap.size b1 l1 b2 l2 S by rw [← hW11]; exact StkAt.put (StkAt.put (StkAt.put (Sb10.out) ((RZ10.out).cell (k := 0) rfl) rfl _) (((RZ10.out).set_ 0 _).cell (k := 1) rfl) rfl _) ((((RZ10.out).set_ 0 _).set_ 1 _).cell (k := 2) rfl) rfl _)
        clear Sb10
        have Cc11 := hide (show CodesM r0 W11 g by rw [← hW11]; exact (((Cc10.out).put (RZ10.out) (by decide) ((RZ10.out).cell (k := 0) rfl) rfl _).put ((RZ10.out).set_ 0 _) (by decide) (((RZ10.out).set_ 0 _).cell (k := 1) rfl) rfl _).put (((RZ10.out).set_ 0 _).set_ 1 _) (by decide) ((((RZ10.out).set_ 0 _).set_ 1 _).cell (k := 2) rfl) rfl _)
        clear Cc10
        have B11 := hide (show w.grownBy W11 (some g) by rw [← hW11]; exact grown_put (grown_put (grown_put (B10.out) (by omega)) (by omega)) (by omega))
        clear hW11 RZ10
        go_wp2_with fail
        rw [HW10.out, HW11.out]
        have fY0 := RY11.out.cell (k := 0) rfl
        have fY1 := RY11.out.cell (k := 1) rfl
        have fY2 := RY11.out.cell (k := 2) rfl
        have fZ0 := RZ11.out.cell (k := 0) rfl
        have fZ1 := RZ11.out.cell (k := 1) rfl
        have fZ2 := RZ11.out.cell (k := 2) rfl
        refine bodyPost_ret (v := .tuple #[.agg #[.slice a1 S.bs.length k1, .slice a2 S.bs.length k2, .int .i64 (S.sp : Int)], .agg #[.slice b1 S.bs.length l1, .slice b2 S.bs.length l2, .int .i64 (S.sp : Int)], .bool true]) (by simp [results, Try.results13, go_sem, fY0, fY1, fY2, fZ0, fZ1, fZ2]) rfl ?_
        exact ⟨S, _, _, _, _, _, _, _, _, rfl, Sa11.out.drewN 1, Sb11.out.drewN 1, Cc11.out.drewN 1, grown_draws (B11.out) 1⟩
end Go.Proofs.Ytipjeihfhnilcaa
end
