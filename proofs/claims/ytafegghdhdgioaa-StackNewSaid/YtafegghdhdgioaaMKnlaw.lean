import Derived.Test.YtafegghdhdgioaaMKdraw
import Derived.Test.YtafegghdhdgioaaMLaw
import Derived.Test.YtafegghdhdgioaaMKmath
import Derived.Deep.DeepFit
import Derived.BigQuiet
import Derived.Outline
import Derived.Lib.SmallJoins
import Derived.Deep.Slices
set_option linter.unusedVariables false
set_option linter.unusedSimpArgs false
section
/-
  The law on new stacks, walked: it returns true. Conditions: those of the types.
-/
namespace Go.Proofs.Ytafegghdhdgioaa
open Go.RowKit
attribute [local go_sem ↓] Go.wp_at_zero Go.wp_at_succ

/-- What holds at the head of the loop. -/
def NewRel (A1 : Option Addr) (n1 c1 : Nat) (A2 : Option Addr) (n2 c2 : Nat) (q x y z : Int) (w : World) (L : Nat) (i : Value) (wr : World) : Prop :=
  ∃ k : Nat, k ≤ 3 ∧ i = .int .i64 (k : Int) ∧ Hid (Row wr w.heap.size 25 [.slice A1 n1 c1, .slice A2 n2 c2, .int .i64 q]) ∧ Hid (Row wr L 3 [.int .i64 x, .int .i64 y, .int .i64 z]) ∧ Hid (Below w.heap.size w wr)

set_option maxRecDepth 100000 in
set_option maxHeartbeats 4000000 in
theorem stknew_walk (s a : Int) (A : Option Addr) (n c : Nat) (zs : List Int) (A1 : Option Addr) (n1 c1 : Nat) (A2 : Option Addr) (n2 c2 : Nat) (q : Int) (w : World) (hsz0 : -9223372036854775808 ≤ s) (hsz1 : s ≤ 9223372036854775807) (hA : Hid (A = none → c = 0)) (hn : Hid (zs.length = n)) (hnc : n ≤ c) (hm : n ≤ 9223372036854775807) (hs : Hid (Sees w w.heap.size A (cellsU8 zs))) (hz : Hid (∀ z ∈ zs, 0 ≤ z ∧ z ≤ 255)) (h1 : n1 ≤ 9223372036854775807) (h2 : n2 ≤ 9223372036854775807) :
    Calls Try.prog 3 #[.int .i64 s, .int .i64 a, .slice A n c, kv A1 n1 c1 A2 n2 c2 q] w fun e w' => e = .returned (.bool true) ∧ Below w.heap.size w w' := by
  obtain ⟨W0, hW0⟩ : ∃ W, w.alloc (.cells #[.slice A1 n1 c1, .slice A2 n2 c2, .int .i64 q] 25) = W := ⟨_, rfl⟩
  have HW0 := hide hW0
  have RR0 := hide (show Row W0 (w.heap.size) 25 [.slice A1 n1 c1, .slice A2 n2 c2, .int .i64 q] by rw [← hW0]; exact (Row.new w 25 [.slice A1 n1 c1, .slice A2 n2 c2, .int .i64 q]))
  have B0 := hide (show Below w.heap.size w W0 by rw [← hW0]; exact below1 w _)
  have Z0 := hide (show W0.heap.size = w.heap.size + 1 by rw [← hW0]; simp)
  clear hW0
  go_enter Try.func3, Try.ntmps3
  go_upto_region 1 with (fail)
  rw [HW0.out]
  have fR0 := RR0.out.cell (k := 0) rfl
  have fR1 := RR0.out.cell (k := 1) rfl
  have fR2 := RR0.out.cell (k := 2) rfl
  by_cases g1 : (2000 : Int) < (n1 : Int)
  · go_wp2_with fail
    refine (awake9_any _).mono ?_
    rintro e w1 ⟨rfl, hb1⟩
    have RR2 := hide (RR0.out.call hb1)
    clear RR0
    have B2 := hide (below_call B0.out hb1)
    clear B0
    clear hb1
    clear fR0 fR1 fR2
    have fR0 := RR2.out.cell (k := 0) rfl
    have fR1 := RR2.out.cell (k := 1) rfl
    have fR2 := RR2.out.cell (k := 2) rfl
    go_wp2_with fail
    go_ret
    exact ⟨rfl, B2.out⟩
  by_cases g2 : (2000 : Int) < (n2 : Int)
  · go_wp2_with fail
    refine (awake9_any _).mono ?_
    rintro e w1 ⟨rfl, hb1⟩
    have RR2 := hide (RR0.out.call hb1)
    clear RR0
    have B2 := hide (below_call B0.out hb1)
    clear B0
    clear hb1
    clear fR0 fR1 fR2
    have fR0 := RR2.out.cell (k := 0) rfl
    have fR1 := RR2.out.cell (k := 1) rfl
    have fR2 := RR2.out.cell (k := 2) rfl
    go_wp2_with fail
    go_ret
    exact ⟨rfl, B2.out⟩
  go_wp2_with fail
  refine (awake9_any _).mono ?_
  rintro e w1 ⟨rfl, hb1⟩
  have RR2 := hide (RR0.out.call hb1)
  clear RR0
  have B2 := hide (below_call B0.out hb1)
  clear B0
  clear hb1
  clear fR0 fR1 fR2
  have fR0 := RR2.out.cell (k := 0) rfl
  have fR1 := RR2.out.cell (k := 1) rfl
  have fR2 := RR2.out.cell (k := 2) rfl
  go_wp2_with fail
  have cnew := new_any A n c zs 20 w1 hA hn hnc hm (by omega) (hide ((hs.out.below B2.out).more B2.out.size)) hz
  rw [show ((20 : Nat) : Int) = 20 from rfl] at cnew
  have GC3 := hide B2.out.size
  go_fit (cnew)
  rintro e w3 ⟨rfl, hC3, hb3⟩
  obtain ⟨gc, hgc⟩ : ∃ g, w1.heap.size = g := ⟨_, rfl⟩
  rw [hgc] at hC3 GC3
  have HGC := hide hgc
  have RR4 := hide (RR2.out.call hb3)
  clear RR2
  have B4 := hide (below_call B2.out hb3)
  clear B2
  clear hb3
  have Cc3 := hide hC3
  clear hC3 cnew hgc
  rw [HGC.out]
  clear fR0 fR1 fR2
  go_wp2_with fail
  go_fit (next_any gc 200 _ Cc3 (by omega) (by omega))
  rintro e w5 ⟨v, rfl, v0, v1, hC5, hg5, -⟩
  have RR5 := hide (RR4.out.next Cc3.out (by decide) hg5)
  clear RR4
  have B5 := hide (below_grown B4.out hg5 GC3.out B4.out.size)
  clear B4
  have Cc5 := hide hC5
  clear Cc3 hC5 hg5
  have V0 := hide v0
  have V1 := hide v1
  clear v0 v1
  by_cases e0 : 0 ≤ s
  · by_cases e1 : s ≤ 1048576
    · obtain ⟨t, ht⟩ : ∃ t, Int.tmod s 3000 = t := ⟨_, rfl⟩
      go_wp2_with fail
      go_fit (next_any gc 9 _ Cc5 (by omega) (by omega))
      rintro e w6 ⟨u, rfl, u0, u1, hC6, hg6, -⟩
      have RR6 := hide (RR5.out.next Cc5.out (by decide) hg6)
      clear RR5
      have B6 := hide (below_grown B5.out hg6 GC3.out B5.out.size)
      clear B5
      have Cc6 := hide hC6
      clear Cc5 hC6 hg6
      go_upto_region 8 with (fail)
      obtain ⟨W7, hW7⟩ : ∃ W, w6.alloc (.cells #[.int .i64 a, .int .i64 (wrap64 (2 ^ u.toNat)), .int .i64 16] 3) = W := ⟨_, rfl⟩
      have HW7 := hide hW7
      have RR7 := hide (show Row W7 (w.heap.size) 25 [.slice A1 n1 c1, .slice A2 n2 c2, .int .i64 q] by rw [← hW7]; exact RR6.out.alloc _)
      clear RR6
      have RL7 := hide (show Row W7 (w6.heap.size) 3 [.int .i64 a, .int .i64 (wrap64 (2 ^ u.toNat)), .int .i64 16] by rw [← hW7]; exact Row.new w6 _ _)
      have Cc7 := hide (show Codes W7 gc by rw [← hW7]; exact Cc6.out.alloc _)
      clear Cc6
      have L7 := hide (show w6.heap.size < W7.heap.size by rw [← hW7]; simp)
      have G7 := hide B6.out.size
      have B7 := hide (show Below w.heap.size w W7 by rw [← hW7]; exact B6.out.alloc B6.out.size _)
      clear hW7
      rw [HW7.out]
      obtain ⟨y, hy⟩ : ∃ y, wrap64 (2 ^ u.toNat) = y := ⟨_, rfl⟩
      rw [hy] at RL7
      clear hy
      go_loopw [65] (fun i wr => NewRel A1 n1 c1 A2 n2 c2 q a y 16 w w6.heap.size i wr) (fun i _ => 3 - (intOf i).toNat)
      case atStart => exact ⟨0, by omega, rfl, RR7, RL7, B7⟩
      case round =>
        obtain ⟨k, hk, rfl, RR, RL, BB⟩ := hrel
        clear RR7 RL7 B7
        by_cases hlt : k < 3
        · obtain ⟨av, hav⟩ : ∃ av, ([.int .i64 a, .int .i64 y, .int .i64 16] : List Value)[k]? = some (.int .i64 av) := by rcases (show k = 0 ∨ k = 1 ∨ k = 2 by omega) with rfl | rfl | rfl <;> exact ⟨_, rfl⟩
          have hd3 : decide ((k : Int) < 3) = true := by simp; omega
          have fl := RL.out.cell hav
          clear hav
          have n1c := fun W => stknew_any v av W
          have n2c := fun W => rstknew_any v av W
          have n3c := fun W => stknew_any t av W
          have n4c := fun W => rstknew_any t av W
          obtain ⟨S1, hS1⟩ : ∃ S, newR v av = S := ⟨_, rfl⟩
          obtain ⟨E1, hE1⟩ : ∃ S, newE v av = S := ⟨_, rfl⟩
          simp only [hS1, hE1] at n1c n2c
          obtain ⟨S2, hS2⟩ : ∃ S, newR t av = S := ⟨_, rfl⟩
          obtain ⟨E2, hE2⟩ : ∃ S, newE t av = S := ⟨_, rfl⟩
          simp only [hS2, hE2] at n3c n4c
          clear hS1 hE1 hS2 hE2
          go_wp2_with fail
          clear fl
          go_fit (n1c _)
          rintro e w8 ⟨p1, l1, r1, m1, rfl, hS8, hb8⟩
          have S18 := hide hS8
          clear hS8
          have RR9 := hide (RR.out.call hb8)
          clear RR
          have RL9 := hide (RL.out.call hb8)
          clear RL
          have B9 := hide (below_call BB.out hb8)
          clear BB
          clear hb8
          go_upto_region 11 with (fail)
          obtain ⟨W10, hW10⟩ : ∃ W, w8.alloc (.cells #[.slice p1 S1.bs.length l1, .slice r1 S1.bs.length m1, .int .i64 (S1.sp : Int)] 25) = W := ⟨_, rfl⟩
          have HW10 := hide hW10
          have RR10 := hide (show Row W10 (w.heap.size) 25 [.slice A1 n1 c1, .slice A2 n2 c2, .int .i64 q] by rw [← hW10]; exact RR9.out.alloc _)
          clear RR9
          have RL10 := hide (show Row W10 (w6.heap.size) 3 [.int .i64 a, .int .i64 y, .int .i64 16] by rw [← hW10]; exact RL9.out.alloc _)
          clear RL9
          have RV110 := hide (show Row W10 (w8.heap.size) 25 [.slice p1 S1.bs.length l1, .slice r1 S1.bs.length m1, .int .i64 (S1.sp : Int)] by rw [← hW10]; exact Row.new w8 _ _)
          have S110 := hide (show StkAt W10 W10.heap.size p1 l1 r1 m1 S1 by rw [← hW10]; exact S18.out.alloc _)
          clear S18
          have L10 := hide (show w8.heap.size < W10.heap.size by rw [← hW10]; simp)
          have G10 := hide B9.out.size
          have B10 := hide (show Below w.heap.size w W10 by rw [← hW10]; exact B9.out.alloc B9.out.size _)
          clear hW10
          rw [HW10.out]
          go_wp2_with fail
          go_fit (n2c _)
          rintro e w11 ⟨p2, l2, r2, m2, rfl, hS11, hb11⟩
          have S211 := hide hS11
          clear hS11
          have RR12 := hide (RR10.out.call hb11)
          clear RR10
          have RL12 := hide (RL10.out.call hb11)
          clear RL10
          have RV112 := hide (RV110.out.call hb11)
          clear RV110
          have S112 := hide (S110.out.call hb11)
          clear S110
          have B12 := hide (below_call B10.out hb11)
          clear B10
          clear hb11
          go_upto_region 12 with (fail)
          obtain ⟨W13, hW13⟩ : ∃ W, w11.alloc (.cells #[.slice p2 S1.bs.length l2, .slice r2 S1.bs.length m2, .int .i64 (S1.sp : Int)] 25) = W := ⟨_, rfl⟩
          have HW13 := hide hW13
          have RR13 := hide (show Row W13 (w.heap.size) 25 [.slice A1 n1 c1, .slice A2 n2 c2, .int .i64 q] by rw [← hW13]; exact RR12.out.alloc _)
          clear RR12
          have RL13 := hide (show Row W13 (w6.heap.size) 3 [.int .i64 a, .int .i64 y, .int .i64 16] by rw [← hW13]; exact RL12.out.alloc _)
          clear RL12
          have RV113 := hide (show Row W13 (w8.heap.size) 25 [.slice p1 S1.bs.length l1, .slice r1 S1.bs.length m1, .int .i64 (S1.sp : Int)] by rw [← hW13]; exact RV112.out.alloc _)
          clear RV112
          have RV213 := hide (show Row W13 (w11.heap.size) 25 [.slice p2 S1.bs.length l2, .slice r2 S1.bs.length m2, .int .i64 (S1.sp : Int)] by rw [← hW13]; exact Row.new w11 _ _)
          have S113 := hide (show StkAt W13 W13.heap.size p1 l1 r1 m1 S1 by rw [← hW13]; exact S112.out.alloc _)
          clear S112
          have S213 := hide (show StkAt W13 W13.heap.size p2 l2 r2 m2 S1 by rw [← hW13]; exact S211.out.alloc _)
          clear S211
          have L13 := hide (show w11.heap.size < W13.heap.size by rw [← hW13]; simp)
          have G13 := hide B12.out.size
          have B13 := hide (show Below w.heap.size w W13 by rw [← hW13]; exact B12.out.alloc B12.out.size _)
          clear hW13
          rw [HW13.out]
          go_wp2_with fail
          go_fit (n3c _)
          rintro e w14 ⟨p3, l3, r3, m3, rfl, hS14, hb14⟩
          have S314 := hide hS14
          clear hS14
          have RR15 := hide (RR13.out.call hb14)
          clear RR13
          have RL15 := hide (RL13.out.call hb14)
          clear RL13
          have RV115 := hide (RV113.out.call hb14)
          clear RV113
          have RV215 := hide (RV213.out.call hb14)
          clear RV213
          have S115 := hide (S113.out.call hb14)
          clear S113
          have S215 := hide (S213.out.call hb14)
          clear S213
          have B15 := hide (below_call B13.out hb14)
          clear B13
          clear hb14
          go_upto_region 13 with (fail)
          obtain ⟨W16, hW16⟩ : ∃ W, w14.alloc (.cells #[.slice p3 S2.bs.length l3, .slice r3 S2.bs.length m3, .int .i64 (S2.sp : Int)] 25) = W := ⟨_, rfl⟩
          have HW16 := hide hW16
          have RR16 := hide (show Row W16 (w.heap.size) 25 [.slice A1 n1 c1, .slice A2 n2 c2, .int .i64 q] by rw [← hW16]; exact RR15.out.alloc _)
          clear RR15
          have RL16 := hide (show Row W16 (w6.heap.size) 3 [.int .i64 a, .int .i64 y, .int .i64 16] by rw [← hW16]; exact RL15.out.alloc _)
          clear RL15
          have RV116 := hide (show Row W16 (w8.heap.size) 25 [.slice p1 S1.bs.length l1, .slice r1 S1.bs.length m1, .int .i64 (S1.sp : Int)] by rw [← hW16]; exact RV115.out.alloc _)
          clear RV115
          have RV216 := hide (show Row W16 (w11.heap.size) 25 [.slice p2 S1.bs.length l2, .slice r2 S1.bs.length m2, .int .i64 (S1.sp : Int)] by rw [← hW16]; exact RV215.out.alloc _)
          clear RV215
          have RV316 := hide (show Row W16 (w14.heap.size) 25 [.slice p3 S2.bs.length l3, .slice r3 S2.bs.length m3, .int .i64 (S2.sp : Int)] by rw [← hW16]; exact Row.new w14 _ _)
          have S116 := hide (show StkAt W16 W16.heap.size p1 l1 r1 m1 S1 by rw [← hW16]; exact S115.out.alloc _)
          clear S115
          have S216 := hide (show StkAt W16 W16.heap.size p2 l2 r2 m2 S1 by rw [← hW16]; exact S215.out.alloc _)
          clear S215
          have S316 := hide (show StkAt W16 W16.heap.size p3 l3 r3 m3 S2 by rw [← hW16]; exact S314.out.alloc _)
          clear S314
          have L16 := hide (show w14.heap.size < W16.heap.size by rw [← hW16]; simp)
          have G16 := hide B15.out.size
          have B16 := hide (show Below w.heap.size w W16 by rw [← hW16]; exact B15.out.alloc B15.out.size _)
          clear hW16
          rw [HW16.out]
          go_wp2_with fail
          go_fit (n4c _)
          rintro e w17 ⟨p4, l4, r4, m4, rfl, hS17, hb17⟩
          have S417 := hide hS17
          clear hS17
          have RR18 := hide (RR16.out.call hb17)
          clear RR16
          have RL18 := hide (RL16.out.call hb17)
          clear RL16
          have RV118 := hide (RV116.out.call hb17)
          clear RV116
          have RV218 := hide (RV216.out.call hb17)
          clear RV216
          have RV318 := hide (RV316.out.call hb17)
          clear RV316
          have S118 := hide (S116.out.call hb17)
          clear S116
          have S218 := hide (S216.out.call hb17)
          clear S216
          have S318 := hide (S316.out.call hb17)
          clear S316
          have B18 := hide (below_call B16.out hb17)
          clear B16
          clear hb17
          go_upto_region 14 with (fail)
          obtain ⟨W19, hW19⟩ : ∃ W, w17.alloc (.cells #[.slice p4 S2.bs.length l4, .slice r4 S2.bs.length m4, .int .i64 (S2.sp : Int)] 25) = W := ⟨_, rfl⟩
          have HW19 := hide hW19
          have RR19 := hide (show Row W19 (w.heap.size) 25 [.slice A1 n1 c1, .slice A2 n2 c2, .int .i64 q] by rw [← hW19]; exact RR18.out.alloc _)
          clear RR18
          have RL19 := hide (show Row W19 (w6.heap.size) 3 [.int .i64 a, .int .i64 y, .int .i64 16] by rw [← hW19]; exact RL18.out.alloc _)
          clear RL18
          have RV119 := hide (show Row W19 (w8.heap.size) 25 [.slice p1 S1.bs.length l1, .slice r1 S1.bs.length m1, .int .i64 (S1.sp : Int)] by rw [← hW19]; exact RV118.out.alloc _)
          clear RV118
          have RV219 := hide (show Row W19 (w11.heap.size) 25 [.slice p2 S1.bs.length l2, .slice r2 S1.bs.length m2, .int .i64 (S1.sp : Int)] by rw [← hW19]; exact RV218.out.alloc _)
          clear RV218
          have RV319 := hide (show Row W19 (w14.heap.size) 25 [.slice p3 S2.bs.length l3, .slice r3 S2.bs.length m3, .int .i64 (S2.sp : Int)] by rw [← hW19]; exact RV318.out.alloc _)
          clear RV318
          have RV419 := hide (show Row W19 (w17.heap.size) 25 [.slice p4 S2.bs.length l4, .slice r4 S2.bs.length m4, .int .i64 (S2.sp : Int)] by rw [← hW19]; exact Row.new w17 _ _)
          have S119 := hide (show StkAt W19 W19.heap.size p1 l1 r1 m1 S1 by rw [← hW19]; exact S118.out.alloc _)
          clear S118
          have S219 := hide (show StkAt W19 W19.heap.size p2 l2 r2 m2 S1 by rw [← hW19]; exact S218.out.alloc _)
          clear S218
          have S319 := hide (show StkAt W19 W19.heap.size p3 l3 r3 m3 S2 by rw [← hW19]; exact S318.out.alloc _)
          clear S318
          have S419 := hide (show StkAt W19 W19.heap.size p4 l4 r4 m4 S2 by rw [← hW19]; exact S417.out.alloc _)
          clear S417
          have L19 := hide (show w17.heap.size < W19.heap.size by rw [← hW19]; simp)
          have G19 := hide B18.out.size
          have B19 := hide (show Below w.heap.size w W19 by rw [← hW19]; exact B18.out.alloc B18.out.size _)
          clear hW19
          rw [HW19.out]
          have fV10 := RV119.out.cell (k := 0) rfl
          have fV11 := RV119.out.cell (k := 1) rfl
          have fV12 := RV119.out.cell (k := 2) rfl
          have fV20 := RV219.out.cell (k := 0) rfl
          have fV21 := RV219.out.cell (k := 1) rfl
          have fV22 := RV219.out.cell (k := 2) rfl
          go_wp2_with fail
          refine (rsame_stk _ S119 S219).mono ?_
          rintro e w20 ⟨rfl, hb20⟩
          have RR21 := hide (RR19.out.call hb20)
          clear RR19
          have RL21 := hide (RL19.out.call hb20)
          clear RL19
          have RV121 := hide (RV119.out.call hb20)
          clear RV119
          have RV221 := hide (RV219.out.call hb20)
          clear RV219
          have RV321 := hide (RV319.out.call hb20)
          clear RV319
          have RV421 := hide (RV419.out.call hb20)
          clear RV419
          have S121 := hide (S119.out.call hb20)
          clear S119
          have S221 := hide (S219.out.call hb20)
          clear S219
          have S321 := hide (S319.out.call hb20)
          clear S319
          have S421 := hide (S419.out.call hb20)
          clear S419
          have B21 := hide (below_call B19.out hb20)
          clear B19
          clear hb20
          clear fV10 fV11 fV12 fV20 fV21 fV22
          have fV30 := RV321.out.cell (k := 0) rfl
          have fV31 := RV321.out.cell (k := 1) rfl
          have fV32 := RV321.out.cell (k := 2) rfl
          have fV40 := RV421.out.cell (k := 0) rfl
          have fV41 := RV421.out.cell (k := 1) rfl
          have fV42 := RV421.out.cell (k := 2) rfl
          go_wp2_with fail
          refine (rsame_stk _ S321 S421).mono ?_
          rintro e w22 ⟨rfl, hb22⟩
          have RR23 := hide (RR21.out.call hb22)
          clear RR21
          have RL23 := hide (RL21.out.call hb22)
          clear RL21
          have RV123 := hide (RV121.out.call hb22)
          clear RV121
          have RV223 := hide (RV221.out.call hb22)
          clear RV221
          have RV323 := hide (RV321.out.call hb22)
          clear RV321
          have RV423 := hide (RV421.out.call hb22)
          clear RV421
          have S123 := hide (S121.out.call hb22)
          clear S121
          have S223 := hide (S221.out.call hb22)
          clear S221
          have S323 := hide (S321.out.call hb22)
          clear S321
          have S423 := hide (S421.out.call hb22)
          clear S421
          have B23 := hide (below_call B21.out hb22)
          clear B21
          clear hb22
          go_wp2_with fail
          go_roundw
          case rel => exact ⟨k + 1, by omega, by go_num, RR23, RL23, B23⟩
          case measure => simp [intOf]; omega
        · have cn := stknew_any 1048577 16
          obtain ⟨hE, hR⟩ := new_no 1048577 16 (by omega)
          rw [hE, hR] at cn
          clear hE hR
          go_wp2_with fail
          obtain ⟨S9, hS9⟩ : ∃ S, newS 0 0 = S := ⟨_, rfl⟩
          rw [hS9] at cn
          clear hS9
          go_fit (cn _)
          rintro e w8 ⟨p1, l1, r1, m1, rfl, hS8, hb8⟩
          have Sn8 := hide hS8
          clear hS8
          have RR9 := hide (RR.out.call hb8)
          clear RR
          have RL9 := hide (RL.out.call hb8)
          clear RL
          have B9 := hide (below_call BB.out hb8)
          clear BB
          clear hb8
          go_upto_region 18 with (fail)
          obtain ⟨W10, hW10⟩ : ∃ W, w8.alloc (.cells #[.slice p1 S9.bs.length l1, .slice r1 S9.bs.length m1, .int .i64 (S9.sp : Int)] 25) = W := ⟨_, rfl⟩
          have HW10 := hide hW10
          have RR10 := hide (show Row W10 (w.heap.size) 25 [.slice A1 n1 c1, .slice A2 n2 c2, .int .i64 q] by rw [← hW10]; exact RR9.out.alloc _)
          clear RR9
          have RL10 := hide (show Row W10 (w6.heap.size) 3 [.int .i64 a, .int .i64 y, .int .i64 16] by rw [← hW10]; exact RL9.out.alloc _)
          clear RL9
          have RV910 := hide (show Row W10 (w8.heap.size) 25 [.slice p1 S9.bs.length l1, .slice r1 S9.bs.length m1, .int .i64 (S9.sp : Int)] by rw [← hW10]; exact Row.new w8 _ _)
          have Sn10 := hide (show StkAt W10 W10.heap.size p1 l1 r1 m1 S9 by rw [← hW10]; exact Sn8.out.alloc _)
          clear Sn8
          have L10 := hide (show w8.heap.size < W10.heap.size by rw [← hW10]; simp)
          have G10 := hide B9.out.size
          have B10 := hide (show Below w.heap.size w W10 by rw [← hW10]; exact B9.out.alloc B9.out.size _)
          clear hW10
          rw [HW10.out]
          have j0 := fun p : After W10 => after_cell (RR10.out.cell (k := 0) rfl) p
          have j1 := fun p : After W10 => after_cell (RR10.out.cell (k := 1) rfl) p
          have j2 := fun p : After W10 => after_cell (RR10.out.cell (k := 2) rfl) p
          refine wp_region_after (by kernel_rfl) (by kernel_rfl) ?_
          repeat (go_big_quiet_step ((first
            | (go_at_call 14; with_reducible exact after_of (check_stk A1 n1 c1 A2 n2 c2 q _ h1 h2))
            | (go_at_call 15; with_reducible exact after_of (rcheck_stk A1 n1 c1 A2 n2 c2 q _ h1 h2)))))
          refine wpQuiet_nil ?_
          intro _ hw'
          obtain ⟨p1, hw''⟩ := hw'
          subst hw''
          go_wp2_with fail
          go_ret
          exact ⟨ret_bool (by simp), below_call B10.out p1.b⟩
    · go_wp2_with fail
      go_fit (next_any gc 9 _ Cc5 (by omega) (by omega))
      rintro e w6 ⟨u, rfl, u0, u1, hC6, hg6, -⟩
      have RR6 := hide (RR5.out.next Cc5.out (by decide) hg6)
      clear RR5
      have B6 := hide (below_grown B5.out hg6 GC3.out B5.out.size)
      clear B5
      have Cc6 := hide hC6
      clear Cc5 hC6 hg6
      go_upto_region 8 with (fail)
      obtain ⟨W7, hW7⟩ : ∃ W, w6.alloc (.cells #[.int .i64 a, .int .i64 (wrap64 (2 ^ u.toNat)), .int .i64 16] 3) = W := ⟨_, rfl⟩
      have HW7 := hide hW7
      have RR7 := hide (show Row W7 (w.heap.size) 25 [.slice A1 n1 c1, .slice A2 n2 c2, .int .i64 q] by rw [← hW7]; exact RR6.out.alloc _)
      clear RR6
      have RL7 := hide (show Row W7 (w6.heap.size) 3 [.int .i64 a, .int .i64 (wrap64 (2 ^ u.toNat)), .int .i64 16] by rw [← hW7]; exact Row.new w6 _ _)
      have Cc7 := hide (show Codes W7 gc by rw [← hW7]; exact Cc6.out.alloc _)
      clear Cc6
      have L7 := hide (show w6.heap.size < W7.heap.size by rw [← hW7]; simp)
      have G7 := hide B6.out.size
      have B7 := hide (show Below w.heap.size w W7 by rw [← hW7]; exact B6.out.alloc B6.out.size _)
      clear hW7
      rw [HW7.out]
      obtain ⟨y, hy⟩ : ∃ y, wrap64 (2 ^ u.toNat) = y := ⟨_, rfl⟩
      rw [hy] at RL7
      clear hy
      go_loopw [65] (fun i wr => NewRel A1 n1 c1 A2 n2 c2 q a y 16 w w6.heap.size i wr) (fun i _ => 3 - (intOf i).toNat)
      case atStart => exact ⟨0, by omega, rfl, RR7, RL7, B7⟩
      case round =>
        obtain ⟨k, hk, rfl, RR, RL, BB⟩ := hrel
        clear RR7 RL7 B7
        by_cases hlt : k < 3
        · obtain ⟨av, hav⟩ : ∃ av, ([.int .i64 a, .int .i64 y, .int .i64 16] : List Value)[k]? = some (.int .i64 av) := by rcases (show k = 0 ∨ k = 1 ∨ k = 2 by omega) with rfl | rfl | rfl <;> exact ⟨_, rfl⟩
          have hd3 : decide ((k : Int) < 3) = true := by simp; omega
          have fl := RL.out.cell hav
          clear hav
          have n1c := fun W => stknew_any v av W
          have n2c := fun W => rstknew_any v av W
          have n3c := fun W => stknew_any s av W
          have n4c := fun W => rstknew_any s av W
          obtain ⟨S1, hS1⟩ : ∃ S, newR v av = S := ⟨_, rfl⟩
          obtain ⟨E1, hE1⟩ : ∃ S, newE v av = S := ⟨_, rfl⟩
          simp only [hS1, hE1] at n1c n2c
          obtain ⟨S2, hS2⟩ : ∃ S, newR s av = S := ⟨_, rfl⟩
          obtain ⟨E2, hE2⟩ : ∃ S, newE s av = S := ⟨_, rfl⟩
          simp only [hS2, hE2] at n3c n4c
          clear hS1 hE1 hS2 hE2
          go_wp2_with fail
          clear fl
          go_fit (n1c _)
          rintro e w8 ⟨p1, l1, r1, m1, rfl, hS8, hb8⟩
          have S18 := hide hS8
          clear hS8
          have RR9 := hide (RR.out.call hb8)
          clear RR
          have RL9 := hide (RL.out.call hb8)
          clear RL
          have B9 := hide (below_call BB.out hb8)
          clear BB
          clear hb8
          go_upto_region 11 with (fail)
          obtain ⟨W10, hW10⟩ : ∃ W, w8.alloc (.cells #[.slice p1 S1.bs.length l1, .slice r1 S1.bs.length m1, .int .i64 (S1.sp : Int)] 25) = W := ⟨_, rfl⟩
          have HW10 := hide hW10
          have RR10 := hide (show Row W10 (w.heap.size) 25 [.slice A1 n1 c1, .slice A2 n2 c2, .int .i64 q] by rw [← hW10]; exact RR9.out.alloc _)
          clear RR9
          have RL10 := hide (show Row W10 (w6.heap.size) 3 [.int .i64 a, .int .i64 y, .int .i64 16] by rw [← hW10]; exact RL9.out.alloc _)
          clear RL9
          have RV110 := hide (show Row W10 (w8.heap.size) 25 [.slice p1 S1.bs.length l1, .slice r1 S1.bs.length m1, .int .i64 (S1.sp : Int)] by rw [← hW10]; exact Row.new w8 _ _)
          have S110 := hide (show StkAt W10 W10.heap.size p1 l1 r1 m1 S1 by rw [← hW10]; exact S18.out.alloc _)
          clear S18
          have L10 := hide (show w8.heap.size < W10.heap.size by rw [← hW10]; simp)
          have G10 := hide B9.out.size
          have B10 := hide (show Below w.heap.size w W10 by rw [← hW10]; exact B9.out.alloc B9.out.size _)
          clear hW10
          rw [HW10.out]
          go_wp2_with fail
          go_fit (n2c _)
          rintro e w11 ⟨p2, l2, r2, m2, rfl, hS11, hb11⟩
          have S211 := hide hS11
          clear hS11
          have RR12 := hide (RR10.out.call hb11)
          clear RR10
          have RL12 := hide (RL10.out.call hb11)
          clear RL10
          have RV112 := hide (RV110.out.call hb11)
          clear RV110
          have S112 := hide (S110.out.call hb11)
          clear S110
          have B12 := hide (below_call B10.out hb11)
          clear B10
          clear hb11
          go_upto_region 12 with (fail)
          obtain ⟨W13, hW13⟩ : ∃ W, w11.alloc (.cells #[.slice p2 S1.bs.length l2, .slice r2 S1.bs.length m2, .int .i64 (S1.sp : Int)] 25) = W := ⟨_, rfl⟩
          have HW13 := hide hW13
          have RR13 := hide (show Row W13 (w.heap.size) 25 [.slice A1 n1 c1, .slice A2 n2 c2, .int .i64 q] by rw [← hW13]; exact RR12.out.alloc _)
          clear RR12
          have RL13 := hide (show Row W13 (w6.heap.size) 3 [.int .i64 a, .int .i64 y, .int .i64 16] by rw [← hW13]; exact RL12.out.alloc _)
          clear RL12
          have RV113 := hide (show Row W13 (w8.heap.size) 25 [.slice p1 S1.bs.length l1, .slice r1 S1.bs.length m1, .int .i64 (S1.sp : Int)] by rw [← hW13]; exact RV112.out.alloc _)
          clear RV112
          have RV213 := hide (show Row W13 (w11.heap.size) 25 [.slice p2 S1.bs.length l2, .slice r2 S1.bs.length m2, .int .i64 (S1.sp : Int)] by rw [← hW13]; exact Row.new w11 _ _)
          have S113 := hide (show StkAt W13 W13.heap.size p1 l1 r1 m1 S1 by rw [← hW13]; exact S112.out.alloc _)
          clear S112
          have S213 := hide (show StkAt W13 W13.heap.size p2 l2 r2 m2 S1 by rw [← hW13]; exact S211.out.alloc _)
          clear S211
          have L13 := hide (show w11.heap.size < W13.heap.size by rw [← hW13]; simp)
          have G13 := hide B12.out.size
          have B13 := hide (show Below w.heap.size w W13 by rw [← hW13]; exact B12.out.alloc B12.out.size _)
          clear hW13
          rw [HW13.out]
          go_wp2_with fail
          go_fit (n3c _)
          rintro e w14 ⟨p3, l3, r3, m3, rfl, hS14, hb14⟩
          have S314 := hide hS14
          clear hS14
          have RR15 := hide (RR13.out.call hb14)
          clear RR13
          have RL15 := hide (RL13.out.call hb14)
          clear RL13
          have RV115 := hide (RV113.out.call hb14)
          clear RV113
          have RV215 := hide (RV213.out.call hb14)
          clear RV213
          have S115 := hide (S113.out.call hb14)
          clear S113
          have S215 := hide (S213.out.call hb14)
          clear S213
          have B15 := hide (below_call B13.out hb14)
          clear B13
          clear hb14
          go_upto_region 13 with (fail)
          obtain ⟨W16, hW16⟩ : ∃ W, w14.alloc (.cells #[.slice p3 S2.bs.length l3, .slice r3 S2.bs.length m3, .int .i64 (S2.sp : Int)] 25) = W := ⟨_, rfl⟩
          have HW16 := hide hW16
          have RR16 := hide (show Row W16 (w.heap.size) 25 [.slice A1 n1 c1, .slice A2 n2 c2, .int .i64 q] by rw [← hW16]; exact RR15.out.alloc _)
          clear RR15
          have RL16 := hide (show Row W16 (w6.heap.size) 3 [.int .i64 a, .int .i64 y, .int .i64 16] by rw [← hW16]; exact RL15.out.alloc _)
          clear RL15
          have RV116 := hide (show Row W16 (w8.heap.size) 25 [.slice p1 S1.bs.length l1, .slice r1 S1.bs.length m1, .int .i64 (S1.sp : Int)] by rw [← hW16]; exact RV115.out.alloc _)
          clear RV115
          have RV216 := hide (show Row W16 (w11.heap.size) 25 [.slice p2 S1.bs.length l2, .slice r2 S1.bs.length m2, .int .i64 (S1.sp : Int)] by rw [← hW16]; exact RV215.out.alloc _)
          clear RV215
          have RV316 := hide (show Row W16 (w14.heap.size) 25 [.slice p3 S2.bs.length l3, .slice r3 S2.bs.length m3, .int .i64 (S2.sp : Int)] by rw [← hW16]; exact Row.new w14 _ _)
          have S116 := hide (show StkAt W16 W16.heap.size p1 l1 r1 m1 S1 by rw [← hW16]; exact S115.out.alloc _)
          clear S115
          have S216 := hide (show StkAt W16 W16.heap.size p2 l2 r2 m2 S1 by rw [← hW16]; exact S215.out.alloc _)
          clear S215
          have S316 := hide (show StkAt W16 W16.heap.size p3 l3 r3 m3 S2 by rw [← hW16]; exact S314.out.alloc _)
          clear S314
          have L16 := hide (show w14.heap.size < W16.heap.size by rw [← hW16]; simp)
          have G16 := hide B15.out.size
          have B16 := hide (show Below w.heap.size w W16 by rw [← hW16]; exact B15.out.alloc B15.out.size _)
          clear hW16
          rw [HW16.out]
          go_wp2_with fail
          go_fit (n4c _)
          rintro e w17 ⟨p4, l4, r4, m4, rfl, hS17, hb17⟩
          have S417 := hide hS17
          clear hS17
          have RR18 := hide (RR16.out.call hb17)
          clear RR16
          have RL18 := hide (RL16.out.call hb17)
          clear RL16
          have RV118 := hide (RV116.out.call hb17)
          clear RV116
          have RV218 := hide (RV216.out.call hb17)
          clear RV216
          have RV318 := hide (RV316.out.call hb17)
          clear RV316
          have S118 := hide (S116.out.call hb17)
          clear S116
          have S218 := hide (S216.out.call hb17)
          clear S216
          have S318 := hide (S316.out.call hb17)
          clear S316
          have B18 := hide (below_call B16.out hb17)
          clear B16
          clear hb17
          go_upto_region 14 with (fail)
          obtain ⟨W19, hW19⟩ : ∃ W, w17.alloc (.cells #[.slice p4 S2.bs.length l4, .slice r4 S2.bs.length m4, .int .i64 (S2.sp : Int)] 25) = W := ⟨_, rfl⟩
          have HW19 := hide hW19
          have RR19 := hide (show Row W19 (w.heap.size) 25 [.slice A1 n1 c1, .slice A2 n2 c2, .int .i64 q] by rw [← hW19]; exact RR18.out.alloc _)
          clear RR18
          have RL19 := hide (show Row W19 (w6.heap.size) 3 [.int .i64 a, .int .i64 y, .int .i64 16] by rw [← hW19]; exact RL18.out.alloc _)
          clear RL18
          have RV119 := hide (show Row W19 (w8.heap.size) 25 [.slice p1 S1.bs.length l1, .slice r1 S1.bs.length m1, .int .i64 (S1.sp : Int)] by rw [← hW19]; exact RV118.out.alloc _)
          clear RV118
          have RV219 := hide (show Row W19 (w11.heap.size) 25 [.slice p2 S1.bs.length l2, .slice r2 S1.bs.length m2, .int .i64 (S1.sp : Int)] by rw [← hW19]; exact RV218.out.alloc _)
          clear RV218
          have RV319 := hide (show Row W19 (w14.heap.size) 25 [.slice p3 S2.bs.length l3, .slice r3 S2.bs.length m3, .int .i64 (S2.sp : Int)] by rw [← hW19]; exact RV318.out.alloc _)
          clear RV318
          have RV419 := hide (show Row W19 (w17.heap.size) 25 [.slice p4 S2.bs.length l4, .slice r4 S2.bs.length m4, .int .i64 (S2.sp : Int)] by rw [← hW19]; exact Row.new w17 _ _)
          have S119 := hide (show StkAt W19 W19.heap.size p1 l1 r1 m1 S1 by rw [← hW19]; exact S118.out.alloc _)
          clear S118
          have S219 := hide (show StkAt W19 W19.heap.size p2 l2 r2 m2 S1 by rw [← hW19]; exact S218.out.alloc _)
          clear S218
          have S319 := hide (show StkAt W19 W19.heap.size p3 l3 r3 m3 S2 by rw [← hW19]; exact S318.out.alloc _)
          clear S318
          have S419 := hide (show StkAt W19 W19.heap.size p4 l4 r4 m4 S2 by rw [← hW19]; exact S417.out.alloc _)
          clear S417
          have L19 := hide (show w17.heap.size < W19.heap.size by rw [← hW19]; simp)
          have G19 := hide B18.out.size
          have B19 := hide (show Below w.heap.size w W19 by rw [← hW19]; exact B18.out.alloc B18.out.size _)
          clear hW19
          rw [HW19.out]
          have fV10 := RV119.out.cell (k := 0) rfl
          have fV11 := RV119.out.cell (k := 1) rfl
          have fV12 := RV119.out.cell (k := 2) rfl
          have fV20 := RV219.out.cell (k := 0) rfl
          have fV21 := RV219.out.cell (k := 1) rfl
          have fV22 := RV219.out.cell (k := 2) rfl
          go_wp2_with fail
          refine (rsame_stk _ S119 S219).mono ?_
          rintro e w20 ⟨rfl, hb20⟩
          have RR21 := hide (RR19.out.call hb20)
          clear RR19
          have RL21 := hide (RL19.out.call hb20)
          clear RL19
          have RV121 := hide (RV119.out.call hb20)
          clear RV119
          have RV221 := hide (RV219.out.call hb20)
          clear RV219
          have RV321 := hide (RV319.out.call hb20)
          clear RV319
          have RV421 := hide (RV419.out.call hb20)
          clear RV419
          have S121 := hide (S119.out.call hb20)
          clear S119
          have S221 := hide (S219.out.call hb20)
          clear S219
          have S321 := hide (S319.out.call hb20)
          clear S319
          have S421 := hide (S419.out.call hb20)
          clear S419
          have B21 := hide (below_call B19.out hb20)
          clear B19
          clear hb20
          clear fV10 fV11 fV12 fV20 fV21 fV22
          have fV30 := RV321.out.cell (k := 0) rfl
          have fV31 := RV321.out.cell (k := 1) rfl
          have fV32 := RV321.out.cell (k := 2) rfl
          have fV40 := RV421.out.cell (k := 0) rfl
          have fV41 := RV421.out.cell (k := 1) rfl
          have fV42 := RV421.out.cell (k := 2) rfl
          go_wp2_with fail
          refine (rsame_stk _ S321 S421).mono ?_
          rintro e w22 ⟨rfl, hb22⟩
          have RR23 := hide (RR21.out.call hb22)
          clear RR21
          have RL23 := hide (RL21.out.call hb22)
          clear RL21
          have RV123 := hide (RV121.out.call hb22)
          clear RV121
          have RV223 := hide (RV221.out.call hb22)
          clear RV221
          have RV323 := hide (RV321.out.call hb22)
          clear RV321
          have RV423 := hide (RV421.out.call hb22)
          clear RV421
          have S123 := hide (S121.out.call hb22)
          clear S121
          have S223 := hide (S221.out.call hb22)
          clear S221
          have S323 := hide (S321.out.call hb22)
          clear S321
          have S423 := hide (S421.out.call hb22)
          clear S421
          have B23 := hide (below_call B21.out hb22)
          clear B21
          clear hb22
          go_wp2_with fail
          go_roundw
          case rel => exact ⟨k + 1, by omega, by go_num, RR23, RL23, B23⟩
          case measure => simp [intOf]; omega
        · have cn := stknew_any 1048577 16
          obtain ⟨hE, hR⟩ := new_no 1048577 16 (by omega)
          rw [hE, hR] at cn
          clear hE hR
          go_wp2_with fail
          obtain ⟨S9, hS9⟩ : ∃ S, newS 0 0 = S := ⟨_, rfl⟩
          rw [hS9] at cn
          clear hS9
          go_fit (cn _)
          rintro e w8 ⟨p1, l1, r1, m1, rfl, hS8, hb8⟩
          have Sn8 := hide hS8
          clear hS8
          have RR9 := hide (RR.out.call hb8)
          clear RR
          have RL9 := hide (RL.out.call hb8)
          clear RL
          have B9 := hide (below_call BB.out hb8)
          clear BB
          clear hb8
          go_upto_region 18 with (fail)
          obtain ⟨W10, hW10⟩ : ∃ W, w8.alloc (.cells #[.slice p1 S9.bs.length l1, .slice r1 S9.bs.length m1, .int .i64 (S9.sp : Int)] 25) = W := ⟨_, rfl⟩
          have HW10 := hide hW10
          have RR10 := hide (show Row W10 (w.heap.size) 25 [.slice A1 n1 c1, .slice A2 n2 c2, .int .i64 q] by rw [← hW10]; exact RR9.out.alloc _)
          clear RR9
          have RL10 := hide (show Row W10 (w6.heap.size) 3 [.int .i64 a, .int .i64 y, .int .i64 16] by rw [← hW10]; exact RL9.out.alloc _)
          clear RL9
          have RV910 := hide (show Row W10 (w8.heap.size) 25 [.slice p1 S9.bs.length l1, .slice r1 S9.bs.length m1, .int .i64 (S9.sp : Int)] by rw [← hW10]; exact Row.new w8 _ _)
          have Sn10 := hide (show StkAt W10 W10.heap.size p1 l1 r1 m1 S9 by rw [← hW10]; exact Sn8.out.alloc _)
          clear Sn8
          have L10 := hide (show w8.heap.size < W10.heap.size by rw [← hW10]; simp)
          have G10 := hide B9.out.size
          have B10 := hide (show Below w.heap.size w W10 by rw [← hW10]; exact B9.out.alloc B9.out.size _)
          clear hW10
          rw [HW10.out]
          have j0 := fun p : After W10 => after_cell (RR10.out.cell (k := 0) rfl) p
          have j1 := fun p : After W10 => after_cell (RR10.out.cell (k := 1) rfl) p
          have j2 := fun p : After W10 => after_cell (RR10.out.cell (k := 2) rfl) p
          refine wp_region_after (by kernel_rfl) (by kernel_rfl) ?_
          repeat (go_big_quiet_step ((first
            | (go_at_call 14; with_reducible exact after_of (check_stk A1 n1 c1 A2 n2 c2 q _ h1 h2))
            | (go_at_call 15; with_reducible exact after_of (rcheck_stk A1 n1 c1 A2 n2 c2 q _ h1 h2)))))
          refine wpQuiet_nil ?_
          intro _ hw'
          obtain ⟨p1, hw''⟩ := hw'
          subst hw''
          go_wp2_with fail
          go_ret
          exact ⟨ret_bool (by simp), below_call B10.out p1.b⟩
  · go_wp2_with fail
    go_fit (next_any gc 9 _ Cc5 (by omega) (by omega))
    rintro e w6 ⟨u, rfl, u0, u1, hC6, hg6, -⟩
    have RR6 := hide (RR5.out.next Cc5.out (by decide) hg6)
    clear RR5
    have B6 := hide (below_grown B5.out hg6 GC3.out B5.out.size)
    clear B5
    have Cc6 := hide hC6
    clear Cc5 hC6 hg6
    go_upto_region 8 with (fail)
    obtain ⟨W7, hW7⟩ : ∃ W, w6.alloc (.cells #[.int .i64 a, .int .i64 (wrap64 (2 ^ u.toNat)), .int .i64 16] 3) = W := ⟨_, rfl⟩
    have HW7 := hide hW7
    have RR7 := hide (show Row W7 (w.heap.size) 25 [.slice A1 n1 c1, .slice A2 n2 c2, .int .i64 q] by rw [← hW7]; exact RR6.out.alloc _)
    clear RR6
    have RL7 := hide (show Row W7 (w6.heap.size) 3 [.int .i64 a, .int .i64 (wrap64 (2 ^ u.toNat)), .int .i64 16] by rw [← hW7]; exact Row.new w6 _ _)
    have Cc7 := hide (show Codes W7 gc by rw [← hW7]; exact Cc6.out.alloc _)
    clear Cc6
    have L7 := hide (show w6.heap.size < W7.heap.size by rw [← hW7]; simp)
    have G7 := hide B6.out.size
    have B7 := hide (show Below w.heap.size w W7 by rw [← hW7]; exact B6.out.alloc B6.out.size _)
    clear hW7
    rw [HW7.out]
    obtain ⟨y, hy⟩ : ∃ y, wrap64 (2 ^ u.toNat) = y := ⟨_, rfl⟩
    rw [hy] at RL7
    clear hy
    go_loopw [65] (fun i wr => NewRel A1 n1 c1 A2 n2 c2 q a y 16 w w6.heap.size i wr) (fun i _ => 3 - (intOf i).toNat)
    case atStart => exact ⟨0, by omega, rfl, RR7, RL7, B7⟩
    case round =>
      obtain ⟨k, hk, rfl, RR, RL, BB⟩ := hrel
      clear RR7 RL7 B7
      by_cases hlt : k < 3
      · obtain ⟨av, hav⟩ : ∃ av, ([.int .i64 a, .int .i64 y, .int .i64 16] : List Value)[k]? = some (.int .i64 av) := by rcases (show k = 0 ∨ k = 1 ∨ k = 2 by omega) with rfl | rfl | rfl <;> exact ⟨_, rfl⟩
        have hd3 : decide ((k : Int) < 3) = true := by simp; omega
        have fl := RL.out.cell hav
        clear hav
        have n1c := fun W => stknew_any v av W
        have n2c := fun W => rstknew_any v av W
        have n3c := fun W => stknew_any s av W
        have n4c := fun W => rstknew_any s av W
        obtain ⟨S1, hS1⟩ : ∃ S, newR v av = S := ⟨_, rfl⟩
        obtain ⟨E1, hE1⟩ : ∃ S, newE v av = S := ⟨_, rfl⟩
        simp only [hS1, hE1] at n1c n2c
        obtain ⟨S2, hS2⟩ : ∃ S, newR s av = S := ⟨_, rfl⟩
        obtain ⟨E2, hE2⟩ : ∃ S, newE s av = S := ⟨_, rfl⟩
        simp only [hS2, hE2] at n3c n4c
        clear hS1 hE1 hS2 hE2
        go_wp2_with fail
        clear fl
        go_fit (n1c _)
        rintro e w8 ⟨p1, l1, r1, m1, rfl, hS8, hb8⟩
        have S18 := hide hS8
        clear hS8
        have RR9 := hide (RR.out.call hb8)
        clear RR
        have RL9 := hide (RL.out.call hb8)
        clear RL
        have B9 := hide (below_call BB.out hb8)
        clear BB
        clear hb8
        go_upto_region 11 with (fail)
        obtain ⟨W10, hW10⟩ : ∃ W, w8.alloc (.cells #[.slice p1 S1.bs.length l1, .slice r1 S1.bs.length m1, .int .i64 (S1.sp : Int)] 25) = W := ⟨_, rfl⟩
        have HW10 := hide hW10
        have RR10 := hide (show Row W10 (w.heap.size) 25 [.slice A1 n1 c1, .slice A2 n2 c2, .int .i64 q] by rw [← hW10]; exact RR9.out.alloc _)
        clear RR9
        have RL10 := hide (show Row W10 (w6.heap.size) 3 [.int .i64 a, .int .i64 y, .int .i64 16] by rw [← hW10]; exact RL9.out.alloc _)
        clear RL9
        have RV110 := hide (show Row W10 (w8.heap.size) 25 [.slice p1 S1.bs.length l1, .slice r1 S1.bs.length m1, .int .i64 (S1.sp : Int)] by rw [← hW10]; exact Row.new w8 _ _)
        have S110 := hide (show StkAt W10 W10.heap.size p1 l1 r1 m1 S1 by rw [← hW10]; exact S18.out.alloc _)
        clear S18
        have L10 := hide (show w8.heap.size < W10.heap.size by rw [← hW10]; simp)
        have G10 := hide B9.out.size
        have B10 := hide (show Below w.heap.size w W10 by rw [← hW10]; exact B9.out.alloc B9.out.size _)
        clear hW10
        rw [HW10.out]
        go_wp2_with fail
        go_fit (n2c _)
        rintro e w11 ⟨p2, l2, r2, m2, rfl, hS11, hb11⟩
        have S211 := hide hS11
        clear hS11
        have RR12 := hide (RR10.out.call hb11)
        clear RR10
        have RL12 := hide (RL10.out.call hb11)
        clear RL10
        have RV112 := hide (RV110.out.call hb11)
        clear RV110
        have S112 := hide (S110.out.call hb11)
        clear S110
        have B12 := hide (below_call B10.out hb11)
        clear B10
        clear hb11
        go_upto_region 12 with (fail)
        obtain ⟨W13, hW13⟩ : ∃ W, w11.alloc (.cells #[.slice p2 S1.bs.length l2, .slice r2 S1.bs.length m2, .int .i64 (S1.sp : Int)] 25) = W := ⟨_, rfl⟩
        have HW13 := hide hW13
        have RR13 := hide (show Row W13 (w.heap.size) 25 [.slice A1 n1 c1, .slice A2 n2 c2, .int .i64 q] by rw [← hW13]; exact RR12.out.alloc _)
        clear RR12
        have RL13 := hide (show Row W13 (w6.heap.size) 3 [.int .i64 a, .int .i64 y, .int .i64 16] by rw [← hW13]; exact RL12.out.alloc _)
        clear RL12
        have RV113 := hide (show Row W13 (w8.heap.size) 25 [.slice p1 S1.bs.length l1, .slice r1 S1.bs.length m1, .int .i64 (S1.sp : Int)] by rw [← hW13]; exact RV112.out.alloc _)
        clear RV112
        have RV213 := hide (show Row W13 (w11.heap.size) 25 [.slice p2 S1.bs.length l2, .slice r2 S1.bs.length m2, .int .i64 (S1.sp : Int)] by rw [← hW13]; exact Row.new w11 _ _)
        have S113 := hide (show StkAt W13 W13.heap.size p1 l1 r1 m1 S1 by rw [← hW13]; exact S112.out.alloc _)
        clear S112
        have S213 := hide (show StkAt W13 W13.heap.size p2 l2 r2 m2 S1 by rw [← hW13]; exact S211.out.alloc _)
        clear S211
        have L13 := hide (show w11.heap.size < W13.heap.size by rw [← hW13]; simp)
        have G13 := hide B12.out.size
        have B13 := hide (show Below w.heap.size w W13 by rw [← hW13]; exact B12.out.alloc B12.out.size _)
        clear hW13
        rw [HW13.out]
        go_wp2_with fail
        go_fit (n3c _)
        rintro e w14 ⟨p3, l3, r3, m3, rfl, hS14, hb14⟩
        have S314 := hide hS14
        clear hS14
        have RR15 := hide (RR13.out.call hb14)
        clear RR13
        have RL15 := hide (RL13.out.call hb14)
        clear RL13
        have RV115 := hide (RV113.out.call hb14)
        clear RV113
        have RV215 := hide (RV213.out.call hb14)
        clear RV213
        have S115 := hide (S113.out.call hb14)
        clear S113
        have S215 := hide (S213.out.call hb14)
        clear S213
        have B15 := hide (below_call B13.out hb14)
        clear B13
        clear hb14
        go_upto_region 13 with (fail)
        obtain ⟨W16, hW16⟩ : ∃ W, w14.alloc (.cells #[.slice p3 S2.bs.length l3, .slice r3 S2.bs.length m3, .int .i64 (S2.sp : Int)] 25) = W := ⟨_, rfl⟩
        have HW16 := hide hW16
        have RR16 := hide (show Row W16 (w.heap.size) 25 [.slice A1 n1 c1, .slice A2 n2 c2, .int .i64 q] by rw [← hW16]; exact RR15.out.alloc _)
        clear RR15
        have RL16 := hide (show Row W16 (w6.heap.size) 3 [.int .i64 a, .int .i64 y, .int .i64 16] by rw [← hW16]; exact RL15.out.alloc _)
        clear RL15
        have RV116 := hide (show Row W16 (w8.heap.size) 25 [.slice p1 S1.bs.length l1, .slice r1 S1.bs.length m1, .int .i64 (S1.sp : Int)] by rw [← hW16]; exact RV115.out.alloc _)
        clear RV115
        have RV216 := hide (show Row W16 (w11.heap.size) 25 [.slice p2 S1.bs.length l2, .slice r2 S1.bs.length m2, .int .i64 (S1.sp : Int)] by rw [← hW16]; exact RV215.out.alloc _)
        clear RV215
        have RV316 := hide (show Row W16 (w14.heap.size) 25 [.slice p3 S2.bs.length l3, .slice r3 S2.bs.length m3, .int .i64 (S2.sp : Int)] by rw [← hW16]; exact Row.new w14 _ _)
        have S116 := hide (show StkAt W16 W16.heap.size p1 l1 r1 m1 S1 by rw [← hW16]; exact S115.out.alloc _)
        clear S115
        have S216 := hide (show StkAt W16 W16.heap.size p2 l2 r2 m2 S1 by rw [← hW16]; exact S215.out.alloc _)
        clear S215
        have S316 := hide (show StkAt W16 W16.heap.size p3 l3 r3 m3 S2 by rw [← hW16]; exact S314.out.alloc _)
        clear S314
        have L16 := hide (show w14.heap.size < W16.heap.size by rw [← hW16]; simp)
        have G16 := hide B15.out.size
        have B16 := hide (show Below w.heap.size w W16 by rw [← hW16]; exact B15.out.alloc B15.out.size _)
        clear hW16
        rw [HW16.out]
        go_wp2_with fail
        go_fit (n4c _)
        rintro e w17 ⟨p4, l4, r4, m4, rfl, hS17, hb17⟩
        have S417 := hide hS17
        clear hS17
        have RR18 := hide (RR16.out.call hb17)
        clear RR16
        have RL18 := hide (RL16.out.call hb17)
        clear RL16
        have RV118 := hide (RV116.out.call hb17)
        clear RV116
        have RV218 := hide (RV216.out.call hb17)
        clear RV216
        have RV318 := hide (RV316.out.call hb17)
        clear RV316
        have S118 := hide (S116.out.call hb17)
        clear S116
        have S218 := hide (S216.out.call hb17)
        clear S216
        have S318 := hide (S316.out.call hb17)
        clear S316
        have B18 := hide (below_call B16.out hb17)
        clear B16
        clear hb17
        go_upto_region 14 with (fail)
        obtain ⟨W19, hW19⟩ : ∃ W, w17.alloc (.cells #[.slice p4 S2.bs.length l4, .slice r4 S2.bs.length m4, .int .i64 (S2.sp : Int)] 25) = W := ⟨_, rfl⟩
        have HW19 := hide hW19
        have RR19 := hide (show Row W19 (w.heap.size) 25 [.slice A1 n1 c1, .slice A2 n2 c2, .int .i64 q] by rw [← hW19]; exact RR18.out.alloc _)
        clear RR18
        have RL19 := hide (show Row W19 (w6.heap.size) 3 [.int .i64 a, .int .i64 y, .int .i64 16] by rw [← hW19]; exact RL18.out.alloc _)
        clear RL18
        have RV119 := hide (show Row W19 (w8.heap.size) 25 [.slice p1 S1.bs.length l1, .slice r1 S1.bs.length m1, .int .i64 (S1.sp : Int)] by rw [← hW19]; exact RV118.out.alloc _)
        clear RV118
        have RV219 := hide (show Row W19 (w11.heap.size) 25 [.slice p2 S1.bs.length l2, .slice r2 S1.bs.length m2, .int .i64 (S1.sp : Int)] by rw [← hW19]; exact RV218.out.alloc _)
        clear RV218
        have RV319 := hide (show Row W19 (w14.heap.size) 25 [.slice p3 S2.bs.length l3, .slice r3 S2.bs.length m3, .int .i64 (S2.sp : Int)] by rw [← hW19]; exact RV318.out.alloc _)
        clear RV318
        have RV419 := hide (show Row W19 (w17.heap.size) 25 [.slice p4 S2.bs.length l4, .slice r4 S2.bs.length m4, .int .i64 (S2.sp : Int)] by rw [← hW19]; exact Row.new w17 _ _)
        have S119 := hide (show StkAt W19 W19.heap.size p1 l1 r1 m1 S1 by rw [← hW19]; exact S118.out.alloc _)
        clear S118
        have S219 := hide (show StkAt W19 W19.heap.size p2 l2 r2 m2 S1 by rw [← hW19]; exact S218.out.alloc _)
        clear S218
        have S319 := hide (show StkAt W19 W19.heap.size p3 l3 r3 m3 S2 by rw [← hW19]; exact S318.out.alloc _)
        clear S318
        have S419 := hide (show StkAt W19 W19.heap.size p4 l4 r4 m4 S2 by rw [← hW19]; exact S417.out.alloc _)
        clear S417
        have L19 := hide (show w17.heap.size < W19.heap.size by rw [← hW19]; simp)
        have G19 := hide B18.out.size
        have B19 := hide (show Below w.heap.size w W19 by rw [← hW19]; exact B18.out.alloc B18.out.size _)
        clear hW19
        rw [HW19.out]
        have fV10 := RV119.out.cell (k := 0) rfl
        have fV11 := RV119.out.cell (k := 1) rfl
        have fV12 := RV119.out.cell (k := 2) rfl
        have fV20 := RV219.out.cell (k := 0) rfl
        have fV21 := RV219.out.cell (k := 1) rfl
        have fV22 := RV219.out.cell (k := 2) rfl
        go_wp2_with fail
        refine (rsame_stk _ S119 S219).mono ?_
        rintro e w20 ⟨rfl, hb20⟩
        have RR21 := hide (RR19.out.call hb20)
        clear RR19
        have RL21 := hide (RL19.out.call hb20)
        clear RL19
        have RV121 := hide (RV119.out.call hb20)
        clear RV119
        have RV221 := hide (RV219.out.call hb20)
        clear RV219
        have RV321 := hide (RV319.out.call hb20)
        clear RV319
        have RV421 := hide (RV419.out.call hb20)
        clear RV419
        have S121 := hide (S119.out.call hb20)
        clear S119
        have S221 := hide (S219.out.call hb20)
        clear S219
        have S321 := hide (S319.out.call hb20)
        clear S319
        have S421 := hide (S419.out.call hb20)
        clear S419
        have B21 := hide (below_call B19.out hb20)
        clear B19
        clear hb20
        clear fV10 fV11 fV12 fV20 fV21 fV22
        have fV30 := RV321.out.cell (k := 0) rfl
        have fV31 := RV321.out.cell (k := 1) rfl
        have fV32 := RV321.out.cell (k := 2) rfl
        have fV40 := RV421.out.cell (k := 0) rfl
        have fV41 := RV421.out.cell (k := 1) rfl
        have fV42 := RV421.out.cell (k := 2) rfl
        go_wp2_with fail
        refine (rsame_stk _ S321 S421).mono ?_
        rintro e w22 ⟨rfl, hb22⟩
        have RR23 := hide (RR21.out.call hb22)
        clear RR21
        have RL23 := hide (RL21.out.call hb22)
        clear RL21
        have RV123 := hide (RV121.out.call hb22)
        clear RV121
        have RV223 := hide (RV221.out.call hb22)
        clear RV221
        have RV323 := hide (RV321.out.call hb22)
        clear RV321
        have RV423 := hide (RV421.out.call hb22)
        clear RV421
        have S123 := hide (S121.out.call hb22)
        clear S121
        have S223 := hide (S221.out.call hb22)
        clear S221
        have S323 := hide (S321.out.call hb22)
        clear S321
        have S423 := hide (S421.out.call hb22)
        clear S421
        have B23 := hide (below_call B21.out hb22)
        clear B21
        clear hb22
        go_wp2_with fail
        go_roundw
        case rel => exact ⟨k + 1, by omega, by go_num, RR23, RL23, B23⟩
        case measure => simp [intOf]; omega
      · have cn := stknew_any 1048577 16
        obtain ⟨hE, hR⟩ := new_no 1048577 16 (by omega)
        rw [hE, hR] at cn
        clear hE hR
        go_wp2_with fail
        obtain ⟨S9, hS9⟩ : ∃ S, newS 0 0 = S := ⟨_, rfl⟩
        rw [hS9] at cn
        clear hS9
        go_fit (cn _)
        rintro e w8 ⟨p1, l1, r1, m1, rfl, hS8, hb8⟩
        have Sn8 := hide hS8
        clear hS8
        have RR9 := hide (RR.out.call hb8)
        clear RR
        have RL9 := hide (RL.out.call hb8)
        clear RL
        have B9 := hide (below_call BB.out hb8)
        clear BB
        clear hb8
        go_upto_region 18 with (fail)
        obtain ⟨W10, hW10⟩ : ∃ W, w8.alloc (.cells #[.slice p1 S9.bs.length l1, .slice r1 S9.bs.length m1, .int .i64 (S9.sp : Int)] 25) = W := ⟨_, rfl⟩
        have HW10 := hide hW10
        have RR10 := hide (show Row W10 (w.heap.size) 25 [.slice A1 n1 c1, .slice A2 n2 c2, .int .i64 q] by rw [← hW10]; exact RR9.out.alloc _)
        clear RR9
        have RL10 := hide (show Row W10 (w6.heap.size) 3 [.int .i64 a, .int .i64 y, .int .i64 16] by rw [← hW10]; exact RL9.out.alloc _)
        clear RL9
        have RV910 := hide (show Row W10 (w8.heap.size) 25 [.slice p1 S9.bs.length l1, .slice r1 S9.bs.length m1, .int .i64 (S9.sp : Int)] by rw [← hW10]; exact Row.new w8 _ _)
        have Sn10 := hide (show StkAt W10 W10.heap.size p1 l1 r1 m1 S9 by rw [← hW10]; exact Sn8.out.alloc _)
        clear Sn8
        have L10 := hide (show w8.heap.size < W10.heap.size by rw [← hW10]; simp)
        have G10 := hide B9.out.size
        have B10 := hide (show Below w.heap.size w W10 by rw [← hW10]; exact B9.out.alloc B9.out.size _)
        clear hW10
        rw [HW10.out]
        have j0 := fun p : After W10 => after_cell (RR10.out.cell (k := 0) rfl) p
        have j1 := fun p : After W10 => after_cell (RR10.out.cell (k := 1) rfl) p
        have j2 := fun p : After W10 => after_cell (RR10.out.cell (k := 2) rfl) p
        refine wp_region_after (by kernel_rfl) (by kernel_rfl) ?_
        repeat (go_big_quiet_step ((first
          | (go_at_call 14; with_reducible exact after_of (check_stk A1 n1 c1 A2 n2 c2 q _ h1 h2))
          | (go_at_call 15; with_reducible exact after_of (rcheck_stk A1 n1 c1 A2 n2 c2 q _ h1 h2)))))
        refine wpQuiet_nil ?_
        intro _ hw'
        obtain ⟨p1, hw''⟩ := hw'
        subst hw''
        go_wp2_with fail
        go_ret
        exact ⟨ret_bool (by simp), below_call B10.out p1.b⟩
end Go.Proofs.Ytafegghdhdgioaa
end

section
/-
  What a stack that came in gives: two slices of some length and a number. No function of the program is named here.
-/
namespace Go.Proofs.Ytafegghdhdgioaa
open Go.Joins Go.ChangeShapes Go.WideShapes Go.ChangeAt Go.RowKit Go.Deep

section
variable {H : Type} {enc : TypeId × Value → H}
theorem slice_len {W : World} {base : Nat} {spare : Nat → Bool} {held : Bool} {t e : TypeId} {fuel : Nat} {v : Value} {x : DataW H × List MemPlace} (ht : Try.prog.underlying t = some (.slice e)) (h : DataW.trod enc Try.prog W base spare held fuel t [v] = some x) : ∃ A n c, v = .slice A n c ∧ n ≤ 9223372036854775807 := by
  rcases open_slice ht h with ⟨hcs, _⟩ | ⟨a, len, cap, m, n, D, Pl, hcs, _, hlc, hm, _⟩
  · simp only [List.cons.injEq, and_true] at hcs
    exact ⟨none, 0, 0, hcs, by omega⟩
  · simp only [List.cons.injEq, and_true] at hcs
    exact ⟨some a, len, cap, hcs, by unfold maxLen at hm; omega⟩
theorem stk_one_cell (f0 f1 f2 : Field) (hs : Try.prog.underlying 25 = some (.struct #[f0, f1, f2])) (h0 : f0.type = 22) (h1 : f1.type = 23) (h2 : f2.type = 3) (hone : oneCellFields Try.prog #[f0, f1, f2] = true)
    {W : World} {base b0 : Nat} {r : Reach} {v : Value} {d : DataW H} {p : List MemPlace} {spare : Nat → Bool} {held : Bool}
    (hval : Value.okWide Try.prog W r b0 25 v) (h : DataW.Trod enc Try.prog W base spare held 25 v d p) : ∃ (A1 : Option Addr) (n1 c1 : Nat) (A2 : Option Addr) (n2 c2 : Nat) (q : Int), v = kv A1 n1 c1 A2 n2 c2 q ∧ n1 ≤ 9223372036854775807 ∧ n2 ≤ 9223372036854775807 := by
  obtain ⟨v0, v1, v2, y0, y1, y2, n, rfl, _, _, t0, t1, t2⟩ := Go.Joins.open_agg3 hs hone (by kernel_rfl) hval h
  rw [h0] at t0
  rw [h1] at t1
  rw [h2] at t2
  obtain ⟨A1, n1, c1, rfl, l1⟩ := slice_len Try.underlying22 t0
  obtain ⟨A2, n2, c2, rfl, l2⟩ := slice_len Try.underlying23 t1
  obtain ⟨q, e2, _, _⟩ := DataW.trod_int Try.underlying3 t2
  simp only [List.cons.injEq, and_true] at e2
  subst e2
  exact ⟨A1, n1, c1, A2, n2, c2, q, rfl, l1, l2⟩
theorem open_stk {W : World} {base b0 : Nat} {r : Reach} {v : Value} {d : DataW H} {p : List MemPlace} {spare : Nat → Bool} {held : Bool}
    (hval : Value.okWide Try.prog W r b0 25 v) (h : DataW.Trod enc Try.prog W base spare held 25 v d p) : ∃ (A1 : Option Addr) (n1 c1 : Nat) (A2 : Option Addr) (n2 c2 : Nat) (q : Int), v = kv A1 n1 c1 A2 n2 c2 q ∧ n1 ≤ 9223372036854775807 ∧ n2 ≤ 9223372036854775807 :=
  stk_one_cell _ _ _ Try.underlying25 rfl rfl rfl (by kernel_rfl) hval h
end
end Go.Proofs.Ytafegghdhdgioaa
end

section
/-
  StackNew: for every input the law returns true, and each argument reads behind the call as it did before. No condition: every input that the row speaks of.
-/
namespace Go.Proofs.Ytafegghdhdgioaa
open Go.ChangeShapes Go.WideShapes Go.ChangeAt Go.RowKit

namespace rowStackNew
theorem own_knob : ownKnob Try.prog.godebug = none := by kernel_rfl
theorem laid_out : laidOutB Try.prog = true := by kernel_rfl
theorem cells_u8 : Try.prog.cellsOf 5 = 1 := by kernel_rfl
theorem contract (H : Type) (enc : TypeId × Value → H) (W : World) (base : Nat) (args : Array Value) (ds gs : List (DataW H)) (before : List MemPlace)
    (hval : ∀ (j : Nat) t v, Try.f3.params[j]? = some t → args[j]? = some v → Value.okWide Try.prog W .any base t v)
    (hW : DataW.Whole enc Try.prog Try.f3.params.toList Rows.stackNewSpec.vars false W args.toList ds gs before) :
    Calls Try.prog 3 args W fun e W' => ∃ v, e = .returned v ∧ Rows.stackNewSpec.post enc Try.prog Try.f3 false true false false W args v W' := by
  have hW' := hW
  obtain ⟨p, q, hA, hV, rfl, hfz, hnd⟩ := hW
  have hA : DataW.TrodAll enc Try.prog W 0 (fun _ => true) true Try.f3.params.toList args.toList ds p := hA
  rw [Try.params3] at hA hval
  obtain ⟨v0, vs0, d0, ds0, p0, q0, hargs, rfl, rfl, h0, r0⟩ := trodAll_cons hA
  obtain ⟨v1, vs1, d1, ds1, p1, q1, rfl, rfl, rfl, h1, r1⟩ := trodAll_cons r0
  obtain ⟨v2, vs2, d2, ds2, p2, q2, rfl, rfl, rfl, h2, r2⟩ := trodAll_cons r1
  obtain ⟨v3, vs3, d3, ds3, p3, q3, rfl, rfl, rfl, h3, r3⟩ := trodAll_cons r2
  obtain ⟨rfl, rfl, rfl⟩ := trodAll_nil r3
  obtain rfl : args = #[v0, v1, v2, v3] := by cases args; simp_all
  obtain ⟨a0, rfl, _, _, w0⟩ := open_int Try.underlying3 (hval 0 3 v0 rfl rfl) h0
  have b0 := bounds_i64 w0
  obtain ⟨a1, rfl, _, _, w1⟩ := open_int Try.underlying3 (hval 1 3 v1 rfl rfl) h1
  have b1 := bounds_i64 w1
  obtain ⟨A2, n2, c2, zs2, rfl, hA2, hn2, hm2, hs2, hz2, hc2⟩ := open_u8s Try.underlying22 Try.underlying5 cells_u8 (hval 2 22 v2 rfl rfl) h2
  obtain ⟨X3, n3, c3, Y3, m3, e3, q3, rfl, l3, k3⟩ := open_stk (hval 3 25 v3 rfl rfl) h3
  refine (stknew_walk a0 a1 A2 n2 c2 zs2 X3 n3 c3 Y3 m3 e3 q3 W b0.1 b0.2 hA2 hn2 hc2 hm2 hs2 hz2 l3 k3).mono fun e W' ⟨he, hB⟩ => ⟨_, he, ?_⟩
  exact law_post laid_out (by decide +kernel) rfl rfl Try.underlying4 rfl hW' hB

set_option maxRecDepth 100000 in
theorem lifted (os : Os) (started : os.Started) (H : Type) (enc : TypeId × Value → H) :
    ReturnsInHanded {} Try.checked os 3 .any (Rows.stackNewSpec.pre6 enc Try.prog Try.f3 Rows.stackNewRow.domain false) (Rows.stackNewSpec.post enc Try.prog Try.f3 false true false false) := by
  refine returnsInHanded_of_change (C := Try.checked) own_knob started (by kernel_rfl) Try.func3
    (ChangeSpec.witness6 (enc := enc) (C := Try.checked) false ⟨#[], #[.int .i64 0, .int .i64 0, .slice none 0 0, .agg #[.slice none 0 0, .slice none 0 0, .int .i64 0]], []⟩ 8 (by kernel_rfl) (by kernel_rfl) (by kernel_rfl) (by kernel_rfl)) ?_
  intro W base args ds gs before hval hW _ _
  exact contract H enc W base args ds gs before hval hW

theorem proved : Rows.StackNewSaid :=
  OpenClaim.holds_of_wide 3 Try.f3 rfl rfl rfl rfl rfl rfl rfl ⟨rfl, rfl, rfl, rfl, rfl⟩ rfl rfl rfl rfl rfl (by kernel_rfl) Try.func3 (by kernel_rfl)
    (of_decide_eq_true (by kernel_rfl)) (by unfold Func.isWrapper; first | (rw [if_pos (by decide +kernel)]; kernel_rfl) | (rw [if_neg (by decide +kernel)]; exact ⟨rfl, rfl⟩))
    (fun os started H enc _ => lifted os started H enc)
end rowStackNew
end Go.Proofs.Ytafegghdhdgioaa
end
