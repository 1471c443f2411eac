/-
  The walk of the law MachIntervals: for all instructions it returns true, and what was in memory before the call is as it was. Conditions: those of the types.
-/
import Derived.Test.YtjgoldlebmfiiaaMawk
import Derived.Test.YtjgoldlebmfiiaaMrrw
import Derived.Test.YtjgoldlebmfiiaaMneq
namespace Go.Proofs.Ytjgoldlebmfiiaa
open Go.RowKit

set_option maxHeartbeats 1000000 in
theorem intlaw_walk (P S : Int) (A : Option Addr) (n cp : Nat) (o a b c m u : Int) (w : World) (hu : 0 ≤ u ∧ u ≤ 255) :
    Calls Try.prog 3 #[mv P S A n cp, iv o a b c m, .int .u8 u] w fun e w' => e = .returned (.bool true) ∧ Below w.heap.size w w' := by
  obtain ⟨W2, hW2, hb2, hs2, r0, r1⟩ := boxes2q w [.int .i64 P, .int .i64 S, .slice A n cp] [.int .i64 o, .int .i64 a, .int .i64 b, .int .i64 c, .int .u64 m] 24 27
  have HW2 := hide hW2
  have HB2 := hide hb2
  have HS2 := hide hs2
  have R0 := hide r0
  have R1 := hide r1
  clear hW2 hb2 hs2 r0 r1
  have ca := awake10_any W2
  have hu0 := hu.1
  have hu1 := hu.2
  go_enter Try.func3, Try.ntmps3
  go_upto_region 1 with (fail)
  rw [HW2.out]
  clear HW2
  go_wp2_with fail
  refine ca.mono ?_
  rintro e W3 ⟨rfl, hb3⟩
  have R3 := hide (R0.out.call hb3)
  have Q3 := hide (R1.out.call hb3)
  have HB3 := hide (below_call HB2.out hb3)
  have HS3 := hide (show w.heap.size + 2 ≤ W3.heap.size by have := hb3.size; have := HS2.out; omega)
  have q0 := Q3.out.cell (k := 0) rfl
  have q1 := Q3.out.cell (k := 1) rfl
  have q2 := Q3.out.cell (k := 2) rfl
  have q3 := Q3.out.cell (k := 3) rfl
  have q4 := Q3.out.cell (k := 4) rfl
  clear hb3 ca R0 R1 HB2
  go_upto_region 5 with (fail)
  obtain ⟨W4, hW4⟩ : ∃ V, W3.alloc (.cells #[.int .i64 (u % 25), .int .i64 a, .int .i64 b, .int .i64 c, .int .u64 m] 27) = V := ⟨_, rfl⟩
  have R4 := hide (show Row W4 w.heap.size 24 [.int .i64 P, .int .i64 S, .slice A n cp] by rw [← hW4]; exact R3.out.alloc _)
  have Q4 := hide (show Row W4 (w.heap.size + 1) 27 [.int .i64 o, .int .i64 a, .int .i64 b, .int .i64 c, .int .u64 m] by rw [← hW4]; exact Q3.out.alloc _)
  have Y4 := hide (show Row W4 W3.heap.size 27 [.int .i64 (u % 25), .int .i64 a, .int .i64 b, .int .i64 c, .int .u64 m] by rw [← hW4]; exact Row.new W3 _ _)
  have HB4 := hide (show Below w.heap.size w W4 by rw [← hW4]; exact HB3.out.alloc HB3.out.size _)
  have HS4 := hide (show w.heap.size + 3 ≤ W4.heap.size by rw [← hW4]; have := HS3.out; simp; omega)
  rw [hW4]
  have q0 := Q4.out.cell (k := 0) rfl
  have q1 := Q4.out.cell (k := 1) rfl
  have q2 := Q4.out.cell (k := 2) rfl
  have q3 := Q4.out.cell (k := 3) rfl
  have q4 := Q4.out.cell (k := 4) rfl
  have y0 := Y4.out.cell (k := 0) rfl
  have y1 := Y4.out.cell (k := 1) rfl
  have y2 := Y4.out.cell (k := 2) rfl
  have y3 := Y4.out.cell (k := 3) rfl
  have y4 := Y4.out.cell (k := 4) rfl
  clear hW4 R3 Q3 HB3 HS3
  go_wp2_with fail
  obtain ⟨W5, hW5⟩ : ∃ V, W4.alloc (.cells #[.int .i64 o, .int .i64 a, .int .i64 b, .int .i64 c, .int .u64 m, .int .i64 (u % 25), .int .i64 a, .int .i64 b, .int .i64 c, .int .u64 m] 27) = V := ⟨_, rfl⟩
  have R5 := hide (show Row W5 w.heap.size 24 [.int .i64 P, .int .i64 S, .slice A n cp] by rw [← hW5]; exact R4.out.alloc _)
  have Z5 := hide (show Row W5 W4.heap.size 27 [.int .i64 o, .int .i64 a, .int .i64 b, .int .i64 c, .int .u64 m, .int .i64 (u % 25), .int .i64 a, .int .i64 b, .int .i64 c, .int .u64 m] by rw [← hW5]; exact Row.new W4 _ _)
  have HB5 := hide (show Below w.heap.size w W5 by rw [← hW5]; exact HB4.out.alloc HB4.out.size _)
  have HS5 := hide (show W4.heap.size < W5.heap.size by rw [← hW5]; simp)
  rw [hW5]
  obtain ⟨g, hg⟩ : ∃ g, W4.heap.size = g := ⟨_, rfl⟩
  rw [hg] at Z5 HS5 HS4 ⊢
  clear hW5 hg R4 Q4 Y4 q0 q1 q2 q3 q4 y0 y1 y2 y3 y4 HB4
  go_loopw [29] (fun i wr => ∃ k : Nat, k ≤ 2 ∧ i = .int .i64 k ∧ Hid (Below W5.heap.size W5 wr)) (fun i _ => 2 - (intOf i).toNat)
  case atStart => exact ⟨0, by omega, rfl, hide (Below.refl _ _)⟩
  case round =>
    obtain ⟨k, hk, rfl, hb⟩ := hrel
    by_cases hlt : k < 2
    · have hkz : (0 : Int) ≤ (k : Int) := by omega
      have hkz' : (k : Int) < 2 := by omega
      have hv : ∃ z, Hid (∀ j v, [Value.int .i64 z, .int .i64 a, .int .i64 b, .int .i64 c, .int .u64 m][j]? = some v → wr.cell? ⟨g, k * 5 + j, none⟩ = some v) := by
        have Z := Z5.out.call hb.out
        rcases (show k = 0 ∨ k = 1 by omega) with rfl | rfl
        · exact ⟨o, hide fun j v hj => Z.cell (by
            rcases j with _ | _ | _ | _ | _ | j <;> simp at hj ⊢ <;> exact hj)⟩
        · exact ⟨u % 25, hide fun j v hj => Z.cell (by
            rcases j with _ | _ | _ | _ | _ | j <;> simp at hj ⊢ <;> exact hj)⟩
      obtain ⟨z, hz⟩ := hv
      have z0 := hz.out 0 _ rfl
      have z1 := hz.out 1 _ rfl
      have z2 := hz.out 2 _ rfl
      have z3 := hz.out 3 _ rfl
      have z4 := hz.out 4 _ rfl
      rw [Nat.add_zero] at z0
      have R6 := hide (R5.out.call hb.out)
      have f0 := R6.out.cell (k := 0) rfl
      have f1 := R6.out.cell (k := 1) rfl
      have f2 := R6.out.cell (k := 2) rfl
      have HB6 := hide (HB5.out.trans (hb.out.mono HB5.out.size))
      have gl : g < wr.heap.size := by have := hb.out.size; have := HS5.out; omega
      clear hz
      go_upto_region 8 with (fail)
      obtain ⟨X0, hX0⟩ : ∃ V, wr.alloc (.cells #[.int .i64 z, .int .i64 a, .int .i64 b, .int .i64 c, .int .u64 m] 27) = V := ⟨_, rfl⟩
      have R7 := hide (show Row X0 w.heap.size 24 [.int .i64 P, .int .i64 S, .slice A n cp] by rw [← hX0]; exact R6.out.alloc _)
      have Z7 := hide (show Row X0 wr.heap.size 27 [.int .i64 z, .int .i64 a, .int .i64 b, .int .i64 c, .int .u64 m] by rw [← hX0]; exact Row.new wr _ _)
      have HB7 := hide (show Below wr.heap.size wr X0 by rw [← hX0]; exact below1 _ _)
      rw [hX0]
      obtain ⟨gz, hgz⟩ : ∃ g, wr.heap.size = g := ⟨_, rfl⟩
      rw [hgz] at Z7 HB7 ⊢
      clear hX0 f0 f1 f2 z0 z1 z2 z3 z4 R6
      obtain ⟨p1, hp1⟩ : ∃ p, rdI ⟨z, a, b, c, m⟩ = p := ⟨_, rfl⟩
      obtain ⟨p2, hp2⟩ : ∃ p, wrI ⟨z, a, b, c, m⟩ = p := ⟨_, rfl⟩
      obtain ⟨s1, s2⟩ := p1
      obtain ⟨t1, t2⟩ := p2
      obtain ⟨bx, hbx⟩ : ∃ p, rdB z = p := ⟨_, rfl⟩
      obtain ⟨by_, hby⟩ : ∃ p, wrB z = p := ⟨_, rfl⟩
      have f0 := R7.out.cell (k := 0) rfl
      have f1 := R7.out.cell (k := 1) rfl
      have f2 := R7.out.cell (k := 2) rfl
      have z0 := Z7.out.cell (k := 0) rfl
      have z1 := Z7.out.cell (k := 1) rfl
      have z2 := Z7.out.cell (k := 2) rfl
      have z3 := Z7.out.cell (k := 3) rfl
      have z4 := Z7.out.cell (k := 4) rfl
      have c0 := reads_any P S A n cp z a b c m X0
      rw [hp1, hbx] at c0
      go_upto_region 9 with (go_at_call 8; refine c0.mono ?_; rintro e V1 ⟨rfl, hb0⟩)
      obtain ⟨X1, hN0⟩ : ∃ V, V1.alloc (.cells #[.int .i64 s1, .int .i64 s2] 30) = V := ⟨_, rfl⟩
      have R8 := hide (show Row X1 w.heap.size 24 [.int .i64 P, .int .i64 S, .slice A n cp] by rw [← hN0]; exact (R7.out.call hb0).alloc _)
      have Z8 := hide (show Row X1 gz 27 [.int .i64 z, .int .i64 a, .int .i64 b, .int .i64 c, .int .u64 m] by rw [← hN0]; exact (Z7.out.call hb0).alloc _)
      have HB8 := hide (show Below gz wr X1 by rw [← hN0]; have h := HB7.out.trans (hb0.mono (by have := HB7.out.size; omega)); exact h.alloc (by have := h.size; omega) _)
      have B0_0 := hide (show Row X1 V1.heap.size 30 [.int .i64 s1, .int .i64 s2] by rw [← hN0]; exact Row.new V1 _ _)
      rw [hN0]
      obtain ⟨gB0, hgB0⟩ : ∃ g, V1.heap.size = g := ⟨_, rfl⟩
      rw [hgB0] at B0_0 ⊢
      clear hN0 hb0 c0 f0 f1 f2 z0 z1 z2 z3 z4 R7 Z7 hgB0
      have f0 := R8.out.cell (k := 0) rfl
      have f1 := R8.out.cell (k := 1) rfl
      have f2 := R8.out.cell (k := 2) rfl
      have z0 := Z8.out.cell (k := 0) rfl
      have z1 := Z8.out.cell (k := 1) rfl
      have z2 := Z8.out.cell (k := 2) rfl
      have z3 := Z8.out.cell (k := 3) rfl
      have z4 := Z8.out.cell (k := 4) rfl
      have c1 := rreads_any P S A n cp z a b c m X1
      rw [hp1, hbx] at c1
      go_upto_region 10 with (go_at_call 9; refine c1.mono ?_; rintro e V2 ⟨rfl, hb1⟩)
      obtain ⟨X2, hN1⟩ : ∃ V, V2.alloc (.cells #[.int .i64 s1, .int .i64 s2] 30) = V := ⟨_, rfl⟩
      have R9 := hide (show Row X2 w.heap.size 24 [.int .i64 P, .int .i64 S, .slice A n cp] by rw [← hN1]; exact (R8.out.call hb1).alloc _)
      have Z9 := hide (show Row X2 gz 27 [.int .i64 z, .int .i64 a, .int .i64 b, .int .i64 c, .int .u64 m] by rw [← hN1]; exact (Z8.out.call hb1).alloc _)
      have HB9 := hide (show Below gz wr X2 by rw [← hN1]; have h := HB8.out.trans (hb1.mono (by have := HB8.out.size; omega)); exact h.alloc (by have := h.size; omega) _)
      have B0_1 := hide (show Row X2 gB0 30 [.int .i64 s1, .int .i64 s2] by rw [← hN1]; exact (B0_0.out.call hb1).alloc _)
      have B1_1 := hide (show Row X2 V2.heap.size 30 [.int .i64 s1, .int .i64 s2] by rw [← hN1]; exact Row.new V2 _ _)
      rw [hN1]
      obtain ⟨gB1, hgB1⟩ : ∃ g, V2.heap.size = g := ⟨_, rfl⟩
      rw [hgB1] at B1_1 ⊢
      clear hN1 hb1 c1 f0 f1 f2 z0 z1 z2 z3 z4 R8 Z8 hgB1
      have f0 := R9.out.cell (k := 0) rfl
      have f1 := R9.out.cell (k := 1) rfl
      have f2 := R9.out.cell (k := 2) rfl
      have z0 := Z9.out.cell (k := 0) rfl
      have z1 := Z9.out.cell (k := 1) rfl
      have z2 := Z9.out.cell (k := 2) rfl
      have z3 := Z9.out.cell (k := 3) rfl
      have z4 := Z9.out.cell (k := 4) rfl
      have c2 := writes_any P S A n cp z a b c m X2
      rw [hp2, hby] at c2
      go_upto_region 11 with (go_at_call 10; refine c2.mono ?_; rintro e V3 ⟨rfl, hb2⟩)
      obtain ⟨X3, hN2⟩ : ∃ V, V3.alloc (.cells #[.int .i64 t1, .int .i64 t2] 30) = V := ⟨_, rfl⟩
      have R10 := hide (show Row X3 w.heap.size 24 [.int .i64 P, .int .i64 S, .slice A n cp] by rw [← hN2]; exact (R9.out.call hb2).alloc _)
      have Z10 := hide (show Row X3 gz 27 [.int .i64 z, .int .i64 a, .int .i64 b, .int .i64 c, .int .u64 m] by rw [← hN2]; exact (Z9.out.call hb2).alloc _)
      have HB10 := hide (show Below gz wr X3 by rw [← hN2]; have h := HB9.out.trans (hb2.mono (by have := HB9.out.size; omega)); exact h.alloc (by have := h.size; omega) _)
      have B0_2 := hide (show Row X3 gB0 30 [.int .i64 s1, .int .i64 s2] by rw [← hN2]; exact (B0_1.out.call hb2).alloc _)
      have B1_2 := hide (show Row X3 gB1 30 [.int .i64 s1, .int .i64 s2] by rw [← hN2]; exact (B1_1.out.call hb2).alloc _)
      have B2_2 := hide (show Row X3 V3.heap.size 30 [.int .i64 t1, .int .i64 t2] by rw [← hN2]; exact Row.new V3 _ _)
      rw [hN2]
      obtain ⟨gB2, hgB2⟩ : ∃ g, V3.heap.size = g := ⟨_, rfl⟩
      rw [hgB2] at B2_2 ⊢
      clear hN2 hb2 c2 f0 f1 f2 z0 z1 z2 z3 z4 R9 Z9 hgB2
      have f0 := R10.out.cell (k := 0) rfl
      have f1 := R10.out.cell (k := 1) rfl
      have f2 := R10.out.cell (k := 2) rfl
      have z0 := Z10.out.cell (k := 0) rfl
      have z1 := Z10.out.cell (k := 1) rfl
      have z2 := Z10.out.cell (k := 2) rfl
      have z3 := Z10.out.cell (k := 3) rfl
      have z4 := Z10.out.cell (k := 4) rfl
      have c3 := rwrites_any P S A n cp z a b c m X3
      rw [hp2, hby] at c3
      go_upto_region 12 with (go_at_call 11; refine c3.mono ?_; rintro e V4 ⟨rfl, hb3⟩)
      obtain ⟨X4, hN3⟩ : ∃ V, V4.alloc (.cells #[.int .i64 t1, .int .i64 t2] 30) = V := ⟨_, rfl⟩
      have R11 := hide (show Row X4 w.heap.size 24 [.int .i64 P, .int .i64 S, .slice A n cp] by rw [← hN3]; exact (R10.out.call hb3).alloc _)
      have Z11 := hide (show Row X4 gz 27 [.int .i64 z, .int .i64 a, .int .i64 b, .int .i64 c, .int .u64 m] by rw [← hN3]; exact (Z10.out.call hb3).alloc _)
      have HB11 := hide (show Below gz wr X4 by rw [← hN3]; have h := HB10.out.trans (hb3.mono (by have := HB10.out.size; omega)); exact h.alloc (by have := h.size; omega) _)
      have B0_3 := hide (show Row X4 gB0 30 [.int .i64 s1, .int .i64 s2] by rw [← hN3]; exact (B0_2.out.call hb3).alloc _)
      have B1_3 := hide (show Row X4 gB1 30 [.int .i64 s1, .int .i64 s2] by rw [← hN3]; exact (B1_2.out.call hb3).alloc _)
      have B2_3 := hide (show Row X4 gB2 30 [.int .i64 t1, .int .i64 t2] by rw [← hN3]; exact (B2_2.out.call hb3).alloc _)
      have B3_3 := hide (show Row X4 V4.heap.size 30 [.int .i64 t1, .int .i64 t2] by rw [← hN3]; exact Row.new V4 _ _)
      rw [hN3]
      obtain ⟨gB3, hgB3⟩ : ∃ g, V4.heap.size = g := ⟨_, rfl⟩
      rw [hgB3] at B3_3 ⊢
      clear hN3 hb3 c3 f0 f1 f2 z0 z1 z2 z3 z4 R10 Z10 hgB3
      have B0a := B0_3.out.cell (k := 0) rfl
      have B0b := B0_3.out.cell (k := 1) rfl
      have B1a := B1_3.out.cell (k := 0) rfl
      have B1b := B1_3.out.cell (k := 1) rfl
      have B2a := B2_3.out.cell (k := 0) rfl
      have B2b := B2_3.out.cell (k := 1) rfl
      have B3a := B3_3.out.cell (k := 0) rfl
      have B3b := B3_3.out.cell (k := 1) rfl
      have n1 : ∀ w, (binOp .neq 30 (pv s1 s2) (pv s1 s2)).run Try.prog w = .ok (.bool false) w := fun w => by rw [run_ne_interval]; simp
      have n2 : ∀ w, (binOp .neq 30 (pv t1 t2) (pv t1 t2)).run Try.prog w = .ok (.bool false) w := fun w => by rw [run_ne_interval]; simp
      have n3 : (bx != bx) = false := by cases bx <;> rfl
      have n4 : (by_ != by_) = false := by cases by_ <;> rfl
      have HE := hide (hb.out.trans (HB11.out.mono (by have := hb.out.size; omega)))
      go_wp2_with fail
      go_roundw
      case rel => exact ⟨k + 1, by omega, by go_num, HE⟩
      case measure => simp [intOf]; omega
    · obtain rfl : k = 2 := by omega
      go_wp2_with fail
      go_ret
      exact ⟨rfl, HB5.out.trans (hb.out.mono HB5.out.size)⟩
end Go.Proofs.Ytjgoldlebmfiiaa
