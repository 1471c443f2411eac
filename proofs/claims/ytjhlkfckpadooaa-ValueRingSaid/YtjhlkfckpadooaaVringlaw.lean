/-
  The walk of the law ValueRing: for every x, y and z it returns true, and what was in memory before the call is as it was. Conditions: those of the types.
-/
import Derived.Test.YtjhlkfckpadooaaVlaws
namespace Go.Proofs.Ytjhlkfckpadooaa
open Go.RowKit

theorem op2 (X Y : Nat) : opRes 2 X Y = (X + Y) % two128 := by simp [opRes]
theorem op3 (X Y : Nat) : opRes 3 X Y = (X + two128 - Y) % two128 := by simp [opRes]
theorem op4 (X Y : Nat) : opRes 4 X Y = X * Y % two128 := by simp [opRes]
theorem ring_facts (X Y Z S T A B C M U V D R : Nat) (hX : X < two128) (hY : Y < two128) (hS : S = opRes 2 X Y) (hT : T = opRes 2 Y X) (hA : A = opRes 2 S Z) (hB : B = opRes 2 Y Z) (hC : C = opRes 2 X B)
    (hM : M = opRes 4 S Z) (hU : U = opRes 4 X Z) (hV : V = opRes 4 Z Y) (hD : D = opRes 2 U V) (hR : R = opRes 3 S Y) : S = T ∧ A = C ∧ M = D ∧ R = X := by
  rw [op2] at hS hT hA hB hC hD
  rw [op4] at hM hU hV
  rw [op3] at hR
  refine ⟨?_, ?_, ?_, ?_⟩
  · rw [hS, hT, Nat.add_comm]
  · rw [hA, hC, hS, hB, Nat.mod_add_mod, Nat.add_mod_mod, Nat.add_assoc]
  · rw [hM, hD, hU, hV, hS, Nat.mod_mul_mod, Nat.mod_add_mod, Nat.add_mod_mod, Nat.add_mul, Nat.mul_comm Z Y]
  · rw [hR, hS]
    unfold two128 at *
    omega

set_option maxRecDepth 100000 in
set_option maxHeartbeats 4000000 in
theorem ringlaw_walk (X Y Z : Nat) (w : World) (hX : X < two128) (hY : Y < two128) (hZ : Z < two128) :
    Calls Try.prog 5 #[vv X, vv Y, vv Z] w fun e w' => e = .returned (.bool true) ∧ Below w.heap.size w w' := by
  go_enter Try.func5, Try.ntmps5
  go_wp2_with fail
  refine (awake2_any _).mono ?_
  rintro e w' ⟨rfl, rfl⟩
  go_wp2_with fail
  have bx := ((Box.new w X).alloc (.cells #[.int .u64 (lo Y), .int .u64 (hi Y)] 24)).alloc (.cells #[.int .u64 (lo Z), .int .u64 (hi Z)] 24)
  have by_ := ((Box.new (w.alloc (.cells #[.int .u64 (lo X), .int .u64 (hi X)] 24)) Y).at_ (show _ = w.heap.size + 1 by simp)).alloc (.cells #[.int .u64 (lo Z), .int .u64 (hi Z)] 24)
  have bz := (Box.new ((w.alloc (.cells #[.int .u64 (lo X), .int .u64 (hi X)] 24)).alloc (.cells #[.int .u64 (lo Y), .int .u64 (hi Y)] 24)) Z).at_ (show _ = w.heap.size + 1 + 1 by simp)
  have hb := below3 w (.cells #[.int .u64 (lo X), .int .u64 (hi X)] 24) (.cells #[.int .u64 (lo Y), .int .u64 (hi Y)] 24) (.cells #[.int .u64 (lo Z), .int .u64 (hi Z)] 24)
  refine (app_some 2 X Y _ hX hY (by simp [opOk])).mono ?_
  rintro e w1 ⟨S, hS, hS1, rfl, hb1⟩
  have bx := bx.call hb1
  have by_ := by_.call hb1
  have bz := bz.call hb1
  have hb := below_call hb hb1
  clear hb1
  have lx := bx.lt
  have ly := by_.lt
  have lz := bz.lt
  obtain ⟨y0, y1, yz0, yz1⟩ := by_.facts
  obtain ⟨x0, x1, xz0, xz1⟩ := bx.facts
  go_wp2_with fail
  clear y0 y1 yz0 yz1 x0 x1 xz0 xz1
  clear lx ly lz
  refine (app_some 2 Y X _ hY hX (by simp [opOk])).mono ?_
  rintro e w2 ⟨T, hT, hT1, rfl, hb1⟩
  have bx := (bx.alloc _).call hb1
  have by_ := (by_.alloc _).call hb1
  have bz := (bz.alloc _).call hb1
  have bS := (Box.new _ S).call hb1
  have hb := below_call (hb.alloc hb.size _) hb1
  clear hb1
  have lx := bx.lt
  have ly := by_.lt
  have lz := bz.lt
  have lvS := bS.lt
  obtain ⟨vS0, vS1, vSz0, vSz1⟩ := bS.facts
  obtain ⟨z0, z1, zz0, zz1⟩ := bz.facts
  go_wp2_with fail
  clear vS0 vS1 vSz0 vSz1 z0 z1 zz0 zz1
  clear lx ly lz lvS
  refine (app_some 2 S Z _ hS1 hZ (by simp [opOk])).mono ?_
  rintro e w3 ⟨A, hA, hA1, rfl, hb1⟩
  have bx := (bx.alloc _).call hb1
  have by_ := (by_.alloc _).call hb1
  have bz := (bz.alloc _).call hb1
  have bS := (bS.alloc _).call hb1
  have bT := (Box.new _ T).call hb1
  have hb := below_call (hb.alloc hb.size _) hb1
  clear hb1
  have lx := bx.lt
  have ly := by_.lt
  have lz := bz.lt
  have lvS := bS.lt
  have lvT := bT.lt
  obtain ⟨y0, y1, yz0, yz1⟩ := by_.facts
  obtain ⟨z0, z1, zz0, zz1⟩ := bz.facts
  go_wp2_with fail
  clear y0 y1 yz0 yz1 z0 z1 zz0 zz1
  clear lx ly lz lvS lvT
  refine (app_some 2 Y Z _ hY hZ (by simp [opOk])).mono ?_
  rintro e w4 ⟨B, hB, hB1, rfl, hb1⟩
  have bx := (bx.alloc _).call hb1
  have by_ := (by_.alloc _).call hb1
  have bz := (bz.alloc _).call hb1
  have bS := (bS.alloc _).call hb1
  have bT := (bT.alloc _).call hb1
  have bA := (Box.new _ A).call hb1
  have hb := below_call (hb.alloc hb.size _) hb1
  clear hb1
  have lx := bx.lt
  have ly := by_.lt
  have lz := bz.lt
  have lvS := bS.lt
  have lvT := bT.lt
  have lvA := bA.lt
  obtain ⟨x0, x1, xz0, xz1⟩ := bx.facts
  go_wp2_with fail
  clear x0 x1 xz0 xz1
  clear lx ly lz lvS lvT lvA
  refine (app_some 2 X B _ hX hB1 (by simp [opOk])).mono ?_
  rintro e w5 ⟨C, hC, hC1, rfl, hb1⟩
  have bx := (bx.alloc _).call hb1
  have by_ := (by_.alloc _).call hb1
  have bz := (bz.alloc _).call hb1
  have bS := (bS.alloc _).call hb1
  have bT := (bT.alloc _).call hb1
  have bA := (bA.alloc _).call hb1
  have bB := (Box.new _ B).call hb1
  have hb := below_call (hb.alloc hb.size _) hb1
  clear hb1
  have lx := bx.lt
  have ly := by_.lt
  have lz := bz.lt
  have lvS := bS.lt
  have lvT := bT.lt
  have lvA := bA.lt
  have lvB := bB.lt
  obtain ⟨vS0, vS1, vSz0, vSz1⟩ := bS.facts
  obtain ⟨z0, z1, zz0, zz1⟩ := bz.facts
  go_wp2_with fail
  clear vS0 vS1 vSz0 vSz1 z0 z1 zz0 zz1
  clear lx ly lz lvS lvT lvA lvB
  refine (app_some 4 S Z _ hS1 hZ (by simp [opOk])).mono ?_
  rintro e w6 ⟨M, hM, hM1, rfl, hb1⟩
  have bx := (bx.alloc _).call hb1
  have by_ := (by_.alloc _).call hb1
  have bz := (bz.alloc _).call hb1
  have bS := (bS.alloc _).call hb1
  have bT := (bT.alloc _).call hb1
  have bA := (bA.alloc _).call hb1
  have bB := (bB.alloc _).call hb1
  have bC := (Box.new _ C).call hb1
  have hb := below_call (hb.alloc hb.size _) hb1
  clear hb1
  have lx := bx.lt
  have ly := by_.lt
  have lz := bz.lt
  have lvS := bS.lt
  have lvT := bT.lt
  have lvA := bA.lt
  have lvB := bB.lt
  have lvC := bC.lt
  obtain ⟨x0, x1, xz0, xz1⟩ := bx.facts
  obtain ⟨z0, z1, zz0, zz1⟩ := bz.facts
  go_wp2_with fail
  clear x0 x1 xz0 xz1 z0 z1 zz0 zz1
  clear lx ly lz lvS lvT lvA lvB lvC
  refine (app_some 4 X Z _ hX hZ (by simp [opOk])).mono ?_
  rintro e w7 ⟨U, hU, hU1, rfl, hb1⟩
  have bx := (bx.alloc _).call hb1
  have by_ := (by_.alloc _).call hb1
  have bz := (bz.alloc _).call hb1
  have bS := (bS.alloc _).call hb1
  have bT := (bT.alloc _).call hb1
  have bA := (bA.alloc _).call hb1
  have bB := (bB.alloc _).call hb1
  have bC := (bC.alloc _).call hb1
  have bM := (Box.new _ M).call hb1
  have hb := below_call (hb.alloc hb.size _) hb1
  clear hb1
  have lx := bx.lt
  have ly := by_.lt
  have lz := bz.lt
  have lvS := bS.lt
  have lvT := bT.lt
  have lvA := bA.lt
  have lvB := bB.lt
  have lvC := bC.lt
  have lvM := bM.lt
  obtain ⟨z0, z1, zz0, zz1⟩ := bz.facts
  obtain ⟨y0, y1, yz0, yz1⟩ := by_.facts
  go_wp2_with fail
  clear z0 z1 zz0 zz1 y0 y1 yz0 yz1
  clear lx ly lz lvS lvT lvA lvB lvC lvM
  refine (app_some 4 Z Y _ hZ hY (by simp [opOk])).mono ?_
  rintro e w8 ⟨V, hV, hV1, rfl, hb1⟩
  have bx := (bx.alloc _).call hb1
  have by_ := (by_.alloc _).call hb1
  have bz := (bz.alloc _).call hb1
  have bS := (bS.alloc _).call hb1
  have bT := (bT.alloc _).call hb1
  have bA := (bA.alloc _).call hb1
  have bB := (bB.alloc _).call hb1
  have bC := (bC.alloc _).call hb1
  have bM := (bM.alloc _).call hb1
  have bU := (Box.new _ U).call hb1
  have hb := below_call (hb.alloc hb.size _) hb1
  clear hb1
  have lx := bx.lt
  have ly := by_.lt
  have lz := bz.lt
  have lvS := bS.lt
  have lvT := bT.lt
  have lvA := bA.lt
  have lvB := bB.lt
  have lvC := bC.lt
  have lvM := bM.lt
  have lvU := bU.lt
  obtain ⟨vU0, vU1, vUz0, vUz1⟩ := bU.facts
  go_wp2_with fail
  clear vU0 vU1 vUz0 vUz1
  clear lx ly lz lvS lvT lvA lvB lvC lvM lvU
  refine (app_some 2 U V _ hU1 hV1 (by simp [opOk])).mono ?_
  rintro e w9 ⟨D, hD, hD1, rfl, hb1⟩
  have bx := (bx.alloc _).call hb1
  have by_ := (by_.alloc _).call hb1
  have bz := (bz.alloc _).call hb1
  have bS := (bS.alloc _).call hb1
  have bT := (bT.alloc _).call hb1
  have bA := (bA.alloc _).call hb1
  have bB := (bB.alloc _).call hb1
  have bC := (bC.alloc _).call hb1
  have bM := (bM.alloc _).call hb1
  have bU := (bU.alloc _).call hb1
  have bV := (Box.new _ V).call hb1
  have hb := below_call (hb.alloc hb.size _) hb1
  clear hb1
  have lx := bx.lt
  have ly := by_.lt
  have lz := bz.lt
  have lvS := bS.lt
  have lvT := bT.lt
  have lvA := bA.lt
  have lvB := bB.lt
  have lvC := bC.lt
  have lvM := bM.lt
  have lvU := bU.lt
  have lvV := bV.lt
  obtain ⟨vS0, vS1, vSz0, vSz1⟩ := bS.facts
  obtain ⟨y0, y1, yz0, yz1⟩ := by_.facts
  go_wp2_with fail
  clear vS0 vS1 vSz0 vSz1 y0 y1 yz0 yz1
  clear lx ly lz lvS lvT lvA lvB lvC lvM lvU lvV
  refine (app_some 3 S Y _ hS1 hY (by simp [opOk])).mono ?_
  rintro e w10 ⟨R, hR, hR1, rfl, hb1⟩
  have bx := (bx.alloc _).call hb1
  have by_ := (by_.alloc _).call hb1
  have bz := (bz.alloc _).call hb1
  have bS := (bS.alloc _).call hb1
  have bT := (bT.alloc _).call hb1
  have bA := (bA.alloc _).call hb1
  have bB := (bB.alloc _).call hb1
  have bC := (bC.alloc _).call hb1
  have bM := (bM.alloc _).call hb1
  have bU := (bU.alloc _).call hb1
  have bV := (bV.alloc _).call hb1
  have bD := (Box.new _ D).call hb1
  have hb := below_call (hb.alloc hb.size _) hb1
  clear hb1
  have lx := bx.lt
  have ly := by_.lt
  have lz := bz.lt
  have lvS := bS.lt
  have lvT := bT.lt
  have lvA := bA.lt
  have lvB := bB.lt
  have lvC := bC.lt
  have lvM := bM.lt
  have lvU := bU.lt
  have lvV := bV.lt
  have lvD := bD.lt
  obtain ⟨q1, q2, q3, q4⟩ := ring_facts X Y Z S T A B C M U V D R hX hY hS.out hT.out hA.out hB.out hC.out hM.out hU.out hV.out hD.out hR.out
  have e1 : ∀ w, (binOp .eql 24 (.agg #[.int .u64 (lo S), .int .u64 (hi S)]) (.agg #[.int .u64 (lo T), .int .u64 (hi T)])).run Try.prog w = .ok (.bool true) w := fun w => run_eq_same S T w (by rw [q1])
  have e2 : ∀ w, (binOp .eql 24 (.agg #[.int .u64 (lo A), .int .u64 (hi A)]) (.agg #[.int .u64 (lo C), .int .u64 (hi C)])).run Try.prog w = .ok (.bool true) w := fun w => run_eq_same A C w (by rw [q2])
  have e3 : ∀ w, (binOp .eql 24 (.agg #[.int .u64 (lo M), .int .u64 (hi M)]) (.agg #[.int .u64 (lo D), .int .u64 (hi D)])).run Try.prog w = .ok (.bool true) w := fun w => run_eq_same M D w (by rw [q3])
  have e4 : ∀ w, (binOp .eql 24 (.agg #[.int .u64 (lo R), .int .u64 (hi R)]) (.agg #[.int .u64 (lo X), .int .u64 (hi X)])).run Try.prog w = .ok (.bool true) w := fun w => run_eq_same R X w (by rw [q4])
  clear q1 q2 q3 q4 hS hT hA hB hC hM hU hV hD hR
  obtain ⟨x0, x1, xz0, xz1⟩ := bx.facts
  obtain ⟨vS0, vS1, vSz0, vSz1⟩ := bS.facts
  obtain ⟨vT0, vT1, vTz0, vTz1⟩ := bT.facts
  obtain ⟨vA0, vA1, vAz0, vAz1⟩ := bA.facts
  obtain ⟨vC0, vC1, vCz0, vCz1⟩ := bC.facts
  obtain ⟨vM0, vM1, vMz0, vMz1⟩ := bM.facts
  obtain ⟨vD0, vD1, vDz0, vDz1⟩ := bD.facts
  go_wp2_with fail
  clear x0 x1 xz0 xz1 vS0 vS1 vSz0 vSz1 vT0 vT1 vTz0 vTz1 vA0 vA1 vAz0 vAz1 vC0 vC1 vCz0 vCz1 vM0 vM1 vMz0 vMz1 vD0 vD1 vDz0 vDz1
  go_ret
  exact ⟨rfl, hb.alloc hb.size _⟩
end Go.Proofs.Ytjhlkfckpadooaa
