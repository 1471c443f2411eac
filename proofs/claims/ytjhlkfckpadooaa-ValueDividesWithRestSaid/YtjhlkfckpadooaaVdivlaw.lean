/-
  The walk of the law ValueDividesWithRest: for every x and y it returns true, and what was in memory before the call is as it was. Conditions: those of the types.
-/
import Derived.Test.YtjhlkfckpadooaaVlaws
namespace Go.Proofs.Ytjhlkfckpadooaa
open Go.RowKit

theorem rest_facts (X Y Q P R : Nat) (hX : X < two128) (h0 : 0 < Y) (hQ : Q = opRes 5 X Y) (hP : P = opRes 4 Q Y) (hR : R = opRes 3 X P) : R < Y ∧ P ≤ X := by
  have e5 : opRes 5 X Y = X / Y := by simp [opRes]
  have e4 : opRes 4 Q Y = Q * Y % two128 := by simp [opRes]
  have e3 : opRes 3 X P = (X + two128 - P) % two128 := by simp [opRes]
  rw [e5] at hQ
  have hle : X / Y * Y ≤ X := Nat.div_mul_le_self X Y
  have hP' : P = X / Y * Y := by rw [hP, e4, hQ, Nat.mod_eq_of_lt (by omega)]
  have hm := Nat.mod_lt X h0
  have hd := Nat.div_add_mod X Y
  rw [Nat.mul_comm] at hd
  have hPX : P ≤ X := by omega
  refine ⟨?_, hPX⟩
  rw [hR, e3, sub_mod128 X P hPX, Nat.mod_eq_of_lt (by omega)]
  omega
theorem less_one (X Y : Nat) (h : X < Y) : (lo (opRes 9 X Y) == 1) = true := by
  have e : opRes 9 X Y = 1 := by simp [opRes, h, bn]
  rw [e]; rfl
theorem less_zero (X Y : Nat) (h : Y ≤ X) : (lo (opRes 9 X Y) == 0) = true := by
  have e : opRes 9 X Y = 0 := by simp [opRes, show ¬ X < Y by omega, bn]
  rw [e]; rfl

set_option maxRecDepth 100000 in
set_option maxHeartbeats 2000000 in
theorem divlaw_some (X Y : Nat) (w : World) (hX : X < two128) (hY : Y < two128) (h0 : 0 < Y) :
    Calls Try.prog 4 #[vv X, vv Y] w fun e w' => e = .returned (.bool true) ∧ Below w.heap.size w w' := by
  have hz : ∀ w, (binOp .eql 24 (.agg #[.int .u64 (lo Y), .int .u64 (hi Y)]) (.agg #[.int .u64 0, .int .u64 0])).run Try.prog w = .ok (.bool false) w := fun w => by rw [run_eq_zero Y w hY, decide_eq_false (show ¬ Y = 0 by omega)]
  go_enter Try.func4, Try.ntmps4
  go_wp2_with fail
  refine (awake2_any _).mono ?_
  rintro e w' ⟨rfl, rfl⟩
  go_wp2_with fail
  have bx := (Box.new w X).alloc (.cells #[.int .u64 (lo Y), .int .u64 (hi Y)] 24)
  have by_ := (Box.new (w.alloc (.cells #[.int .u64 (lo X), .int .u64 (hi X)] 24)) Y).at_ (show _ = w.heap.size + 1 by simp)
  have hb := below2 w (.cells #[.int .u64 (lo X), .int .u64 (hi X)] 24) (.cells #[.int .u64 (lo Y), .int .u64 (hi Y)] 24)
  refine (app_some 5 X Y _ hX hY (by simp [opOk]; omega)).mono ?_
  rintro e w1 ⟨Q, hQ, hQ1, rfl, hb1⟩
  have bx := bx.call hb1
  have by_ := by_.call hb1
  have hb := below_call hb hb1
  clear hb1
  have lx := bx.lt
  have ly := by_.lt
  obtain ⟨x0, x1, xz0, xz1⟩ := bx.facts
  obtain ⟨y0, y1, yz0, yz1⟩ := by_.facts
  go_wp2_with fail
  clear x0 x1 xz0 xz1 y0 y1 yz0 yz1
  clear hz
  clear lx ly
  refine (app_some 4 Q Y _ hQ1 hY (by simp [opOk])).mono ?_
  rintro e w2 ⟨P, hP, hP1, rfl, hb1⟩
  have bx := (bx.alloc _).call hb1
  have by_ := (by_.alloc _).call hb1
  have bq := (Box.new _ Q).call hb1
  have hb := below_call (hb.alloc hb.size _) hb1
  clear hb1
  have lx := bx.lt
  have ly := by_.lt
  have lq := bq.lt
  obtain ⟨x0, x1, xz0, xz1⟩ := bx.facts
  obtain ⟨y0, y1, yz0, yz1⟩ := by_.facts
  obtain ⟨q0, q1, qz0, qz1⟩ := bq.facts
  go_wp2_with fail
  clear x0 x1 xz0 xz1 y0 y1 yz0 yz1 q0 q1 qz0 qz1
  clear lx ly lq
  refine (app_some 3 X P _ hX hP1 (by simp [opOk])).mono ?_
  rintro e w3 ⟨R, hR, hR1, rfl, hb1⟩
  have bx := (bx.alloc _).call hb1
  have by_ := (by_.alloc _).call hb1
  have bq := (bq.alloc _).call hb1
  have bp := (Box.new _ P).call hb1
  have hb := below_call (hb.alloc hb.size _) hb1
  clear hb1
  have lx := bx.lt
  have ly := by_.lt
  have lq := bq.lt
  have lp := bp.lt
  obtain ⟨x0, x1, xz0, xz1⟩ := bx.facts
  obtain ⟨y0, y1, yz0, yz1⟩ := by_.facts
  obtain ⟨p0, p1, pz0, pz1⟩ := bp.facts
  go_wp2_with fail
  clear x0 x1 xz0 xz1 y0 y1 yz0 yz1 p0 p1 pz0 pz1
  clear lx ly lq lp
  refine (app_some 9 R Y _ hR1 hY (by simp [opOk])).mono ?_
  rintro e w4 ⟨S, hS, hS1, rfl, hb1⟩
  have bx := (bx.alloc _).call hb1
  have by_ := (by_.alloc _).call hb1
  have bq := (bq.alloc _).call hb1
  have bp := (bp.alloc _).call hb1
  have br := (Box.new _ R).call hb1
  have hb := below_call (hb.alloc hb.size _) hb1
  clear hb1
  have lx := bx.lt
  have ly := by_.lt
  have lq := bq.lt
  have lp := bp.lt
  have lr := br.lt
  obtain ⟨x0, x1, xz0, xz1⟩ := bx.facts
  obtain ⟨y0, y1, yz0, yz1⟩ := by_.facts
  obtain ⟨p0, p1, pz0, pz1⟩ := bp.facts
  go_wp2_with fail
  clear x0 x1 xz0 xz1 y0 y1 yz0 yz1 p0 p1 pz0 pz1
  clear lx ly lq lp lr
  refine (app_some 9 X P _ hX hP1 (by simp [opOk])).mono ?_
  rintro e w5 ⟨M, hM, hM1, rfl, hb1⟩
  have bx := (bx.alloc _).call hb1
  have by_ := (by_.alloc _).call hb1
  have bq := (bq.alloc _).call hb1
  have bp := (bp.alloc _).call hb1
  have br := (br.alloc _).call hb1
  have bs := (Box.new _ S).call hb1
  have hb := below_call (hb.alloc hb.size _) hb1
  clear hb1
  have lx := bx.lt
  have ly := by_.lt
  have lq := bq.lt
  have lp := bp.lt
  have lr := br.lt
  have ls := bs.lt
  obtain ⟨hRY, hPX⟩ := rest_facts X Y Q P R hX h0 hQ.out hP.out hR.out
  have e1 : (lo S == 1) = true := by rw [hS.out]; exact less_one R Y hRY
  have e2 : (lo M == 0) = true := by rw [hM.out]; exact less_zero X P hPX
  obtain ⟨s0, s1, sz0, sz1⟩ := bs.facts
  go_wp2_with fail
  clear s0 s1 sz0 sz1
  go_ret
  exact ⟨rfl, hb.alloc hb.size _⟩

set_option maxRecDepth 100000 in
set_option maxHeartbeats 2000000 in
theorem divlaw_zero (X : Nat) (w : World) (hX : X < two128) :
    Calls Try.prog 4 #[vv X, vv 0] w fun e w' => e = .returned (.bool true) ∧ Below w.heap.size w w' := by
  go_enter Try.func4, Try.ntmps4
  go_wp2_with fail
  refine (awake2_any _).mono ?_
  rintro e w' ⟨rfl, rfl⟩
  go_wp2_with fail
  have bx := (Box.new w X).alloc (.cells #[.int .u64 (lo 0), .int .u64 (hi 0)] 24)
  have by_ := (Box.new (w.alloc (.cells #[.int .u64 (lo X), .int .u64 (hi X)] 24)) 0).at_ (show _ = w.heap.size + 1 by simp)
  have hb := below2 w (.cells #[.int .u64 (lo X), .int .u64 (hi X)] 24) (.cells #[.int .u64 (lo 0), .int .u64 (hi 0)] 24)
  refine (apply_5z X 0 _ hX two128_pos rfl).mono ?_
  rintro e w1 ⟨rfl, hb1⟩
  have bx := bx.call hb1
  have by_ := by_.call hb1
  have hb := below_call hb hb1
  clear hb1
  have lx := bx.lt
  have ly := by_.lt
  obtain ⟨x0, x1, xz0, xz1⟩ := bx.facts
  obtain ⟨y0, y1, yz0, yz1⟩ := by_.facts
  have hz : ∀ w, (binOp .eql 24 (.agg #[.int .u64 (lo 0), .int .u64 (hi 0)]) (.agg #[.int .u64 0, .int .u64 0])).run Try.prog w = .ok (.bool true) w := fun w => by rw [run_eq_zero 0 w two128_pos, decide_eq_true rfl]
  go_wp2
  go_ret
  exact ⟨rfl, hb.alloc hb.size _⟩

theorem divlaw_walk (X Y : Nat) (w : World) (hX : X < two128) (hY : Y < two128) :
    Calls Try.prog 4 #[vv X, vv Y] w fun e w' => e = .returned (.bool true) ∧ Below w.heap.size w w' := by
  by_cases h0 : Y = 0
  · subst h0; exact divlaw_zero X w hX
  · exact divlaw_some X Y w hX hY (by omega)
end Go.Proofs.Ytjhlkfckpadooaa
