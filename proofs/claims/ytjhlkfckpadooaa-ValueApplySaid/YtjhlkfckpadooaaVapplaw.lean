/-
  The walk of the law ValueApply: for every operation number and all x and y it returns true, and what was in memory before the call is as it was. Conditions: those of the types.
-/
import Derived.Test.YtjhlkfckpadooaaVlaws
import Derived.Test.YtjhlkfckpadooaaVrapply
namespace Go.Proofs.Ytjhlkfckpadooaa
open Go.RowKit

/-- The two implementations, with the answer under one name. -/
theorem both_apply (op : Int) (X Y : Nat) (hX : X < two128) (hY : Y < two128) : ∃ (S : Nat) (B : Bool), (∀ w, Calls Try.prog 9 #[.int .i64 op, vv X, vv Y] w fun e w' => e = .returned (.tuple #[vv S, .bool B]) ∧ Below w.heap.size w w') ∧
    (∀ w, Calls Try.prog 10 #[.int .i64 op, vv X, vv Y] w fun e w' => e = .returned (.tuple #[vv S, .bool B]) ∧ Below w.heap.size w w') :=
  ⟨_, _, fun w => apply_any op X Y w hX hY, fun w => rapply_any op X Y w hX hY⟩

/-- What holds at the head of the loop. -/
def ApRel (w0 : World) (gx gy gv gw X Y : Nat) (s8 s10 i : Value) (wr : World) : Prop :=
  ∃ (k : Nat) (B C : Bool) (V W : Nat), k ≤ 11 ∧ 2 ≤ k ∧ s8 = .bool B ∧ s10 = .bool C ∧ i = .int .i64 k ∧ Box wr gx X ∧ Box wr gy Y ∧ Box wr gv V ∧ Box wr gw W ∧ Below w0.heap.size w0 wr

set_option maxRecDepth 100000 in
set_option maxHeartbeats 4000000 in
theorem applaw_walk (op : Int) (X Y : Nat) (w : World) (hX : X < two128) (hY : Y < two128) :
    Calls Try.prog 3 #[.int .i64 op, vv X, vv Y] w fun e w' => e = .returned (.bool true) ∧ Below w.heap.size w w' := by
  obtain ⟨S, B, c1, c2⟩ := both_apply op X Y hX hY
  have C1 := hide c1
  have C2 := hide c2
  clear c1 c2
  have hz : ∀ w, (binOp .neq 24 (.agg #[.int .u64 (lo S), .int .u64 (hi S)]) (.agg #[.int .u64 (lo S), .int .u64 (hi S)])).run Try.prog w = .ok (.bool false) w := fun w => run_ne_same S S w rfl
  go_enter Try.func3, Try.ntmps3
  go_wp2_with fail
  refine (awake2_any _).mono ?_
  rintro e w' ⟨rfl, rfl⟩
  go_wp2_with fail
  have bx := (Box.new w X).alloc (.cells #[.int .u64 (lo Y), .int .u64 (hi Y)] 24)
  have by_ := (Box.new (w.alloc (.cells #[.int .u64 (lo X), .int .u64 (hi X)] 24)) Y).at_ (show _ = w.heap.size + 1 by simp)
  have hb := below2 w (.cells #[.int .u64 (lo X), .int .u64 (hi X)] 24) (.cells #[.int .u64 (lo Y), .int .u64 (hi Y)] 24)
  refine (C1.out _).mono ?_
  rintro e w1 ⟨rfl, hb1⟩
  have bx := bx.call hb1
  have by_ := by_.call hb1
  have hb := below_call hb hb1
  clear hb1
  have lx := bx.lt
  have ly := by_.lt
  obtain ⟨x0, x1, xz0, xz1⟩ := bx.facts
  obtain ⟨y0, y1, yz0, yz1⟩ := by_.facts
  go_wp2_with fail
  clear x0 x1 xz0 xz1 y0 y1 yz0 yz1
  have lxv := lx
  have lyv := ly
  clear lx ly
  refine (C2.out _).mono ?_
  rintro e w2 ⟨rfl, hb1⟩
  have bx := (bx.alloc _).call hb1
  have by_ := (by_.alloc _).call hb1
  have bv := (Box.new _ S).call hb1
  have hb := below_call (hb.alloc hb.size _) hb1
  clear hb1
  have lx := bx.lt
  have ly := by_.lt
  have lv := bv.lt
  obtain ⟨x0, x1, xz0, xz1⟩ := bx.facts
  obtain ⟨y0, y1, yz0, yz1⟩ := by_.facts
  obtain ⟨v0, v1, vz0, vz1⟩ := bv.facts
  go_wp2_with fail
  clear x0 x1 xz0 xz1 y0 y1 yz0 yz1 v0 v1 vz0 vz1
  have bx := bx.alloc (.cells #[.int .u64 (lo S), .int .u64 (hi S)] 24)
  have by_ := by_.alloc (.cells #[.int .u64 (lo S), .int .u64 (hi S)] 24)
  have bv := bv.alloc (.cells #[.int .u64 (lo S), .int .u64 (hi S)] 24)
  have bw := Box.new w2 S
  have hb := hb.alloc hb.size (.cells #[.int .u64 (lo S), .int .u64 (hi S)] 24)
  have lv : w1.heap.size < w2.heap.size := lv
  go_loopw [8, 10, 11] (fun s8 s10 i wr => ApRel w w.heap.size (w.heap.size + 1) w1.heap.size w2.heap.size X Y s8 s10 i wr) (fun _ _ i _ => 11 - (intOf i).toNat)
  case atStart => exact ⟨2, B, B, S, S, by omega, by omega, rfl, rfl, rfl, bx, by_, bv, bw, hb⟩
  case round =>
    clear bx by_ bv bw hb hz C1 C2 
    obtain ⟨k, B1, B2, V, W, hk, hk2, rfl, rfl, rfl, bx, by_, bv, bw, hb⟩ := hrel
    by_cases hlt : k < 11
    · obtain ⟨S', B', c1, c2⟩ := both_apply (k : Int) X Y hX hY
      have C1 := hide c1
      have C2 := hide c2
      clear c1 c2
      have hz : ∀ w, (binOp .neq 24 (.agg #[.int .u64 (lo S'), .int .u64 (hi S')]) (.agg #[.int .u64 (lo S'), .int .u64 (hi S')])).run Try.prog w = .ok (.bool false) w := fun w => run_ne_same S' S' w rfl
      obtain ⟨x0, x1, xz0, xz1⟩ := bx.facts
      obtain ⟨y0, y1, yz0, yz1⟩ := by_.facts
      go_wp2_with fail
      refine (C1.out _).mono ?_
      rintro e w3 ⟨rfl, hb1⟩
      clear x0 x1 xz0 xz1 y0 y1 yz0 yz1
      have bx := bx.call hb1
      have by_ := by_.call hb1
      have bv := bv.call hb1
      have bw := bw.call hb1
      have hb := below_call hb hb1
      clear hb1
      obtain ⟨v0, v1, vz0, vz1⟩ := bv.facts
      obtain ⟨x0, x1, xz0, xz1⟩ := bx.facts
      obtain ⟨y0, y1, yz0, yz1⟩ := by_.facts
      go_wp2_with fail
      clear v0 v1 vz0 vz1 x0 x1 xz0 xz1 y0 y1 yz0 yz1
      have bx := bx.far2 (g' := w1.heap.size) (by omega) (.int .u64 (lo (S'))) (.int .u64 (hi (S')))
      have by_ := by_.far2 (g' := w1.heap.size) (by omega) (.int .u64 (lo (S'))) (.int .u64 (hi (S')))
      have bv := bv.set_ (S')
      have bw := bw.far2 (g' := w1.heap.size) (by omega) (.int .u64 (lo (S'))) (.int .u64 (hi (S')))
      have hb := below_set (g := w1.heap.size) hb (by omega) (.int .u64 (lo (S'))) (.int .u64 (hi (S')))
      obtain ⟨W3, hW3⟩ : ∃ W, W = (w3.setCell ⟨w1.heap.size, 0, none⟩ (.int .u64 (lo (S')))).setCell ⟨w1.heap.size, 1, none⟩ (.int .u64 (hi (S'))) := ⟨_, rfl⟩
      rw [← hW3] at bx by_ bv bw hb ⊢
      clear hW3
      refine (C2.out _).mono ?_
      rintro e w4 ⟨rfl, hb1⟩
      have bx := bx.call hb1
      have by_ := by_.call hb1
      have bv := bv.call hb1
      have bw := bw.call hb1
      have hb := below_call hb hb1
      clear hb1
      obtain ⟨v0, v1, vz0, vz1⟩ := bv.facts
      obtain ⟨u0, u1, uz0, uz1⟩ := bw.facts
      go_wp2_with fail
      clear v0 v1 vz0 vz1 u0 u1 uz0 uz1
      have bx := bx.far2 (g' := w2.heap.size) (by omega) (.int .u64 (lo (S'))) (.int .u64 (hi (S')))
      have by_ := by_.far2 (g' := w2.heap.size) (by omega) (.int .u64 (lo (S'))) (.int .u64 (hi (S')))
      have bv := bv.far2 (g' := w2.heap.size) (by omega) (.int .u64 (lo (S'))) (.int .u64 (hi (S')))
      have bw := bw.set_ (S')
      have hb := below_set (g := w2.heap.size) hb (by omega) (.int .u64 (lo (S'))) (.int .u64 (hi (S')))
      go_roundw
      case rel => exact ⟨k + 1, B', B', S', S', by omega, by omega, rfl, rfl, by go_num, bx, by_, bv, bw, hb⟩
      case measure => simp [intOf]; omega
    · obtain rfl : k = 11 := by omega
      go_wp2_with fail
      go_ret
      exact ⟨rfl, hb⟩
end Go.Proofs.Ytjhlkfckpadooaa
