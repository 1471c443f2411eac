/-
  The walk of the law ValueBytes: for all x, y, size and b it returns true, and what was in memory before the call is as it was. Conditions: those of the types.
-/
import Derived.Test.YtjhlkfckpadooaaVretlaw
import Derived.Test.YtjhlkfckpadooaaSame
namespace Go.Proofs.Ytjhlkfckpadooaa
open Go.RowKit
attribute [local go_sem ↓] Go.wp_at_zero Go.wp_at_succ

theorem nth6 (s : Int) (k : Nat) (hk : k < 6) : ∃ m : Int, ([s, 1, 2, 4, 8, 16] : List Int)[k]? = some m := by
  rcases (show k = 0 ∨ k = 1 ∨ k = 2 ∨ k = 3 ∨ k = 4 ∨ k = 5 by omega) with rfl | rfl | rfl | rfl | rfl | rfl <;> exact ⟨_, rfl⟩

/-- What the seven calls of a round give. -/
theorem round_calls (X : Nat) (n : Int) (hX : X < two128) : ∃ (b : Bool) (m T : Nat), m ≤ 16 ∧
    (∀ w, Calls Try.prog 11 #[.int .i64 n] w fun e w' => e = .returned (.bool b) ∧ w = w') ∧
    (∀ w, Calls Try.prog 12 #[.int .i64 n] w fun e w' => e = .returned (.bool b) ∧ w = w') ∧
    (∀ w, Calls Try.prog 14 #[vv X, .int .i64 n] w (BytesPost X m w)) ∧
    (∀ w, Calls Try.prog 15 #[vv X, .int .i64 n] w (BytesPost X m w)) ∧
    (∀ w, Calls Try.prog 16 #[vv X, .int .i64 n] w fun e w' => e = .returned (vv T) ∧ Below w.heap.size w w') ∧
    (∀ w, Calls Try.prog 17 #[vv X, .int .i64 n] w fun e w' => e = .returned (vv T) ∧ Below w.heap.size w w') :=
  ⟨szB n, szN n, truncV X n, szN_le n, fun w => vsz_any n w, fun w => rsz_any n w, fun w => bytes_any X n w hX, fun w => rbytes_any X n w hX, fun w => trunc_any X n w hX, fun w => rtrunc_any X n w hX⟩
theorem same_own (A A' : Option Addr) (m c c' : Nat) (X B : Nat) (w : World) (hm : m ≤ 16) (h : Sees w B A (cellsU8 (bytesV X m))) (h' : Sees w B A' (cellsU8 (bytesV X m))) :
    Calls Try.prog 13 #[.slice A m c, .slice A' m c'] w fun e w' => e = .returned (.bool true) ∧ Below w.heap.size w w' :=
  (same_any A A' m c m c' (bytesV X m) B w (bytesV_length X m) (show m = m from rfl) (by omega) h h').mono fun e w' ⟨he, k, hk⟩ => ⟨he, by rw [hk]; exact below_draws (Below.refl _ _) k⟩
/-- .. and the six at the end. -/
theorem last_calls (X Y : Nat) (A : Option Addr) (n c : Nat) (zs : List Int) (w : World) (hn : Hid (zs.length = n)) (hnc : n ≤ c) (hm : n ≤ 9223372036854775807) (hs : Sees w w.heap.size A (cellsU8 zs)) (hz : Hid (∀ z ∈ zs, 0 ≤ z ∧ z ≤ 255)) : ∃ V P Q : Nat,
    (∀ W, Below w.heap.size w W → Calls Try.prog 18 #[.slice A n c] W fun e w' => e = .returned (vv V) ∧ Below W.heap.size W w') ∧
    (∀ W, Below w.heap.size w W → Calls Try.prog 19 #[.slice A n c] W fun e w' => e = .returned (vv V) ∧ Below W.heap.size W w') ∧
    (∀ w, Calls Try.prog 20 #[vv X, vv Y] w fun e w' => e = .returned (vv P) ∧ Below w.heap.size w w') ∧
    (∀ w, Calls Try.prog 21 #[vv X, vv Y] w fun e w' => e = .returned (vv P) ∧ Below w.heap.size w w') ∧
    (∀ w, Calls Try.prog 22 #[vv X] w fun e w' => e = .returned (vv Q) ∧ Below w.heap.size w w') ∧
    (∀ w, Calls Try.prog 23 #[vv X] w fun e w' => e = .returned (vv Q) ∧ Below w.heap.size w w') :=
  ⟨valOf (zs.take 16), pairV X Y, highV X, fun W hb => from_any A n c zs w.heap.size W hn hnc hm (hs.below hb) hb.size hz, fun W hb => rfrom_any A n c zs w.heap.size W hn hnc hm (hs.below hb) hb.size hz, fun w => pair_any X Y w, fun w => rpair_any X Y w, fun w => high_any X w, fun w => rhigh_any X w⟩

/-- What holds at the head of the loop. -/
def BLRel (w0 : World) (gx gy gs X Y : Nat) (s : Int) (i : Value) (wr : World) : Prop :=
  ∃ k : Nat, k ≤ 6 ∧ i = .int .i64 k ∧ Box wr gx X ∧ Box wr gy Y ∧ Ints wr gs [s, 1, 2, 4, 8, 16] ∧ Below w0.heap.size w0 wr

set_option maxRecDepth 100000 in
set_option maxHeartbeats 4000000 in
theorem byteslaw_some (X Y : Nat) (s : Int) (A : Option Addr) (n c : Nat) (zs : List Int) (w : World) (hX : X < two128) (hn : Hid (zs.length = n)) (hnc : n ≤ c) (hm : n ≤ 100) (hs : Hid (Sees w w.heap.size A (cellsU8 zs))) (hz : Hid (∀ z ∈ zs, 0 ≤ z ∧ z ≤ 255)) :
    Calls Try.prog 6 #[vv X, vv Y, .int .i64 s, .slice A n c] w fun e w' => e = .returned (.bool true) ∧ Below w.heap.size w w' := by
  go_enter Try.func6, Try.ntmps6
  go_wp2_with fail
  refine (awake2_any _).mono ?_
  rintro e w' ⟨rfl, rfl⟩
  go_wp2_with fail
  go_loopw [24] (fun i wr => BLRel w w.heap.size (w.heap.size + 1) (w.heap.size + 1 + 1) X Y s i wr) (fun i _ => 6 - (intOf i).toNat)
  case atStart => exact ⟨0, by omega, rfl, ((Box.new w X).alloc _).alloc _, ((Box.new _ Y).at_ (by simp)).alloc _, by unfold Ints; simpa using heap_alloc_new ((w.alloc _).alloc _) _, below3 w _ _ _⟩
  case round =>
    obtain ⟨k, hk, rfl, bx, by_, bs, hb⟩ := hrel
    obtain ⟨x0, x1, xz0, xz1⟩ := bx.facts
    have Hx := hide bx
    have Hs := hide bs
    have Hb := hide hb
    by_cases hlt : k < 6
    · obtain ⟨q, hqk⟩ := nth6 s k hlt
      have hc := bs.at_ hqk
      obtain ⟨b, m, T, hm16, d1, d2, d3, d4, d5, d6⟩ := round_calls X q hX
      have C1 := hide d1
      have C2 := hide d2
      have C3 := hide d3
      have C4 := hide d4
      have C5 := hide d5
      have C6 := hide d6
      have Hy := hide by_
      clear d1 d2 d3 d4 d5 d6 hqk bx by_ bs hb xz0 xz1
      have hzT : ∀ w, (binOp .neq 24 (.agg #[.int .u64 (lo T), .int .u64 (hi T)]) (.agg #[.int .u64 (lo T), .int .u64 (hi T)])).run Try.prog w = .ok (.bool false) w := fun w => run_ne_same T T w rfl
      go_wp2_with fail
      clear hc
      go_region_held3 (fun w' => w'.cell? ⟨w.heap.size, 0, none⟩ = some (.int .u64 (lo X)) ∧ w'.cell? ⟨w.heap.size, 1, none⟩ = some (.int .u64 (hi X)))
        (first | go_keep | (refine ⟨keep_cellB hb1 ?_, keep_cellB hb1 ?_⟩ <;> go_keep))
        (first
          | (go_at_call 11; refine (C1.out _).mono ?_; rintro e w' ⟨rfl, rfl⟩)
          | (go_at_call 12; refine (C2.out _).mono ?_; rintro e w' ⟨rfl, rfl⟩)
          | (go_at_call 14; refine (C3.out _).mono ?_; rintro e w2 ⟨r, rfl, hownA, hb1⟩; obtain ⟨A1, c1, rfl, hA1, hA2⟩ := own_form2 hownA)
          | (go_at_call 15; refine (C4.out _).mono ?_; rintro e w2 ⟨r, rfl, hownB, hb1⟩; obtain ⟨A3, c3, rfl, hA3, hA4⟩ := own_form2 hownB; have hsA := ((Sees.own hownA).below hb1).more hb1.size; have hsB := Sees.own hownB)
          | (go_at_call 13; refine (same_own A1 A3 m c1 c3 X _ _ hm16 hsA hsB).mono ?_; rintro e w2 ⟨rfl, hb1⟩)
          | (go_at_call 16; refine (C5.out _).mono ?_; rintro e w2 ⟨rfl, hb1⟩)
          | (go_at_call 17; refine (C6.out _).mono ?_; rintro e w2 ⟨rfl, hb1⟩))
      have hB4 : Below wr.drew.heap.size wr.drew w2 := by
        refine below_call ?_ hb1
        apply below_call
        apply below_call
        apply below_call
        any_goals assumption
      have hB0 : Below wr.heap.size wr w2 := (Below.refl wr.heap.size wr).drew.trans hB4
      have R : BLRel w w.heap.size (w.heap.size + 1) (w.heap.size + 1 + 1) X Y s (.int .i64 ((k : Int) + 1)) w2 := ⟨k + 1, by omega, by go_num, Hx.out.call hB0, Hy.out.call hB0, Hs.out.call hB0, below_call Hb.out hB0⟩
      clear hB4 hB0 hb1 hownA hownB hsA hsB hzT x0 x1
      go_wp2_with fail
      go_roundw
      case rel => exact R
      case measure => simp [intOf]; omega
    · obtain rfl : k = 6 := by omega
      obtain ⟨y0, y1, yz0, yz1⟩ := by_.facts
      obtain ⟨V, P, Q, d1, d2, d3, d4, d5, d6⟩ := last_calls X Y A n c zs w hn hnc (by omega) hs.out hz
      have C1 := hide d1
      have C2 := hide d2
      have C3 := hide d3
      have C4 := hide d4
      have C5 := hide d5
      have C6 := hide d6
      have hzV : ∀ w, (binOp .eql 24 (.agg #[.int .u64 (lo V), .int .u64 (hi V)]) (.agg #[.int .u64 (lo V), .int .u64 (hi V)])).run Try.prog w = .ok (.bool true) w := fun w => run_eq_same V V w rfl
      have hzP : ∀ w, (binOp .eql 24 (.agg #[.int .u64 (lo P), .int .u64 (hi P)]) (.agg #[.int .u64 (lo P), .int .u64 (hi P)])).run Try.prog w = .ok (.bool true) w := fun w => run_eq_same P P w rfl
      have hzQ : ∀ w, (binOp .eql 24 (.agg #[.int .u64 (lo Q), .int .u64 (hi Q)]) (.agg #[.int .u64 (lo Q), .int .u64 (hi Q)])).run Try.prog w = .ok (.bool true) w := fun w => run_eq_same Q Q w rfl
      clear d1 d2 d3 d4 d5 d6 bx by_ bs hb xz0 xz1 yz0 yz1
      go_wp2_with fail
      go_region_held3 (fun w' => w'.cell? ⟨w.heap.size, 0, none⟩ = some (.int .u64 (lo X)) ∧ w'.cell? ⟨w.heap.size, 1, none⟩ = some (.int .u64 (hi X)) ∧ w'.cell? ⟨w.heap.size + 1, 0, none⟩ = some (.int .u64 (lo Y)) ∧ w'.cell? ⟨w.heap.size + 1, 1, none⟩ = some (.int .u64 (hi Y)))
        (first | go_keep | (refine ⟨keep_cellB hb1 ?_, keep_cellB hb1 ?_, keep_cellB hb1 ?_, keep_cellB hb1 ?_⟩ <;> go_keep))
        (first
          | (go_at_call 18; refine (C1.out _ Hb.out.drew).mono ?_; rintro e w2 ⟨rfl, hb1⟩)
          | (go_at_call 19; refine (C2.out _ (Hb.out.drew.trans (hb1.mono Hb.out.drew.size))).mono ?_; rintro e w2 ⟨rfl, hb1⟩)
          | (go_at_call 20; refine (C3.out _).mono ?_; rintro e w2 ⟨rfl, hb1⟩)
          | (go_at_call 21; refine (C4.out _).mono ?_; rintro e w2 ⟨rfl, hb1⟩)
          | (go_at_call 22; refine (C5.out _).mono ?_; rintro e w2 ⟨rfl, hb1⟩)
          | (go_at_call 23; refine (C6.out _).mono ?_; rintro e w2 ⟨rfl, hb1⟩))
      have hB4 : Below wr.drew.heap.size wr.drew w2 := by
        refine below_call ?_ hb1
        apply below_call
        apply below_call
        apply below_call
        apply below_call
        any_goals assumption
      have hB0 : Below wr.heap.size wr w2 := (Below.refl wr.heap.size wr).drew.trans hB4
      clear hzV hzP hzQ
      go_wp2_with fail
      go_ret
      exact ⟨rfl, below_call Hb.out hB0⟩

set_option maxRecDepth 100000 in
set_option maxHeartbeats 1000000 in
theorem byteslaw_long (X Y : Nat) (s : Int) (A : Option Addr) (n c : Nat) (w : World) (hm : 100 < n) (hn : n ≤ 9223372036854775807) :
    Calls Try.prog 6 #[vv X, vv Y, .int .i64 s, .slice A n c] w fun e w' => e = .returned (.bool true) ∧ Below w.heap.size w w' := by
  go_enter Try.func6, Try.ntmps6
  go_wp2_with fail
  refine (awake2_any _).mono ?_
  rintro e w' ⟨rfl, rfl⟩
  go_wp2_with fail
  go_ret
  exact ⟨ret_bool (by simp), below2 _ _ _⟩

theorem byteslaw_walk (X Y : Nat) (s : Int) (A : Option Addr) (n c : Nat) (zs : List Int) (w : World) (hX : X < two128) (hn : Hid (zs.length = n)) (hnc : n ≤ c) (hm : n ≤ 9223372036854775807) (hs : Sees w w.heap.size A (cellsU8 zs)) (hz : Hid (∀ z ∈ zs, 0 ≤ z ∧ z ≤ 255)) :
    Calls Try.prog 6 #[vv X, vv Y, .int .i64 s, .slice A n c] w fun e w' => e = .returned (.bool true) ∧ Below w.heap.size w w' := by
  by_cases h : n ≤ 100
  · exact byteslaw_some X Y s A n c zs w hX hn hnc h (hide hs) hz
  · exact byteslaw_long X Y s A n c w (by omega) hm
end Go.Proofs.Ytjhlkfckpadooaa
