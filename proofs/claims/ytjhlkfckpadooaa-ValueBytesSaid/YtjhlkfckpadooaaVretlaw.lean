/-
  The walk of the law ValueBytesReturn: for every x it returns true, and what was in memory before the call is as it was. Conditions: those of the types.
-/
import Derived.Test.YtjhlkfckpadooaaVfromown
import Derived.Test.YtjhlkfckpadooaaVlaws
import Derived.Deep.RegionHeld3
import Derived.Deep.DrawnRows
namespace Go.Proofs.Ytjhlkfckpadooaa
open Go.RowKit
attribute [local go_sem ↓] Go.wp_at_zero Go.wp_at_succ

/-- Block g is just these integers. -/
def Ints (w : World) (g : Nat) (xs : List Int) : Prop := w.heap[g]? = some (.cells (xs.map (Value.int .i64)).toArray 3 (0, 0))
theorem Ints.lt {w : World} {g : Nat} {xs : List Int} (h : Ints w g xs) : g < w.heap.size := by
  rcases Nat.lt_or_ge g w.heap.size with hlt | hge
  · exact hlt
  · unfold Ints at h; rw [Array.getElem?_eq_none hge] at h; cases h
theorem Ints.call {w w' : World} {g : Nat} {xs : List Int} (h : Ints w g xs) (hb : Below w.heap.size w w') : Ints w' g xs := (hb.block g h.lt).trans h
theorem Ints.alloc {w : World} {g : Nat} {xs : List Int} (h : Ints w g xs) (o : Obj) : Ints (w.alloc o) g xs := (Below.heap_alloc w o g h.lt).trans h
theorem Ints.at_ {w : World} {g k : Nat} {xs : List Int} {m : Int} (h : Ints w g xs) (hk : xs[k]? = some m) : w.cell? ⟨g, k, none⟩ = some (.int .i64 m) := by
  rw [cell_of_row w g k _ _ (0, 0) h]
  simp [List.getElem?_map, hk]

theorem keep_cellB {W w1 : World} {p : Addr} {v : Value} (hb : Below W.heap.size W w1) (h : W.cell? p = some v) : w1.cell? p = some v := (hb.cell (World.block_lt_of_cell? _ _ h)).trans h

theorem sizes5 (k : Nat) (hk : k < 5) : ∃ m : Nat, ([1, 2, 4, 8, 16] : List Int)[k]? = some (m : Int) ∧ m ≤ 16 ∧ szB (m : Int) = true := by
  rcases (show k = 0 ∨ k = 1 ∨ k = 2 ∨ k = 3 ∨ k = 4 by omega) with rfl | rfl | rfl | rfl | rfl
  · exact ⟨1, rfl, by omega, by decide⟩
  · exact ⟨2, rfl, by omega, by decide⟩
  · exact ⟨4, rfl, by omega, by decide⟩
  · exact ⟨8, rfl, by omega, by decide⟩
  · exact ⟨16, rfl, by omega, by decide⟩
theorem truncV_nat (X m : Nat) (h : szB (m : Int) = true) : truncV X m = X % 2 ^ (8 * m) := by
  have := szN_yes h
  unfold truncV
  rw [show szN (m : Int) = m by omega]
theorem trunc_at (X m T : Nat) (hX : X < two128) (hT : truncV X m = T) (w : World) : Calls Try.prog 16 #[vv X, .int .i64 m] w fun e w' => e = .returned (vv T) ∧ Below w.heap.size w w' := by
  subst hT; exact trunc_any X m w hX
theorem from_at {base : Nat} {r : Value} {X m T : Nat} {w : World} (hm : m ≤ 16) (hT : X % 2 ^ (8 * m) = T) (h : w.ownsRow base 5 1 r m (cellsU8 (bytesV X m))) :
    Calls Try.prog 18 #[r] w fun e w' => e = .returned (vv T) ∧ Below w.heap.size w w' := by
  subst hT; exact from_own hm h

/-- What holds at the head of the loop. -/
def RetRel (w0 : World) (gx gs X : Nat) (i : Value) (wr : World) : Prop :=
  ∃ k : Nat, k ≤ 5 ∧ i = .int .i64 k ∧ Box wr gx X ∧ Ints wr gs [1, 2, 4, 8, 16] ∧ Below w0.heap.size w0 wr

set_option maxRecDepth 100000 in
set_option maxHeartbeats 4000000 in
theorem retlaw_walk (X : Nat) (w : World) (hX : X < two128) :
    Calls Try.prog 7 #[vv X] w fun e w' => e = .returned (.bool true) ∧ Below w.heap.size w w' := by
  go_enter Try.func7, Try.ntmps7
  go_wp2_with fail
  refine (awake2_any _).mono ?_
  rintro e w' ⟨rfl, rfl⟩
  go_wp2_with fail
  go_loopw [10] (fun i wr => RetRel w w.heap.size (w.heap.size + 1) X i wr) (fun i _ => 5 - (intOf i).toNat)
  case atStart => exact ⟨0, by omega, rfl, (Box.new w X).alloc _, by unfold Ints; simpa using heap_alloc_new (w.alloc _) _, below2 _ _ _⟩
  case round =>
    obtain ⟨k, hk, rfl, bx, bs, hb⟩ := hrel
    obtain ⟨x0, x1, xz0, xz1⟩ := bx.facts
    by_cases hlt : k < 5
    · obtain ⟨m, hmk, hm, hsz⟩ := sizes5 k hlt
      have hc := bs.at_ hmk
      clear hmk
      go_wp2_with fail
      have HT1 := hide (truncV_nat X m hsz)
      have hTl := truncV_lt X m
      obtain ⟨T, hT⟩ : ∃ T, T = truncV X m := ⟨_, rfl⟩
      have HT2 : Hid (truncV T m = T) := hide (by rw [hT, truncV_nat _ _ hsz, truncV_nat _ _ hsz, Nat.mod_mod])
      rw [← hT] at HT1 hTl
      refine (trunc_at X m T hX hT.symm _).mono ?_
      clear hT
      rintro e w1 ⟨rfl, hb1⟩
      clear x0 x1 xz0 xz1 hc
      have bx := bx.call hb1
      have bs := bs.call hb1
      have hb := below_call hb hb1
      clear hb1
      have lx := bx.lt
      have ls := bs.lt
      have hz : ∀ w, (binOp .neq 24 (.agg #[.int .u64 (lo T), .int .u64 (hi T)]) (.agg #[.int .u64 (lo T), .int .u64 (hi T)])).run Try.prog w = .ok (.bool false) w := fun w => run_ne_same T T w rfl
      obtain ⟨x0, x1, xz0, xz1⟩ := bx.facts
      go_wp2_with fail
      clear x0 x1 xz0 xz1
      have bx := bx.alloc (.cells #[.int .u64 (lo T), .int .u64 (hi T)] 24)
      have bs := bs.alloc (.cells #[.int .u64 (lo T), .int .u64 (hi T)] 24)
      have bT := Box.new w1 T
      have hb := hb.alloc hb.size (.cells #[.int .u64 (lo T), .int .u64 (hi T)] 24)
      obtain ⟨W0, hW0⟩ : ∃ W, W = w1.alloc (.cells #[.int .u64 (lo T), .int .u64 (hi T)] 24) := ⟨_, rfl⟩
      rw [← hW0] at bx bs bT hb ⊢
      clear hW0 lx ls
      obtain ⟨x0, x1, xz0, xz1⟩ := bx.facts
      obtain ⟨t0, t1, tz0, tz1⟩ := bT.facts
      have Hx := hide bx
      have Hs := hide bs
      have Hb := hide hb
      clear bx bs bT hb xz0 xz1 tz0 tz1
      go_region_held3 (fun w' => w'.cell? ⟨w.heap.size, 0, none⟩ = some (.int .u64 (lo X)) ∧ w'.cell? ⟨w.heap.size, 1, none⟩ = some (.int .u64 (hi X)) ∧ w'.cell? ⟨w1.heap.size, 0, none⟩ = some (.int .u64 (lo T)) ∧ w'.cell? ⟨w1.heap.size, 1, none⟩ = some (.int .u64 (hi T)))
        (first | go_keep | (refine ⟨keep_cellB hb1 ?_, keep_cellB hb1 ?_, keep_cellB hb1 ?_, keep_cellB hb1 ?_⟩ <;> go_keep))
        (first
          | (go_at_call 14; refine (bytes_yes X m _ hX hm hsz).mono ?_; rintro e w2 ⟨r, rfl, hown, hb1⟩; obtain ⟨A, c, rfl, hAc, hAm⟩ := own_form2 hown)
          | (go_at_call 18; refine (from_at hm HT1.out.symm hown).mono ?_; rintro e w2 ⟨rfl, hb1⟩)
          | (go_at_call 16; refine (trunc_at T m T hTl HT2.out _).mono ?_; rintro e w2 ⟨rfl, hb1⟩))
      have hB4 : Below W0.drew.heap.size W0.drew w2 := by
        refine below_call ?_ hb1
        apply below_call
        apply below_call
        any_goals assumption
      have hB0 : Below W0.heap.size W0 w2 := (Below.refl W0.heap.size W0).drew.trans hB4
      have R : RetRel w w.heap.size (w.heap.size + 1) X (.int .i64 ((k : Int) + 1)) w2 := ⟨k + 1, by omega, by go_num, Hx.out.call hB0, Hs.out.call hB0, below_call Hb.out hB0⟩
      clear hB4 hB0 hb1 hown hz x0 x1 t0 t1
      go_wp2_with fail
      go_roundw
      case rel => exact R
      case measure => simp [intOf]; omega
    · obtain rfl : k = 5 := by omega
      have e16 : truncV X 16 = X := trunc_16 X hX
      obtain ⟨Hi, hHi⟩ : ∃ V, V = highV X := ⟨_, rfl⟩
      have hPair := pair_high X hX
      rw [← hHi] at hPair
      have hHil : Hi < two128 := by rw [hHi]; unfold highV two128; omega
      have C1 : Hid (∀ w, Calls Try.prog 22 #[vv X] w fun e w' => e = .returned (vv Hi) ∧ Below w.heap.size w w') := hide (by rw [hHi]; exact fun w => high_any X w)
      have C2 : Hid (∀ w, Calls Try.prog 20 #[vv X, vv Hi] w fun e w' => e = .returned (vv X) ∧ Below w.heap.size w w') := hide (by have h := fun w => pair_any X Hi w; rw [hPair] at h; exact h)
      clear hHi hPair e16
      have hz : ∀ w, (binOp .eql 24 (.agg #[.int .u64 (lo X), .int .u64 (hi X)]) (.agg #[.int .u64 (lo X), .int .u64 (hi X)])).run Try.prog w = .ok (.bool true) w := fun w => run_eq_same X X w rfl
      have Hb := hide hb
      clear hb bs bx xz0 xz1
      go_wp2_with fail
      go_region_held3 (fun w' => w'.cell? ⟨w.heap.size, 0, none⟩ = some (.int .u64 (lo X)) ∧ w'.cell? ⟨w.heap.size, 1, none⟩ = some (.int .u64 (hi X)))
        (first | go_keep | (refine ⟨keep_cellB hb1 ?_, keep_cellB hb1 ?_⟩ <;> go_keep))
        (first
          | (go_at_call 16; refine (trunc_16b X _).mono ?_; rintro e w2 ⟨rfl, hb1⟩)
          | (go_at_call 22; refine (C1.out _).mono ?_; rintro e w2 ⟨rfl, hb1⟩)
          | (go_at_call 20; refine (C2.out _).mono ?_; rintro e w2 ⟨rfl, hb1⟩))
      have hB4 : Below wr.drew.heap.size wr.drew w2 := by
        refine below_call ?_ hb1
        apply below_call
        any_goals assumption
      have hB0 : Below wr.heap.size wr w2 := (Below.refl wr.heap.size wr).drew.trans hB4
      go_wp2_with fail
      go_ret
      exact ⟨rfl, below_call Hb.out hB0⟩
end Go.Proofs.Ytjhlkfckpadooaa
