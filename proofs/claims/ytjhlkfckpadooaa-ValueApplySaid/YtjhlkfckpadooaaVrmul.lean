/-
  The contract of the reference's Mul: the product, bit by bit. Conditions: those of the types.
-/
import Derived.Test.YtjhlkfckpadooaaVradd
namespace Go.Proofs.Ytjhlkfckpadooaa
open Go.RowKit

/-- What holds at the head of the loop: k bits of Y are left. -/
def MulRel (w0 : World) (gx gy gr go X Y : Nat) (i : Value) (wr : World) : Prop :=
  ∃ k : Nat, k ≤ 128 ∧ ((∃ j : Nat, k = j + 1 ∧ i = .int .i64 j) ∨ (k = 0 ∧ i = .int .i64 (-1))) ∧ Box wr gx X ∧ Box wr gy Y ∧ Box wr gr 0 ∧ Box wr go (mulOut X Y k) ∧ Below w0.heap.size w0 wr
theorem MulRel.next {w0 : World} {gx gy gr go X Y : Nat} {wr : World} {j : Nat} (hj : j < 128) (bx : Box wr gx X) (by_ : Box wr gy Y) (br : Box wr gr 0) (bo : Box wr go (mulOut X Y j)) (hb : Below w0.heap.size w0 wr) :
    MulRel w0 gx gy gr go X Y (.int .i64 ((j : Int) - 1)) wr := by
  refine ⟨j, by omega, ?_, bx, by_, br, bo, hb⟩
  cases j with
  | zero => exact .inr ⟨rfl, rfl⟩
  | succ n => exact .inl ⟨n, rfl, by congr 1; omega⟩

set_option maxRecDepth 100000 in
set_option maxHeartbeats 1000000 in
theorem rmul_any (X Y : Nat) (w : World) (hX : X < two128) (hY : Y < two128) :
    Calls Try.prog 32 #[vv X, vv Y] w fun e w' => e = .returned (vv (X * Y % two128)) ∧ Below w.heap.size w w' := by
  go_enter Try.func32, Try.ntmps32
  go_wp2
  go_loopw [6] (fun i wr => MulRel w w.heap.size (w.heap.size + 1) (w.heap.size + 1 + 1) (w.heap.size + 1 + 1 + 1) X Y i wr) (fun i _ => (intOf i + 1).toNat)
  case atStart => exact ⟨128, by omega, .inl ⟨127, rfl, rfl⟩, (((Box.new w X).alloc _).alloc _).alloc _, (((Box.new _ Y).alloc _).alloc _).at_ (by simp), ((Box.new _ 0).alloc _).at_ (by simp), ((Box.new _ 0).at_ (by simp)).same (mul_zero' X Y hY).symm, (below3 w _ _ _).alloc (by simp; omega) _⟩
  case round =>
    obtain ⟨k, hk, hi, bx, by_, br, bo, hb⟩ := hrel
    rcases hi with ⟨j, rfl, rfl⟩ | ⟨rfl, rfl⟩
    · have hj : j < 128 := by omega
      have hm := mulOut_lt X Y (j + 1)
      have h0 := hide (mul_step0 X Y j)
      have h1 := hide (mul_step1 X Y j)
      obtain ⟨O, hO⟩ : ∃ O, O = mulOut X Y (j + 1) := ⟨_, rfl⟩
      rw [← hO] at bo hm h0 h1
      clear hO
      obtain ⟨o0, o1, oz0, oz1⟩ := bo.facts
      go_wp2_with fail
      refine (rtwice_any O _).mono ?_
      rintro e w1 ⟨rfl, hb1⟩
      clear o0 o1 oz0 oz1
      have bx := bx.call hb1
      have by_ := by_.call hb1
      have br := br.call hb1
      have bo := bo.call hb1
      have hb := below_call hb hb1
      clear hb1
      obtain ⟨o0, o1, oz0, oz1⟩ := bo.facts
      obtain ⟨y0, y1, yz0, yz1⟩ := by_.facts
      go_wp2_with fail
      clear o0 o1 oz0 oz1 y0 y1 yz0 yz1
      have bx := bx.far2 (g' := w.heap.size + 1 + 1 + 1) (by omega) (.int .u64 (lo (2 * O))) (.int .u64 (hi (2 * O)))
      have by_ := by_.far2 (g' := w.heap.size + 1 + 1 + 1) (by omega) (.int .u64 (lo (2 * O))) (.int .u64 (hi (2 * O)))
      have br := br.far2 (g' := w.heap.size + 1 + 1 + 1) (by omega) (.int .u64 (lo (2 * O))) (.int .u64 (hi (2 * O)))
      have bo := bo.set_ (2 * O)
      have hb := below_set (g := w.heap.size + 1 + 1 + 1) hb (by omega) (.int .u64 (lo (2 * O))) (.int .u64 (hi (2 * O)))
      obtain ⟨W1, hW1⟩ : ∃ W, W = (w1.setCell ⟨w.heap.size + 1 + 1 + 1, 0, none⟩ (.int .u64 (lo (2 * O)))).setCell ⟨w.heap.size + 1 + 1 + 1, 1, none⟩ (.int .u64 (hi (2 * O))) := ⟨_, rfl⟩
      rw [← hW1] at bx by_ br bo hb ⊢
      clear hW1
      refine (rbit_any Y j _ hY hj).mono ?_
      rintro e w2 ⟨rfl, hb1⟩
      have bx := bx.call hb1
      have by_ := by_.call hb1
      have br := br.call hb1
      have bo := bo.call hb1
      have hb := below_call hb hb1
      clear hb1
      have ht := bt_le Y j
      by_cases hbit : bt Y j = 1
      · have hq : (((bt Y j : Nat) : Int) == 1) = true := by rw [hbit]; rfl
        have h1' := hide (h1.out hbit)
        clear hbit h0 h1
        have bo := bo.congr (V' := 2 * O % two128) (by rw [Nat.mod_mod])
        obtain ⟨O2, hO2⟩ : ∃ O2, O2 = 2 * O % two128 := ⟨_, rfl⟩
        have hO2l : O2 < two128 := by rw [hO2]; exact Nat.mod_lt _ two128_pos
        rw [← hO2] at bo
        have HO2 := hide hO2
        clear hO2
        obtain ⟨o0, o1, oz0, oz1⟩ := bo.facts
        obtain ⟨x0, x1, xz0, xz1⟩ := bx.facts
        go_wp2_with fail
        refine (radd_any O2 X _ hO2l hX).mono ?_
        rintro e w3 ⟨rfl, hb1⟩
        clear o0 o1 oz0 oz1 x0 x1 xz0 xz1
        have bx := bx.call hb1
        have by_ := by_.call hb1
        have br := br.call hb1
        have bo := bo.call hb1
        have hb := below_call hb hb1
        clear hb1
        obtain ⟨S, hS⟩ : ∃ S, S = (O2 + X) % two128 := ⟨_, rfl⟩
        rw [← hS]
        have HS := hide hS
        clear hS
        obtain ⟨o0, o1, oz0, oz1⟩ := bo.facts
        go_wp2_with fail
        clear o0 o1 oz0 oz1
        have bx := bx.far2 (g' := w.heap.size + 1 + 1 + 1) (by omega) (.int .u64 (lo (S))) (.int .u64 (hi (S)))
        have by_ := by_.far2 (g' := w.heap.size + 1 + 1 + 1) (by omega) (.int .u64 (lo (S))) (.int .u64 (hi (S)))
        have br := br.far2 (g' := w.heap.size + 1 + 1 + 1) (by omega) (.int .u64 (lo (S))) (.int .u64 (hi (S)))
        have bo := bo.set_ (S)
        have hb := below_set (g := w.heap.size + 1 + 1 + 1) hb (by omega) (.int .u64 (lo (S))) (.int .u64 (hi (S)))
        go_roundw
        case rel => exact MulRel.next hj bx by_ br (bo.congr (by rw [← h1'.out, HS.out, HO2.out, Nat.mod_add_mod, Nat.mod_mod])) hb
        case measure => simp [intOf]
      · have hq : (((bt Y j : Nat) : Int) == 1) = false := by rw [beq_eq_false_iff_ne]; omega
        have h0' := hide (h0.out (by omega))
        clear hbit h0 h1
        go_wp2_with fail
        go_roundw
        case rel => exact MulRel.next hj bx by_ br (bo.congr h0'.out) hb
        case measure => simp [intOf]
    · have bo := bo.same (mul_all X Y)
      obtain ⟨V, hV⟩ : ∃ V, V = X * Y % two128 := ⟨_, rfl⟩
      rw [← hV] at bo
      have HV := hide hV
      clear hV
      obtain ⟨o0, o1, oz0, oz1⟩ := bo.facts
      obtain ⟨r0, r1, rz0, rz1⟩ := br.facts
      go_wp2_with fail
      clear o0 o1 oz0 oz1 r0 r1 rz0 rz1
      have bx := bx.far2 (g' := w.heap.size + 1 + 1) (by omega) (.int .u64 (lo (V))) (.int .u64 (hi (V)))
      have by_ := by_.far2 (g' := w.heap.size + 1 + 1) (by omega) (.int .u64 (lo (V))) (.int .u64 (hi (V)))
      have br := br.set_ (V)
      have bo := bo.far2 (g' := w.heap.size + 1 + 1) (by omega) (.int .u64 (lo (V))) (.int .u64 (hi (V)))
      have hb := below_set (g := w.heap.size + 1 + 1) hb (by omega) (.int .u64 (lo (V))) (.int .u64 (hi (V)))
      obtain ⟨W9, hW9⟩ : ∃ W, W = (wr.setCell ⟨w.heap.size + 1 + 1, 0, none⟩ (.int .u64 (lo (V)))).setCell ⟨w.heap.size + 1 + 1, 1, none⟩ (.int .u64 (hi (V))) := ⟨_, rfl⟩
      rw [← hW9] at bx by_ br bo hb ⊢
      clear hW9
      obtain ⟨r0, r1, rz0, rz1⟩ := br.facts
      exact bodyPost_ret (v := vv V) (by simp [results, Try.results32, go_sem, r0, r1]) rfl ⟨by rw [HV.out], hb⟩
end Go.Proofs.Ytjhlkfckpadooaa
