/-
  The contract of the reference's Add: the sum, bit by bit. Conditions: those of the types.
-/
import Derived.Test.YtjhlkfckpadooaaVref
import Derived.Deep.RegionHeld3
import Derived.Outline
namespace Go.Proofs.Ytjhlkfckpadooaa
open Go.RowKit

theorem keep_cell {W w1 : World} {p : Addr} {v : Value} (hb : Below W.heap.size W w1) (h : W.cell? p = some v) : w1.cell? p = some v := (hb.cell (World.block_lt_of_cell? _ _ h)).trans h

/-- What holds at the head of the loop. -/
def AddRel (w0 : World) (gx gy gr go X Y : Nat) (c i : Value) (wr : World) : Prop :=
  ∃ k : Nat, k ≤ 128 ∧ c = .int .u64 (addCar X Y k) ∧ i = .int .i64 k ∧ Box wr gx X ∧ Box wr gy Y ∧ Box wr gr 0 ∧ Box wr go (addOut X Y k) ∧ Below w0.heap.size w0 wr

set_option maxRecDepth 100000 in
set_option maxHeartbeats 1000000 in
theorem radd_any (X Y : Nat) (w : World) (hX : X < two128) (hY : Y < two128) :
    Calls Try.prog 30 #[vv X, vv Y] w fun e w' => e = .returned (vv ((X + Y) % two128)) ∧ Below w.heap.size w w' := by
  go_enter Try.func30, Try.ntmps30
  go_wp2
  go_loopw [6, 7] (fun c i wr => AddRel w w.heap.size (w.heap.size + 1) (w.heap.size + 1 + 1) (w.heap.size + 1 + 1 + 1) X Y c i wr) (fun _ i _ => 128 - (intOf i).toNat)
  case atStart => exact ⟨0, by omega, by rw [(add_zero X Y).2]; rfl, rfl, (((Box.new w X).alloc _).alloc _).alloc _, (((Box.new _ Y).alloc _).alloc _).at_ (by simp), ((Box.new _ 0).alloc _).at_ (by simp), ((Box.new _ 0).at_ (by simp)).same (add_zero X Y).1.symm, (below3 w _ _ _).alloc (by simp; omega) _⟩
  case round =>
    obtain ⟨k, hk, rfl, rfl, bx, by_, br, bo, hb⟩ := hrel
    by_cases hlt : k < 128
    · have hc1 := addCar_le X Y k
      have ha1 := bt_le X k
      have hb1' := bt_le Y k
      obtain ⟨x0, x1, xz0, xz1⟩ := bx.facts
      obtain ⟨y0, y1, yz0, yz1⟩ := by_.facts
      go_wp2_with fail
      go_region_held3 (fun w' => w'.cell? ⟨w.heap.size, 0, none⟩ = some (.int .u64 (lo X)) ∧ w'.cell? ⟨w.heap.size, 1, none⟩ = some (.int .u64 (hi X)) ∧ w'.cell? ⟨w.heap.size + 1, 0, none⟩ = some (.int .u64 (lo Y)) ∧ w'.cell? ⟨w.heap.size + 1, 1, none⟩ = some (.int .u64 (hi Y)))
        (first | go_keep | (refine ⟨keep_cell hb1 ?_, keep_cell hb1 ?_, keep_cell hb1 ?_, keep_cell hb1 ?_⟩ <;> go_keep))
        (first | (go_at_call 40; refine (rbit_any _ k _ (by assumption) hlt).mono ?_; rintro e w1 ⟨rfl, hb1⟩))
      have hb2 : Below wr.heap.size wr w1 := (Below.refl wr.heap.size wr).drew.trans (below_call (‹Below wr.drew.heap.size wr.drew _›) hb1)
      have bx := bx.call hb2
      have by_ := by_.call hb2
      have br := br.call hb2
      have bo := bo.call hb2
      have hb := below_call hb hb2
      clear hb1 hb2 x0 x1 xz0 xz1 y0 y1 yz0 yz1
      obtain ⟨s, hs⟩ : ∃ s, s = bt X k + bt Y k + addCar X Y k := ⟨_, rfl⟩
      have es : IntKind.u64.wrap (IntKind.u64.wrap ((bt X k : Int) + (bt Y k : Int)) + (addCar X Y k : Int)) = (s : Int) := by
        simp only [IntKind.wrap_u64]; omega
      rw [es]
      have hs3 : s ≤ 3 := by omega
      have HS := hide hs
      have has := add_step X Y k
      rw [← hs] at has
      have HA := hide has
      clear es hs ha1 hb1' has
      by_cases hs1 : s % 2 = 1
      · have hbit : (bits .and .u64 (s : Int) 1 == 1) = true := by rw [and_bit_u64 _ (by omega) (by omega), beq_iff_eq]; omega
        have HS1 := hide hs1
        clear hs1
        obtain ⟨o0, o1, oz0, oz1⟩ := bo.facts
        go_wp2_with fail
        refine (rset_any (addOut X Y k) k _ (addOut_128 X Y k hlt) hlt (addOut_bit X Y k)).mono ?_
        rintro e w2 ⟨rfl, hb1⟩
        clear o0 o1 oz0 oz1
        have bx := bx.call hb1
        have by_ := by_.call hb1
        have br := br.call hb1
        have bo := bo.call hb1
        have hb := below_call hb hb1
        clear hb1
        obtain ⟨o0, o1, oz0, oz1⟩ := bo.facts
        obtain ⟨V, hV⟩ : ∃ V, V = addOut X Y k + 2 ^ k := ⟨_, rfl⟩
        rw [← hV]
        have HV := hide hV
        clear hV
        go_wp2_with fail
        clear o0 o1 oz0 oz1
        have bx := bx.far2 (g' := w.heap.size + 1 + 1 + 1) (by omega) (.int .u64 (lo (V))) (.int .u64 (hi (V)))
        have by_ := by_.far2 (g' := w.heap.size + 1 + 1 + 1) (by omega) (.int .u64 (lo (V))) (.int .u64 (hi (V)))
        have br := br.far2 (g' := w.heap.size + 1 + 1 + 1) (by omega) (.int .u64 (lo (V))) (.int .u64 (hi (V)))
        have bo := bo.set_ (V)
        have hb := below_set (g := w.heap.size + 1 + 1 + 1) hb (by omega) (.int .u64 (lo (V))) (.int .u64 (hi (V)))
        go_roundw
        case rel => exact ⟨k + 1, by omega, by rw [HA.out.2]; go_num, by go_num, bx, by_, br, bo.same (by rw [HV.out, HA.out.1, HS1.out, Nat.mul_one]), hb⟩
        case measure => simp [intOf]; omega
      · have hbit : (bits .and .u64 (s : Int) 1 == 1) = false := by rw [and_bit_u64 _ (by omega) (by omega), beq_eq_false_iff_ne]; omega
        have HS1 := hide (show s % 2 = 0 by omega)
        clear hs1
        go_wp2_with fail
        go_roundw
        case rel => exact ⟨k + 1, by omega, by rw [HA.out.2]; go_num, by go_num, bx, by_, br, bo.same (by rw [HA.out.1, HS1.out, Nat.mul_zero, Nat.add_zero]), hb⟩
        case measure => simp [intOf]; omega
    · obtain rfl : k = 128 := by omega
      have bo := bo.congr (V' := (X + Y) % two128) (by rw [add_all, Nat.mod_mod])
      obtain ⟨V, hV⟩ : ∃ V, V = (X + Y) % two128 := ⟨_, rfl⟩
      rw [← hV] at bo
      have HV := hide hV
      clear hV
      obtain ⟨o0, o1, oz0, oz1⟩ := bo.facts
      obtain ⟨r0, r1, rz0, rz1⟩ := br.facts
      go_wp2_with fail
      clear o0 o1 oz0 oz1 r0 r1 rz0 rz1
      have bx := bx.far2 (g' := w.heap.size + 1 + 1) (by omega) (.int .u64 (lo (V))) (.int .u64 (hi (V)))
      have by_ := by_.far2 (g' := w.heap.size + 1 + 1) (by omega) (.int .u64 (lo (V))) (.int .u64 (hi (V)))
      have br := br.set_ (V)
      have bo := bo.far2 (g' := w.heap.size + 1 + 1) (by omega) (.int .u64 (lo (V))) (.int .u64 (hi (V)))
      have hb := below_set (g := w.heap.size + 1 + 1) hb (by omega) (.int .u64 (lo (V))) (.int .u64 (hi (V)))
      obtain ⟨W9, hW9⟩ : ∃ W, W = (wr.setCell ⟨w.heap.size + 1 + 1, 0, none⟩ (.int .u64 (lo (V)))).setCell ⟨w.heap.size + 1 + 1, 1, none⟩ (.int .u64 (hi (V))) := ⟨_, rfl⟩
      rw [← hW9] at bx by_ br bo hb ⊢
      clear hW9
      obtain ⟨r0, r1, rz0, rz1⟩ := br.facts
      exact bodyPost_ret (v := vv V) (by simp [results, Try.results30, go_sem, r0, r1]) rfl ⟨by rw [HV.out], hb⟩
end Go.Proofs.Ytjhlkfckpadooaa
