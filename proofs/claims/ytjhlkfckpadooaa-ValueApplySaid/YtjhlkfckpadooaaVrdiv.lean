/-
  The contract of the reference's Div: the quotient, bit by bit. Conditions: those of the types, and that the divisor is not 0.
-/
import Derived.Test.YtjhlkfckpadooaaVrsub
import Derived.Deep.DeepCutAuto
namespace Go.Proofs.Ytjhlkfckpadooaa
open Go.RowKit

/-- What holds at the head of the loop: k bits of X are left. -/
def DivRel (w0 : World) (gx gy gr go gt X Y : Nat) (i : Value) (wr : World) : Prop :=
  ∃ k : Nat, k ≤ 128 ∧ ((∃ j : Nat, k = j + 1 ∧ i = .int .i64 j) ∨ (k = 0 ∧ i = .int .i64 (-1))) ∧ Box wr gx X ∧ Box wr gy Y ∧ Box wr gr 0 ∧ Box wr go (divOut X Y k) ∧ Box wr gt (divRest X Y k) ∧ Below w0.heap.size w0 wr
theorem DivRel.next {w0 : World} {gx gy gr go gt X Y : Nat} {wr : World} {j : Nat} (hj : j < 128) (bx : Box wr gx X) (by_ : Box wr gy Y) (br : Box wr gr 0) (bo : Box wr go (divOut X Y j)) (bt_ : Box wr gt (divRest X Y j)) (hb : Below w0.heap.size w0 wr) :
    DivRel w0 gx gy gr go gt X Y (.int .i64 ((j : Int) - 1)) wr := by
  refine ⟨j, by omega, ?_, bx, by_, br, bo, bt_, hb⟩
  cases j with
  | zero => exact .inr ⟨rfl, rfl⟩
  | succ n => exact .inl ⟨n, rfl, by congr 1; omega⟩

set_option maxRecDepth 100000 in
set_option maxHeartbeats 4000000 in
theorem rdiv_any (X Y : Nat) (w : World) (hX : X < two128) (hY : Y < two128) (h0 : 0 < Y) :
    Calls Try.prog 33 #[vv X, vv Y] w fun e w' => e = .returned (vv (X / Y)) ∧ Below w.heap.size w w' := by
  go_enter Try.func33, Try.ntmps33
  go_wp2
  go_loopw [7] (fun i wr => DivRel w w.heap.size (w.heap.size + 1) (w.heap.size + 1 + 1) (w.heap.size + 1 + 1 + 1) (w.heap.size + 1 + 1 + 1 + 1) X Y i wr) (fun i _ => (intOf i + 1).toNat)
  case atStart => exact ⟨128, by omega, .inl ⟨127, rfl, rfl⟩, ((((Box.new w X).alloc _).alloc _).alloc _).alloc _, ((((Box.new _ Y).alloc _).alloc _).alloc _).at_ (by simp), (((Box.new _ 0).alloc _).alloc _).at_ (by simp), (((Box.new _ 0).alloc _).at_ (by simp)).same (div_zero' X Y hX).1.symm, ((Box.new _ 0).at_ (by simp)).same (div_zero' X Y hX).2.symm, ((below3 w _ _ _).alloc (by simp; omega) _).alloc (by simp; omega) _⟩
  case round =>
    obtain ⟨k, hk, hi, bx, by_, br, bo, bt_, hb⟩ := hrel
    rcases hi with ⟨j, rfl, rfl⟩ | ⟨rfl, rfl⟩
    · have hj : j < 128 := by omega
      have HS := hide (rdiv_step X Y j h0)
      have hrl := divRest_lt X Y (j + 1) h0
      have hol := Nat.lt_of_le_of_lt (divOut_le X Y (j + 1)) hX
      have HB := hide (divOut_bit X Y j)
      obtain ⟨O, hO⟩ : ∃ O, O = divOut X Y (j + 1) := ⟨_, rfl⟩
      obtain ⟨R, hR⟩ : ∃ R, R = divRest X Y (j + 1) := ⟨_, rfl⟩
      rw [← hO] at bo hol HB HS
      rw [← hR] at bt_ hrl HS
      clear hO hR
      have hR128 : R < two128 := by omega
      have HT := hide (top_of R hR128)
      obtain ⟨t0, t1, tz0, tz1⟩ := bt_.facts
      obtain ⟨ov, hov⟩ : ∃ b, b = (hi R / 9223372036854775808 == 1) := ⟨_, rfl⟩
      rw [← hov] at HT
      have Hov := hide hov.symm
      have hov' := hov.symm
      clear hov
      go_wp2_with fail
      clear hov'
      refine (rtwice_any R _).mono ?_
      rintro e w1 ⟨rfl, hb1⟩
      clear t0 t1 tz0 tz1
      have bx := bx.call hb1
      have by_ := by_.call hb1
      have br := br.call hb1
      have bo := bo.call hb1
      have bt_ := bt_.call hb1
      have hb := below_call hb hb1
      clear hb1
      obtain ⟨t0, t1, tz0, tz1⟩ := bt_.facts
      obtain ⟨x0, x1, xz0, xz1⟩ := bx.facts
      go_wp2_with fail
      clear t0 t1 tz0 tz1 x0 x1 xz0 xz1
      have bx := bx.far2 (g' := w.heap.size + 1 + 1 + 1 + 1) (by omega) (.int .u64 (lo (2 * R))) (.int .u64 (hi (2 * R)))
      have by_ := by_.far2 (g' := w.heap.size + 1 + 1 + 1 + 1) (by omega) (.int .u64 (lo (2 * R))) (.int .u64 (hi (2 * R)))
      have br := br.far2 (g' := w.heap.size + 1 + 1 + 1 + 1) (by omega) (.int .u64 (lo (2 * R))) (.int .u64 (hi (2 * R)))
      have bo := bo.far2 (g' := w.heap.size + 1 + 1 + 1 + 1) (by omega) (.int .u64 (lo (2 * R))) (.int .u64 (hi (2 * R)))
      have bt_ := bt_.set_ (2 * R)
      have hb := below_set (g := w.heap.size + 1 + 1 + 1 + 1) hb (by omega) (.int .u64 (lo (2 * R))) (.int .u64 (hi (2 * R)))
      obtain ⟨W1, hW1⟩ : ∃ W, W = (w1.setCell ⟨w.heap.size + 1 + 1 + 1 + 1, 0, none⟩ (.int .u64 (lo (2 * R)))).setCell ⟨w.heap.size + 1 + 1 + 1 + 1, 1, none⟩ (.int .u64 (hi (2 * R))) := ⟨_, rfl⟩
      rw [← hW1] at bx by_ br bo bt_ hb ⊢
      clear hW1
      obtain ⟨t0, t1, tz0, tz1⟩ := bt_.facts
      obtain ⟨x0, x1, xz0, xz1⟩ := bx.facts
      go_cut [] (fun wx => Box wx (w.heap.size) X ∧ Box wx (w.heap.size + 1) Y ∧ Box wx (w.heap.size + 1 + 1) 0 ∧ Box wx (w.heap.size + 1 + 1 + 1) O ∧ Box wx (w.heap.size + 1 + 1 + 1 + 1) (2 * R + bt X j) ∧ Below w.heap.size w wx)
      case first =>
        go_region_with (first | (go_at_call 40; refine (rbit_any _ j _ (by assumption) hj).mono ?_; rintro e w2 ⟨rfl, hb1⟩; have bt2 := bt_.drew.call hb1; obtain ⟨t0', t1', tz0', tz1'⟩ := bt2.facts))
        all_goals
          skip
          have e1 : bits .or .u64 (lo (2 * R)) (bt X j : Int) = lo (2 * R + bt X j) := or_even R (bt X j) (bt_le X j)
          rw [e1]
          clear e1 t0 t1 tz0 tz1 x0 x1 xz0 xz1 t0' t1' tz0' tz1' bt2
          have hb2 : Below W1.heap.size W1 w2 := (Below.refl W1.heap.size W1).drew.trans hb1
          clear hb1
          have bx := (bx.call hb2).far (p := ⟨w.heap.size + 1 + 1 + 1 + 1, 0, none⟩) (by simp; omega) (.int .u64 (lo (2 * R + bt X j)))
          have by_ := (by_.call hb2).far (p := ⟨w.heap.size + 1 + 1 + 1 + 1, 0, none⟩) (by simp) (.int .u64 (lo (2 * R + bt X j)))
          have br := (br.call hb2).far (p := ⟨w.heap.size + 1 + 1 + 1 + 1, 0, none⟩) (by simp) (.int .u64 (lo (2 * R + bt X j)))
          have bo := (bo.call hb2).far (p := ⟨w.heap.size + 1 + 1 + 1 + 1, 0, none⟩) (by simp) (.int .u64 (lo (2 * R + bt X j)))
          have bt_ := (bt_.call hb2).set0 (2 * R + bt X j) (hi_even R (bt X j) (bt_le X j))
          have hb := (below_call hb hb2).setCell (p := ⟨w.heap.size + 1 + 1 + 1 + 1, 0, none⟩) (by simp; omega) (.int .u64 (lo (2 * R + bt X j)))
          clear hb2
          go_wp2_with fail
          go_meet
          exact ⟨bx, by_, br, bo, bt_, hb⟩
      case rest =>
        obtain ⟨bx, by_, br, bo, bt_, hb⟩ := hcut
        have hb1 := bt_le X j
        obtain ⟨N, hN⟩ : ∃ N, N = 2 * R + bt X j := ⟨_, rfl⟩
        rw [← hN] at bt_ HS
        have HN := hide hN
        have hN2 : N < 2 * two128 := by omega
        clear hb1 hN
        obtain ⟨M, hM⟩ : ∃ M, M = N % two128 := ⟨_, rfl⟩
        have bt_ := bt_.congr (V' := M) (by rw [hM, Nat.mod_mod])
        have hMl : M < two128 := by rw [hM]; exact Nat.mod_lt _ two128_pos
        have HM := hide hM
        clear hM
        cases ov
        · have hlow : R < 170141183460469231731687303715884105728 := by
            rcases Nat.lt_or_ge R 170141183460469231731687303715884105728 with h | h
            · exact h
            · have := HT.out.2 h; cases this
          have hMN : M = N := by rw [HM.out, Nat.mod_eq_of_lt]; have := HN.out; have := bt_le X j; unfold two128; omega
          have HMN := hide hMN
          clear hMN
          obtain ⟨y0, y1, yz0, yz1⟩ := by_.facts
          obtain ⟨t0, t1, tz0, tz1⟩ := bt_.facts
          go_wp2_with fail
          by_cases hl : M < Y
          · refine (rless_yes M Y _ hMl hY hl).mono ?_
            rintro e w3 ⟨rfl, hb1⟩
            clear y0 y1 yz0 yz1 t0 t1 tz0 tz1
            have bx := bx.call hb1
            have by_ := by_.call hb1
            have br := br.call hb1
            have bo := bo.call hb1
            have bt_ := bt_.call hb1
            have hb := below_call hb hb1
            clear hb1
            have hS := HS.out.1 (by have := HMN.out; omega)
            have HS1 := hide hS.1
            have HS2 := hide hS.2
            clear HS hS HB
            go_wp2_with fail
            go_roundw
            case rel => exact DivRel.next hj bx by_ br (bo.same HS1.out) (bt_.same (by rw [← HS2.out, HMN.out])) hb
            case measure => simp [intOf]
          · refine (rless_no M Y _ hMl hY (by omega)).mono ?_
            rintro e w3 ⟨rfl, hb1⟩
            clear y0 y1 yz0 yz1 t0 t1 tz0 tz1
            have bx := bx.call hb1
            have by_ := by_.call hb1
            have br := br.call hb1
            have bo := bo.call hb1
            have bt_ := bt_.call hb1
            have hb := below_call hb hb1
            clear hb1
            have hYN : Y ≤ N := by have := HMN.out; omega
            have hS := HS.out.2 hYN
            have HS1 := hide hS.1
            have HS2 := hide hS.2
            clear HS hS
            obtain ⟨y0, y1, yz0, yz1⟩ := by_.facts
            obtain ⟨t0, t1, tz0, tz1⟩ := bt_.facts
            go_wp2_with fail
            refine (rsub_any M Y _ hMl hY).mono ?_
            rintro e w4 ⟨rfl, hb1⟩
            clear y0 y1 yz0 yz1 t0 t1 tz0 tz1
            have bx := bx.call hb1
            have by_ := by_.call hb1
            have br := br.call hb1
            have bo := bo.call hb1
            have bt_ := bt_.call hb1
            have hb := below_call hb hb1
            clear hb1
            obtain ⟨D, hD⟩ : ∃ D, D = (M + two128 - Y) % two128 := ⟨_, rfl⟩
            rw [← hD]
            have HD := hide hD
            clear hD
            obtain ⟨t0, t1, tz0, tz1⟩ := bt_.facts
            obtain ⟨o0, o1, oz0, oz1⟩ := bo.facts
            go_wp2_with fail
            clear t0 t1 tz0 tz1 o0 o1 oz0 oz1
            have bx := bx.far2 (g' := w.heap.size + 1 + 1 + 1 + 1) (by omega) (.int .u64 (lo (D))) (.int .u64 (hi (D)))
            have by_ := by_.far2 (g' := w.heap.size + 1 + 1 + 1 + 1) (by omega) (.int .u64 (lo (D))) (.int .u64 (hi (D)))
            have br := br.far2 (g' := w.heap.size + 1 + 1 + 1 + 1) (by omega) (.int .u64 (lo (D))) (.int .u64 (hi (D)))
            have bo := bo.far2 (g' := w.heap.size + 1 + 1 + 1 + 1) (by omega) (.int .u64 (lo (D))) (.int .u64 (hi (D)))
            have bt_ := bt_.set_ (D)
            have hb := below_set (g := w.heap.size + 1 + 1 + 1 + 1) hb (by omega) (.int .u64 (lo (D))) (.int .u64 (hi (D)))
            obtain ⟨W4, hW4⟩ : ∃ W, W = (w4.setCell ⟨w.heap.size + 1 + 1 + 1 + 1, 0, none⟩ (.int .u64 (lo (D)))).setCell ⟨w.heap.size + 1 + 1 + 1 + 1, 1, none⟩ (.int .u64 (hi (D))) := ⟨_, rfl⟩
            rw [← hW4] at bx by_ br bo bt_ hb ⊢
            clear hW4
            refine (rset_any O j _ hol hj HB.out).mono ?_
            rintro e w5 ⟨rfl, hb1⟩
            have bx := bx.call hb1
            have by_ := by_.call hb1
            have br := br.call hb1
            have bo := bo.call hb1
            have bt_ := bt_.call hb1
            have hb := below_call hb hb1
            clear hb1
            obtain ⟨S, hS⟩ : ∃ S, S = O + 2 ^ j := ⟨_, rfl⟩
            rw [← hS]
            have HSS := hide hS
            clear hS
            obtain ⟨o0, o1, oz0, oz1⟩ := bo.facts
            go_wp2_with fail
            clear o0 o1 oz0 oz1
            have bx := bx.far2 (g' := w.heap.size + 1 + 1 + 1) (by omega) (.int .u64 (lo (S))) (.int .u64 (hi (S)))
            have by_ := by_.far2 (g' := w.heap.size + 1 + 1 + 1) (by omega) (.int .u64 (lo (S))) (.int .u64 (hi (S)))
            have br := br.far2 (g' := w.heap.size + 1 + 1 + 1) (by omega) (.int .u64 (lo (S))) (.int .u64 (hi (S)))
            have bo := bo.set_ (S)
            have bt_ := bt_.far2 (g' := w.heap.size + 1 + 1 + 1) (by omega) (.int .u64 (lo (S))) (.int .u64 (hi (S)))
            have hb := below_set (g := w.heap.size + 1 + 1 + 1) hb (by omega) (.int .u64 (lo (S))) (.int .u64 (hi (S)))
            go_roundw
            case rel => exact DivRel.next hj bx by_ br (bo.same (by rw [HSS.out, HS1.out])) (bt_.congr (by rw [← HS2.out, HD.out, HM.out]; exact sub_over N Y hYN hY)) hb
            case measure => simp [intOf]
        · have hYN : Y ≤ N := by
            have h : 170141183460469231731687303715884105728 ≤ R := by
              rcases Nat.lt_or_ge R 170141183460469231731687303715884105728 with h | h
              · have := HT.out.1 h; cases this
              · exact h
            have := HN.out; unfold two128 at hY; omega
          have hS := HS.out.2 hYN
          have HS1 := hide hS.1
          have HS2 := hide hS.2
          clear HS hS
          obtain ⟨y0, y1, yz0, yz1⟩ := by_.facts
          obtain ⟨t0, t1, tz0, tz1⟩ := bt_.facts
          go_wp2_with fail
          refine (rsub_any M Y _ hMl hY).mono ?_
          rintro e w4 ⟨rfl, hb1⟩
          clear y0 y1 yz0 yz1 t0 t1 tz0 tz1
          have bx := bx.call hb1
          have by_ := by_.call hb1
          have br := br.call hb1
          have bo := bo.call hb1
          have bt_ := bt_.call hb1
          have hb := below_call hb hb1
          clear hb1
          obtain ⟨D, hD⟩ : ∃ D, D = (M + two128 - Y) % two128 := ⟨_, rfl⟩
          rw [← hD]
          have HD := hide hD
          clear hD
          obtain ⟨t0, t1, tz0, tz1⟩ := bt_.facts
          obtain ⟨o0, o1, oz0, oz1⟩ := bo.facts
          go_wp2_with fail
          clear t0 t1 tz0 tz1 o0 o1 oz0 oz1
          have bx := bx.far2 (g' := w.heap.size + 1 + 1 + 1 + 1) (by omega) (.int .u64 (lo (D))) (.int .u64 (hi (D)))
          have by_ := by_.far2 (g' := w.heap.size + 1 + 1 + 1 + 1) (by omega) (.int .u64 (lo (D))) (.int .u64 (hi (D)))
          have br := br.far2 (g' := w.heap.size + 1 + 1 + 1 + 1) (by omega) (.int .u64 (lo (D))) (.int .u64 (hi (D)))
          have bo := bo.far2 (g' := w.heap.size + 1 + 1 + 1 + 1) (by omega) (.int .u64 (lo (D))) (.int .u64 (hi (D)))
          have bt_ := bt_.set_ (D)
          have hb := below_set (g := w.heap.size + 1 + 1 + 1 + 1) hb (by omega) (.int .u64 (lo (D))) (.int .u64 (hi (D)))
          obtain ⟨W4, hW4⟩ : ∃ W, W = (w4.setCell ⟨w.heap.size + 1 + 1 + 1 + 1, 0, none⟩ (.int .u64 (lo (D)))).setCell ⟨w.heap.size + 1 + 1 + 1 + 1, 1, none⟩ (.int .u64 (hi (D))) := ⟨_, rfl⟩
          rw [← hW4] at bx by_ br bo bt_ hb ⊢
          clear hW4
          refine (rset_any O j _ hol hj HB.out).mono ?_
          rintro e w5 ⟨rfl, hb1⟩
          have bx := bx.call hb1
          have by_ := by_.call hb1
          have br := br.call hb1
          have bo := bo.call hb1
          have bt_ := bt_.call hb1
          have hb := below_call hb hb1
          clear hb1
          obtain ⟨S, hS⟩ : ∃ S, S = O + 2 ^ j := ⟨_, rfl⟩
          rw [← hS]
          have HSS := hide hS
          clear hS
          obtain ⟨o0, o1, oz0, oz1⟩ := bo.facts
          go_wp2_with fail
          clear o0 o1 oz0 oz1
          have bx := bx.far2 (g' := w.heap.size + 1 + 1 + 1) (by omega) (.int .u64 (lo (S))) (.int .u64 (hi (S)))
          have by_ := by_.far2 (g' := w.heap.size + 1 + 1 + 1) (by omega) (.int .u64 (lo (S))) (.int .u64 (hi (S)))
          have br := br.far2 (g' := w.heap.size + 1 + 1 + 1) (by omega) (.int .u64 (lo (S))) (.int .u64 (hi (S)))
          have bo := bo.set_ (S)
          have bt_ := bt_.far2 (g' := w.heap.size + 1 + 1 + 1) (by omega) (.int .u64 (lo (S))) (.int .u64 (hi (S)))
          have hb := below_set (g := w.heap.size + 1 + 1 + 1) hb (by omega) (.int .u64 (lo (S))) (.int .u64 (hi (S)))
          go_roundw
          case rel => exact DivRel.next hj bx by_ br (bo.same (by rw [HSS.out, HS1.out])) (bt_.congr (by rw [← HS2.out, HD.out, HM.out]; exact sub_over N Y hYN hY)) hb
          case measure => simp [intOf]
    · have bo := bo.same (div_all X Y)
      obtain ⟨V, hV⟩ : ∃ V, V = X / Y := ⟨_, rfl⟩
      rw [← hV] at bo
      have HV := hide hV
      clear hV
      obtain ⟨o0, o1, oz0, oz1⟩ := bo.facts
      obtain ⟨r0, r1, rz0, rz1⟩ := br.facts
      go_wp2_with fail
      clear o0 o1 oz0 oz1 r0 r1 rz0 rz1
      have bx := bx.far2 (g' := w.heap.size + 1 + 1) (by omega) (.int .u64 (lo (V))) (.int .u64 (hi (V)))
      have by_ := by_.far2 (g' := w.heap.size + 1 + 1) (by omega) (.int .u64 (lo (V))) (.int .u64 (hi (V)))
      have br := br.set_ (V)
      have bo := bo.far2 (g' := w.heap.size + 1 + 1) (by omega) (.int .u64 (lo (V))) (.int .u64 (hi (V)))
      have bt_ := bt_.far2 (g' := w.heap.size + 1 + 1) (by omega) (.int .u64 (lo (V))) (.int .u64 (hi (V)))
      have hb := below_set (g := w.heap.size + 1 + 1) hb (by omega) (.int .u64 (lo (V))) (.int .u64 (hi (V)))
      obtain ⟨W9, hW9⟩ : ∃ W, W = (wr.setCell ⟨w.heap.size + 1 + 1, 0, none⟩ (.int .u64 (lo (V)))).setCell ⟨w.heap.size + 1 + 1, 1, none⟩ (.int .u64 (hi (V))) := ⟨_, rfl⟩
      rw [← hW9] at bx by_ br bo bt_ hb ⊢
      clear hW9
      obtain ⟨r0, r1, rz0, rz1⟩ := br.facts
      exact bodyPost_ret (v := vv V) (by simp [results, Try.results33, go_sem, r0, r1]) rfl ⟨by rw [HV.out], hb⟩
end Go.Proofs.Ytjhlkfckpadooaa
