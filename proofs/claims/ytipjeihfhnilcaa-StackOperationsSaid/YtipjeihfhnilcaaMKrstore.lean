import Derived.Test.YtipjeihfhnilcaaMKfn
import Derived.Test.YtipjeihfhnilcaaMKrpush
import Derived.Test.YtipjeihfhnilcaaMKload
import Derived.Test.YtipjeihfhnilcaaMVbytes
import Derived.Test.YtipjeihfhnilcaaMVrbytes
import Derived.BigRegion
import Derived.Deep.DeepFit
import Derived.Lib.SliceRun
import Derived.Laws.CopyOwn
set_option linter.unusedVariables false
set_option linter.unusedSimpArgs false
section
/-
  The contracts of the reference's Store and Move: the stack behind each, or the stack as it was with the error. Conditions: those of the types; the stack is one for which Check is true.
-/
namespace Go.Proofs.Ytipjeihfhnilcaa
open Go.RowKit
attribute [local go_sem ↓] Go.wp_at_zero Go.wp_at_succ

/-- A stack returned with an error number; without an error both its rows are the call's own. -/
def StkPostO (S : Sk) (E : Int) (w : World) (e : Ending) (w' : World) : Prop :=
  ∃ (A1 : Option Addr) (c1 : Nat) (A2 : Option Addr) (c2 : Nat), e = .returned (.tuple #[sv A1 c1 A2 c2 S, .int .i64 E]) ∧ StkAt w' w'.heap.size A1 c1 A2 c2 S ∧ Below w.heap.size w w' ∧ (E = 0 → StkOwn w' w.heap.size A1 c1 A2 c2 S 5 4)
theorem StkPostO.to_ {S : Sk} {E : Int} {w : World} {e : Ending} {w' : World} (h : StkPostO S E w e w') : StkPost S E w e w' := by
  obtain ⟨A1, c1, A2, c2, h1, h2, h3, _⟩ := h
  exact ⟨A1, c1, A2, c2, h1, h2, h3⟩
/-- What holds at the head of the loop. -/
def StRel (S : Sk) (A1 : Option Addr) (c1 : Nat) (A2 : Option Addr) (c2 : Nat) (b1 k1 b2 k2 b3 k3 B3 : Nat) (zs : List Int) (w : World) (g a m : Nat) (i : Value) (wr : World) : Prop :=
  ∃ k : Nat, k ≤ m ∧ i = .int .i64 (k : Int) ∧ Hid (Row wr w.heap.size 29 [.slice A1 S.bs.length c1, .slice A2 S.bs.length c2, .int .i64 (S.sp : Int)]) ∧ Hid (Row wr (w.heap.size + 2) 29 [.slice none 0 0, .slice none 0 0, .int .i64 0]) ∧ Hid (Row wr g 29 [.slice (some ⟨b1, 0, none⟩) S.bs.length k1, .slice (some ⟨b2, 0, none⟩) S.bs.length k2, .int .i64 (S.sp : Int)]) ∧
    Hid (wr.ownsRow (w.heap.size + 3) 5 1 (.slice (some ⟨b1, 0, none⟩) S.bs.length k1) S.bs.length (splice (cellsU8 S.bs) a ((cellsU8 zs).take k))) ∧ Hid (wr.ownsRow (w.heap.size + 3) 4 1 (.slice (some ⟨b2, 0, none⟩) S.bs.length k2) S.bs.length (splice (cellsB S.us) a ((List.replicate m (Value.bool true)).take k))) ∧
    Hid (wr.ownsRow B3 5 1 (.slice (some ⟨b3, 0, none⟩) m k3) m (cellsU8 zs)) ∧ Hid (Below w.heap.size w wr)

set_option maxRecDepth 100000 in
set_option maxHeartbeats 4000000 in
theorem rstore_own {A1 A2 : Option Addr} {c1 c2 : Nat} {S : Sk} (off n : Int) (X : Nat) (hX : X < two128) (ho : isI off) (w : World) (hS : Hid (StkAt w w.heap.size A1 c1 A2 c2 S)) :
    Calls Try.prog 39 #[sv A1 c1 A2 c2 S, .int .i64 off, .int .i64 n, vv X] w (StkPostO (storeR S off n X) (fitE S off n) w) := by
  have hok := hide hS.out.ok
  have hmost := hS.out.ok.most
  have hsp := hS.out.ok.sp
  have hm1 := hS.out.m1
  have hm2 := hS.out.m2
  obtain ⟨W0, hW0⟩ : ∃ W, ((w.alloc (.cells #[.slice A1 S.bs.length c1, .slice A2 S.bs.length c2, .int .i64 (S.sp : Int)] 29)).alloc (.cells #[.int .u64 (lo X), .int .u64 (hi X)] 39)).alloc (.cells #[.slice none 0 0, .slice none 0 0, .int .i64 0] 29) = W := ⟨_, rfl⟩
  have HW0 := hide hW0
  have RX0 := hide (show Row W0 (w.heap.size) 29 [.slice A1 S.bs.length c1, .slice A2 S.bs.length c2, .int .i64 (S.sp : Int)] by rw [← hW0]; exact (((Row.new w 29 [.slice A1 S.bs.length c1, .slice A2 S.bs.length c2, .int .i64 (S.sp : Int)]).alloc _).alloc _))
  have RV0 := hide (show Row W0 (w.heap.size + 1) 39 [.int .u64 (lo X), .int .u64 (hi X)] by rw [← hW0]; exact ((Row.new (w.alloc (.cells #[.slice A1 S.bs.length c1, .slice A2 S.bs.length c2, .int .i64 (S.sp : Int)] 29)) 39 [.int .u64 (lo X), .int .u64 (hi X)]).alloc _).at_ (by simp))
  have RZ0 := hide (show Row W0 (w.heap.size + 2) 29 [.slice none 0 0, .slice none 0 0, .int .i64 0] by rw [← hW0]; exact (Row.new ((w.alloc (.cells #[.slice A1 S.bs.length c1, .slice A2 S.bs.length c2, .int .i64 (S.sp : Int)] 29)).alloc (.cells #[.int .u64 (lo X), .int .u64 (hi X)] 39)) 29 [.slice none 0 0, .slice none 0 0, .int .i64 0]).at_ (by simp))
  have B0 := hide (show Below w.heap.size w W0 by rw [← hW0]; exact below3 w _ _ _)
  have Z0 := hide (show W0.heap.size = w.heap.size + 3 by rw [← hW0]; simp)
  clear hW0
  have cf := fun (W : World) => rright_stk (A1 := A1) (A2 := A2) (c1 := c1) (c2 := c2) off n W hok ho
  cases hf : fitB S off n with
  | false =>
    obtain ⟨hE, hR⟩ := store_no (X := X) hf
    have HE := hide hE
    have HR := hide hR
    rw [hf] at cf
    clear hf hE hR
    go_enter Try.func39, Try.ntmps39
    go_upto_region 1 with (fail)
    rw [HW0.out]
    have fX0 := RX0.out.cell (k := 0) rfl
    have fX1 := RX0.out.cell (k := 1) rfl
    have fX2 := RX0.out.cell (k := 2) rfl
    go_wp2_with fail
    refine (cf _).mono ?_
    rintro e w1 ⟨rfl, hb1⟩
    have RX2 := hide (RX0.out.call hb1)
    clear RX0
    have RV2 := hide (RV0.out.call hb1)
    clear RV0
    have RZ2 := hide (RZ0.out.call hb1)
    clear RZ0
    have B2 := hide (below_call B0.out hb1)
    clear B0
    clear hb1
    clear fX0 fX1 fX2
    have fX0 := RX2.out.cell (k := 0) rfl
    have fX1 := RX2.out.cell (k := 1) rfl
    have fX2 := RX2.out.cell (k := 2) rfl
    have fZ0 := RZ2.out.cell (k := 0) rfl
    have fZ1 := RZ2.out.cell (k := 1) rfl
    have fZ2 := RZ2.out.cell (k := 2) rfl
    have yZ0 := RZ2.out.free 0
    have yZ1 := RZ2.out.free 1
    have yZ2 := RZ2.out.free 2
    go_wp2_with fail
    obtain ⟨W3, hW3⟩ : ∃ W, ((w1.setCell ⟨w.heap.size + 2, 0, none⟩ (.slice A1 S.bs.length c1)).setCell ⟨w.heap.size + 2, 1, none⟩ (.slice A2 S.bs.length c2)).setCell ⟨w.heap.size + 2, 2, none⟩ (.int .i64 (S.sp : Int)) = W := ⟨_, rfl⟩
    have HW3 := hide hW3
    have RZ3 := hide (show Row W3 (w.heap.size + 2) 29 [.slice A1 S.bs.length c1, .slice A2 S.bs.length c2, .int .i64 (S.sp : Int)] by rw [← hW3]; exact (((RZ2.out).set_ 0 _).set_ 1 _).set_ 2 _)
    have RX3 := hide (show Row W3 (w.heap.size) 29 [.slice A1 S.bs.length c1, .slice A2 S.bs.length c2, .int .i64 (S.sp : Int)] by rw [← hW3]; exact (((RX2.out).far (p := ⟨w.heap.size + 2, 0, none⟩) (by simp) _).far (p := ⟨w.heap.size + 2, 1, none⟩) (by simp) _).far (p := ⟨w.heap.size + 2, 2, none⟩) (by simp) _)
    clear RX2
    have RV3 := hide (show Row W3 (w.heap.size + 1) 39 [.int .u64 (lo X), .int .u64 (hi X)] by rw [← hW3]; exact (((RV2.out).far (p := ⟨w.heap.size + 2, 0, none⟩) (by simp) _).far (p := ⟨w.heap.size + 2, 1, none⟩) (by simp) _).far (p := ⟨w.heap.size + 2, 2, none⟩) (by simp) _)
    clear RV2
    have B3 := hide (show Below w.heap.size w W3 by rw [← hW3]; exact below_put (below_put (below_put (B2.out) (by omega)) (by omega)) (by omega))
    clear hW3 RZ2
    clear fX0 fX1 fX2 fZ0 fZ1 fZ2 yZ0 yZ1 yZ2
    have fZ0 := RZ3.out.cell (k := 0) rfl
    have fZ1 := RZ3.out.cell (k := 1) rfl
    have fZ2 := RZ3.out.cell (k := 2) rfl
    rw [HW3.out]
    refine bodyPost_ret (v := .tuple #[.agg #[.slice A1 S.bs.length c1, .slice A2 S.bs.length c2, .int .i64 (S.sp : Int)], .int .i64 4]) (by simp [results, Try.results39, go_sem, fZ0, fZ1, fZ2]) rfl ?_
    exact ⟨A1, c1, A2, c2, by rw [HE.out, HR.out], by rw [HR.out]; exact hS.out.up B3.out, B3.out, fun h => by rw [HE.out] at h; exact absurd h (by decide)⟩
  | true =>
    obtain ⟨o, m, rfl, rfl, hm0, hm16, hfit⟩ := fit_nat hf
    obtain ⟨hE, hR⟩ := store_yes (X := X) hf
    have HE := hide hE
    have HR := hide hR
    rw [hf] at cf
    have cb := rbytes_any X (m : Int)
    rw [show szN (m : Int) = m from by have := szN_yes (fitB_iff.1 hf).1; omega] at cb
    clear hf hE hR
    have cc := fun (W : World) (hS0 : StkAt W W.heap.size A1 c1 A2 c2 S) => rcopy_any A1 S.bs.length c1 A2 c2 (S.sp : Int) S.bs S.us W (hide hS0.k1) (hide hS0.k2) hm1 hm2 hmost (hide rfl) (hide hS0.ok.len) (hide hS0.s1) (hide hS0.s2)
    go_enter Try.func39, Try.ntmps39
    go_upto_region 1 with (fail)
    rw [HW0.out]
    have fX0 := RX0.out.cell (k := 0) rfl
    have fX1 := RX0.out.cell (k := 1) rfl
    have fX2 := RX0.out.cell (k := 2) rfl
    go_wp2_with fail
    refine (cf _).mono ?_
    rintro e w1 ⟨rfl, hb1⟩
    have RX2 := hide (RX0.out.call hb1)
    clear RX0
    have RV2 := hide (RV0.out.call hb1)
    clear RV0
    have RZ2 := hide (RZ0.out.call hb1)
    clear RZ0
    have B2 := hide (below_call B0.out hb1)
    clear B0
    clear hb1
    clear fX0 fX1 fX2
    have fX0 := RX2.out.cell (k := 0) rfl
    have fX1 := RX2.out.cell (k := 1) rfl
    have fX2 := RX2.out.cell (k := 2) rfl
    go_wp2_with fail
    have hbs := hide (show w.heap.size + 3 ≤ w1.heap.size by have := RZ2.out.lt; omega)
    refine (cc _ (hS.out.up B2.out)).mono ?_
    rintro e w3 ⟨a1, k1, a2, k2, rfl, o1, o2, hb3⟩
    have RX4 := hide (RX2.out.call hb3)
    clear RX2
    have RV4 := hide (RV2.out.call hb3)
    clear RV2
    have RZ4 := hide (RZ2.out.call hb3)
    clear RZ2
    have B4 := hide (below_call B2.out hb3)
    clear B2
    clear hb3
    have O13 := hide (own_raise o1 (show w.heap.size + 3 ≤ w1.heap.size + 2 by have := hbs.out; omega))
    have O23 := hide (own_raise o2 (show w.heap.size + 3 ≤ w1.heap.size + 2 by have := hbs.out; omega))
    clear o1 o2
    obtain ⟨b1, q1, hv, hbb1, hblt1, hnk1, _⟩ := own_block O13.out (show 0 < S.bs.length by omega)
    injection hv with hv1 hv2 hv3
    subst hv1 hv3
    clear hv2
    obtain ⟨b2, q2, hv, hbb2, hblt2, hnk2, _⟩ := own_block O23.out (show 0 < S.bs.length by omega)
    injection hv with hv1 hv2 hv3
    subst hv1 hv3
    clear hv2
    have DZ := hide (show w.heap.size + 2 < w3.heap.size from RZ4.out.lt)
    clear fX0 fX1 fX2
    go_upto_region 4 with (fail)
    obtain ⟨W5, hW5⟩ : ∃ W, w3.alloc (.cells #[.slice (some ⟨b1, 0, none⟩) S.bs.length k1, .slice (some ⟨b2, 0, none⟩) S.bs.length k2, .int .i64 (S.sp : Int)] 29) = W := ⟨_, rfl⟩
    have HW5 := hide hW5
    have RX5 := hide (show Row W5 (w.heap.size) 29 [.slice A1 S.bs.length c1, .slice A2 S.bs.length c2, .int .i64 (S.sp : Int)] by rw [← hW5]; exact RX4.out.alloc _)
    clear RX4
    have RV5 := hide (show Row W5 (w.heap.size + 1) 39 [.int .u64 (lo X), .int .u64 (hi X)] by rw [← hW5]; exact RV4.out.alloc _)
    clear RV4
    have RZ5 := hide (show Row W5 (w.heap.size + 2) 29 [.slice none 0 0, .slice none 0 0, .int .i64 0] by rw [← hW5]; exact RZ4.out.alloc _)
    clear RZ4
    have RY5 := hide (show Row W5 (w3.heap.size) 29 [.slice (some ⟨b1, 0, none⟩) S.bs.length k1, .slice (some ⟨b2, 0, none⟩) S.bs.length k2, .int .i64 (S.sp : Int)] by rw [← hW5]; exact Row.new w3 _ _)
    have O15 := hide (show W5.ownsRow (w.heap.size + 3) 5 1 (.slice (some ⟨b1, 0, none⟩) S.bs.length k1) S.bs.length (cellsU8 S.bs) by rw [← hW5]; exact own_below O13.out (below1 _ _))
    clear O13
    have O25 := hide (show W5.ownsRow (w.heap.size + 3) 4 1 (.slice (some ⟨b2, 0, none⟩) S.bs.length k2) S.bs.length (cellsB S.us) by rw [← hW5]; exact own_below O23.out (below1 _ _))
    clear O23
    have L5 := hide (show w3.heap.size < W5.heap.size by rw [← hW5]; simp)
    have G5 := hide B4.out.size
    have B5 := hide (show Below w.heap.size w W5 by rw [← hW5]; exact B4.out.alloc B4.out.size _)
    clear hW5
    rw [HW5.out]
    have fX0 := RX5.out.cell (k := 0) rfl
    have fX1 := RX5.out.cell (k := 1) rfl
    have fX2 := RX5.out.cell (k := 2) rfl
    have fY0 := RY5.out.cell (k := 0) rfl
    have fY1 := RY5.out.cell (k := 1) rfl
    have fY2 := RY5.out.cell (k := 2) rfl
    have fV0 := RV5.out.cell (k := 0) rfl
    have fV1 := RV5.out.cell (k := 1) rfl
    go_wp2_with fail
    go_fit (cb _ hX)
    rintro e w6 ⟨r5, rfl, ho5, hb6⟩
    have RX7 := hide (RX5.out.call hb6)
    clear RX5
    have RV7 := hide (RV5.out.call hb6)
    clear RV5
    have RZ7 := hide (RZ5.out.call hb6)
    clear RZ5
    have RY7 := hide (RY5.out.call hb6)
    clear RY5
    have O17 := hide (own_below O15.out hb6)
    clear O15
    have O27 := hide (own_below O25.out hb6)
    clear O25
    have B7 := hide (below_call B5.out hb6)
    clear B5
    clear hb6
    obtain ⟨b3, k3, hr5, hbb3, hblt3, hnk3, _⟩ := own_block ho5 (by omega)
    subst hr5
    have O3 := hide ho5
    clear ho5
    clear fX0 fX1 fX2 fY0 fY1 fY2 fV0 fV1
    have fX0 := RX7.out.cell (k := 0) rfl
    have fX1 := RX7.out.cell (k := 1) rfl
    have fX2 := RX7.out.cell (k := 2) rfl
    have fY0 := RY7.out.cell (k := 0) rfl
    have fY1 := RY7.out.cell (k := 1) rfl
    have fY2 := RY7.out.cell (k := 2) rfl
    go_wp2_with fail
    go_loopw [12] (fun i wr => StRel S A1 c1 A2 c2 b1 k1 b2 k2 b3 k3 W5.heap.size (bytesV X m) w w3.heap.size (S.sp + o) m i wr) (fun i _ => m - (intOf i).toNat)
    case atStart =>
      refine ⟨0, by omega, rfl, RX7, RZ7, RY7, hide ?_, hide ?_, O3, B7⟩
      · rw [List.take_zero, splice_none _ _ (by rw [cellsU8_length]; omega)]; exact O17.out
      · rw [List.take_zero, splice_none _ _ (by rw [cellsB_length, hok.out.len]; omega)]; exact O27.out
    case round =>
      obtain ⟨k, hk, rfl, RX, RZ, RY, P1, P2, P3, BB⟩ := hrel
      clear fX0 fX1 fX2 fY0 fY1 fY2 RX7 RZ7 RY7 RV7 O17 O27 B7 O3
      by_cases hlt : k < m
      · have fX0 := RX.out.cell (k := 0) rfl
        have fX1 := RX.out.cell (k := 1) rfl
        have fX2 := RX.out.cell (k := 2) rfl
        have fY0 := RY.out.cell (k := 0) rfl
        have fY1 := RY.out.cell (k := 1) rfl
        have fY2 := RY.out.cell (k := 2) rfl
        have hlen1 := hide P1.out.1
        have hlen2 := hide P2.out.1
        have hw1 : (wr.cell? ⟨b1, S.sp + o + k, none⟩).isSome = true := by rw [P1.out.cellAt (S.sp + o + k) (by omega), List.getElem?_eq_getElem (by rw [hlen1.out]; omega)]; rfl
        obtain ⟨u1, hw1⟩ := Option.isSome_iff_exists.1 hw1
        have hw2 : (wr.cell? ⟨b2, S.sp + o + k, none⟩).isSome = true := by rw [P2.out.cellAt (S.sp + o + k) (by omega), List.getElem?_eq_getElem (by rw [hlen2.out]; omega)]; rfl
        obtain ⟨u2, hw2⟩ := Option.isSome_iff_exists.1 hw2
        have hf1 : wr.frozen? ⟨b1, S.sp + o + k, none⟩ = false := P1.out.frozenAt (S.sp + o + k)
        have hf2 : wr.frozen? ⟨b2, S.sp + o + k, none⟩ = false := P2.out.frozenAt (S.sp + o + k)
        obtain ⟨z, hz⟩ : ∃ z, (bytesV X m)[k]? = some z := ⟨_, List.getElem?_eq_getElem (by rw [bytesV_length]; exact hlt)⟩
        have hzc : (cellsU8 (bytesV X m))[k]? = some (.int .u8 z) := by simp [cellsU8, List.getElem?_map, hz]
        have HZC := hide hzc
        have h3 : wr.cell? ⟨b3, k, none⟩ = some (.int .u8 z) := by rw [P3.out.cellAt k (by omega)]; exact hzc
        have hzb := bytesV_mem X m z (List.mem_of_getElem? hz)
        clear hz hzc
        have h12 := hide (show b1 ≠ b2 from fun h => by exact (kown_apart P1.out P2.out (by decide)).elim (fun h1 => by simp [Value.ownBlock] at h1) (fun h1 => h1 (by simp [Value.ownBlock, h])))
        have g12 : ¬ (b1 = b2) := h12.out
        have hwr : IntKind.i64.wrap ((S.sp : Int) + (o : Int)) = (S.sp : Int) + (o : Int) := by rw [IntKind.wrap_i64]; omega
        have hwm : IntKind.i64.wrap ((S.sp : Int) + (o : Int) + (k : Int)) = (S.sp : Int) + (o : Int) + (k : Int) := by rw [IntKind.wrap_i64]; omega
        have hb0 : (0 : Int) ≤ (S.sp : Int) + (o : Int) + (k : Int) := by omega
        have hb1 : (S.sp : Int) + (o : Int) + (k : Int) < (S.bs.length : Int) := by omega
        have ht1 : ((S.sp : Int) + (o : Int) + (k : Int)).toNat = S.sp + o + k := by omega
        go_upto_region 8 with (fail)
        go_region
        clear hw1 hw2 hf1 hf2 h3
        go_wp2_with fail
        have s1 := P1.out.stored (S.sp + o + k) (.int .u8 z)
        rw [splice_step _ _ _ _ (Value.int .u8 z) (by rw [cellsU8_length, cellsU8_length, bytesV_length]; omega) HZC.out] at s1
        have s2 := (P2.out.kept s1.2 (.inr (by simp [Value.ownBlock]; exact fun h => g12 h.symm))).stored (S.sp + o + k) (.bool true)
        rw [splice_step _ _ _ _ (Value.bool true) (by rw [cellsB_length, hok.out.len]; simp; omega) (by rw [List.getElem?_replicate]; simp [hlt])] at s2
        have n1 := ownrow_ne P1.out RY.out (by decide)
        have n2 := ownrow_ne P2.out RY.out (by decide)
        have n3 : (Value.slice (some ⟨b3, 0, none⟩) m k3).ownBlock = none ∨ (Value.slice (some ⟨b3, 0, none⟩) m k3).ownBlock ≠ some b1 := by right; have := L5.out; simp [Value.ownBlock]; omega
        have n4 : (Value.slice (some ⟨b3, 0, none⟩) m k3).ownBlock = none ∨ (Value.slice (some ⟨b3, 0, none⟩) m k3).ownBlock ≠ some b2 := by right; have := L5.out; simp [Value.ownBlock]; omega
        refine ⟨⟨k + 1, by omega, by go_num, ?_, ?_, ?_, ?_, ?_, ?_, ?_⟩, by simp [intOf]; omega⟩
        · exact hide (((RX.out.far (p := ⟨b1, S.sp + o + k, none⟩) (by simp; omega) _).far (p := ⟨b2, S.sp + o + k, none⟩) (by simp; omega) _).drew)
        · exact hide (((RZ.out.far (p := ⟨b1, S.sp + o + k, none⟩) (by simp; omega) _).far (p := ⟨b2, S.sp + o + k, none⟩) (by simp; omega) _).drew)
        · exact hide (((RY.out.far (p := ⟨b1, S.sp + o + k, none⟩) (fun h => n1 (by rw [h]; rfl)) _).far (p := ⟨b2, S.sp + o + k, none⟩) (fun h => n2 (by rw [h]; rfl)) _).drew)
        · exact hide (own_draws (s1.1.kept s2.2 (.inr (by simp [Value.ownBlock]; exact g12))) 1)
        · exact hide (own_draws s2.1 1)
        · exact hide (own_draws ((P3.out.kept s1.2 n3).kept s2.2 n4) 1)
        · exact hide (below_draws ((BB.out.setCell (p := ⟨b1, S.sp + o + k, none⟩) (by simp; omega) _).setCell (p := ⟨b2, S.sp + o + k, none⟩) (by simp; omega) _) 1)
      · obtain rfl : k = m := by omega
        rw [List.take_of_length_le (by rw [cellsU8_length, bytesV_length]; omega)] at P1
        rw [List.take_of_length_le (by simp)] at P2
        have fX0 := RX.out.cell (k := 0) rfl
        have fX1 := RX.out.cell (k := 1) rfl
        have fX2 := RX.out.cell (k := 2) rfl
        have fY0 := RY.out.cell (k := 0) rfl
        have fY1 := RY.out.cell (k := 1) rfl
        have fY2 := RY.out.cell (k := 2) rfl
        have PL := hide (put_len (S := S) (a := S.sp + o) (zs := bytesV X k) (by rw [bytesV_length]; exact hfit))
        have PS := hide (show (storeS S (S.sp + o) k X).bs.length = S.bs.length from PL.out)
        have OK := hide (hok.out.store (X := X) (a := S.sp + o) (n := k) hfit)
        clear fX0 fX1 fX2 fY0 fY1 fY2
        have fX0 := RX.out.cell (k := 0) rfl
        have fX1 := RX.out.cell (k := 1) rfl
        have fX2 := RX.out.cell (k := 2) rfl
        have fY0 := RY.out.cell (k := 0) rfl
        have fY1 := RY.out.cell (k := 1) rfl
        have fY2 := RY.out.cell (k := 2) rfl
        have fZ0 := RZ.out.cell (k := 0) rfl
        have fZ1 := RZ.out.cell (k := 1) rfl
        have fZ2 := RZ.out.cell (k := 2) rfl
        have yZ0 := RZ.out.free 0
        have yZ1 := RZ.out.free 1
        have yZ2 := RZ.out.free 2
        go_wp2_with fail
        obtain ⟨W8, hW8⟩ : ∃ W, ((wr.setCell ⟨w.heap.size + 2, 0, none⟩ (.slice (some ⟨b1, 0, none⟩) S.bs.length k1)).setCell ⟨w.heap.size + 2, 1, none⟩ (.slice (some ⟨b2, 0, none⟩) S.bs.length k2)).setCell ⟨w.heap.size + 2, 2, none⟩ (.int .i64 (S.sp : Int)) = W := ⟨_, rfl⟩
        have HW8 := hide hW8
        have RZ8 := hide (show Row W8 (w.heap.size + 2) 29 [.slice (some ⟨b1, 0, none⟩) S.bs.length k1, .slice (some ⟨b2, 0, none⟩) S.bs.length k2, .int .i64 (S.sp : Int)] by rw [← hW8]; exact (((RZ.out).set_ 0 _).set_ 1 _).set_ 2 _)
        have RX8 := hide (show Row W8 (w.heap.size) 29 [.slice A1 S.bs.length c1, .slice A2 S.bs.length c2, .int .i64 (S.sp : Int)] by rw [← hW8]; exact (((RX.out).far (p := ⟨w.heap.size + 2, 0, none⟩) (by have := DZ.out; simp <;> omega) _).far (p := ⟨w.heap.size + 2, 1, none⟩) (by have := DZ.out; simp <;> omega) _).far (p := ⟨w.heap.size + 2, 2, none⟩) (by have := DZ.out; simp <;> omega) _)
        clear RX
        have RY8 := hide (show Row W8 (w3.heap.size) 29 [.slice (some ⟨b1, 0, none⟩) S.bs.length k1, .slice (some ⟨b2, 0, none⟩) S.bs.length k2, .int .i64 (S.sp : Int)] by rw [← hW8]; exact (((RY.out).far (p := ⟨w.heap.size + 2, 0, none⟩) (by have := DZ.out; simp <;> omega) _).far (p := ⟨w.heap.size + 2, 1, none⟩) (by have := DZ.out; simp <;> omega) _).far (p := ⟨w.heap.size + 2, 2, none⟩) (by have := DZ.out; simp <;> omega) _)
        clear RY
        have O18 := hide (show W8.ownsRow (w.heap.size + 3) 5 1 (.slice (some ⟨b1, 0, none⟩) S.bs.length k1) S.bs.length (splice (cellsU8 S.bs) (S.sp + o) (cellsU8 (bytesV X k))) by rw [← hW8]; exact own_put (own_put (own_put (P1.out) (by omega)) (by omega)) (by omega))
        clear P1
        have O28 := hide (show W8.ownsRow (w.heap.size + 3) 4 1 (.slice (some ⟨b2, 0, none⟩) S.bs.length k2) S.bs.length (splice (cellsB S.us) (S.sp + o) (List.replicate k (Value.bool true))) by rw [← hW8]; exact own_put (own_put (own_put (P2.out) (by omega)) (by omega)) (by omega))
        clear P2
        have B8 := hide (show Below w.heap.size w W8 by rw [← hW8]; exact below_put (below_put (below_put (BB.out) (by omega)) (by omega)) (by omega))
        clear hW8 RZ
        clear fX0 fX1 fX2 fY0 fY1 fY2 fZ0 fZ1 fZ2 yZ0 yZ1 yZ2
        have fZ0 := RZ8.out.cell (k := 0) rfl
        have fZ1 := RZ8.out.cell (k := 1) rfl
        have fZ2 := RZ8.out.cell (k := 2) rfl
        rw [HW8.out]
        refine bodyPost_ret (v := .tuple #[.agg #[.slice (some ⟨b1, 0, none⟩) S.bs.length k1, .slice (some ⟨b2, 0, none⟩) S.bs.length k2, .int .i64 (S.sp : Int)], .int .i64 0]) (by simp [results, Try.results39, go_sem, fZ0, fZ1, fZ2]) rfl ?_
        exact ⟨some ⟨b1, 0, none⟩, k1, some ⟨b2, 0, none⟩, k2, by rw [HE.out, HR.out]; show _ = Ending.returned (.tuple #[kv (some ⟨b1, 0, none⟩) (storeS S (S.sp + o) k X).bs.length k1 (some ⟨b2, 0, none⟩) (storeS S (S.sp + o) k X).bs.length k2 (S.sp : Int), _]); rw [PS.out], by rw [HR.out]; exact StkOwn.at_ ⟨OK.out, (by rw [PS.out, show (storeS S (S.sp + o) k X).bs = splice S.bs (S.sp + o) (bytesV X k) from rfl, cellsU8_splice]; exact O18.out), (by rw [PS.out, show (storeS S (S.sp + o) k X).us = splice S.us (S.sp + o) (List.replicate (bytesV X k).length true) from rfl, cellsB_splice, cellsB_all, bytesV_length]; exact O28.out)⟩, B8.out, fun _ => by rw [HR.out]; exact ⟨OK.out, own_raise (base := w.heap.size + 3) (by rw [PS.out, show (storeS S (S.sp + o) k X).bs = splice S.bs (S.sp + o) (bytesV X k) from rfl, cellsU8_splice]; exact O18.out) (by omega), own_raise (base := w.heap.size + 3) (by rw [PS.out, show (storeS S (S.sp + o) k X).us = splice S.us (S.sp + o) (List.replicate (bytesV X k).length true) from rfl, cellsB_splice, cellsB_all, bytesV_length]; exact O28.out) (by omega)⟩⟩

theorem rstore_any {A1 A2 : Option Addr} {c1 c2 : Nat} {S : Sk} (off n : Int) (X : Nat) (hX : X < two128) (ho : isI off) (w : World) (hS : Hid (StkAt w w.heap.size A1 c1 A2 c2 S)) :
    Calls Try.prog 39 #[sv A1 c1 A2 c2 S, .int .i64 off, .int .i64 n, vv X] w (StkPost (storeR S off n X) (fitE S off n) w) :=
  (rstore_own off n X hX ho w hS).mono fun _ _ h => h.to_
end Go.Proofs.Ytipjeihfhnilcaa
end
