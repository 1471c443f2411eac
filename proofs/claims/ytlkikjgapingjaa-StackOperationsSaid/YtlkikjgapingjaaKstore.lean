/-
  The contracts of stack.Store and Move: the stack behind each, or the stack as it was with the error. Conditions: those of the types; the stack is one for which Check is true.
-/
import Derived.Test.YtlkikjgapingjaaKwrite
import Derived.Test.YtlkikjgapingjaaKload
import Derived.Test.YtlkikjgapingjaaVbytes
import Derived.Deep.DeepFit
namespace Go.Proofs.Ytlkikjgapingjaa
open Go.RowKit
attribute [local go_sem ↓] Go.wp_at_zero Go.wp_at_succ

def storeR (S : Sk) (off n : Int) (X : Nat) : Sk := if fitB S off n = true then storeS S ((S.sp : Int) + off).toNat n.toNat X else S
def moveB (S : Sk) (dst src n : Int) : Bool := fitB S dst n && loadB S src n
def moveE (S : Sk) (dst src n : Int) : Int := if (fitB S dst n && fitB S src n) = true then 0 else 4
def moveR (S : Sk) (dst src n : Int) : Sk := if moveB S dst src n = true then putS S ((S.sp : Int) + dst).toNat (cutS S ((S.sp : Int) + src).toNat n.toNat) else S
theorem store_no {S : Sk} {off n : Int} {X : Nat} (h : fitB S off n = false) : fitE S off n = 4 ∧ storeR S off n X = S := by simp [fitE, storeR, h]
theorem store_yes {S : Sk} {off n X : Nat} (h : fitB S off n = true) : fitE S off n = 0 ∧ storeR S off n X = storeS S (S.sp + off) n X := by
  have e : ((S.sp : Int) + (off : Int)).toNat = S.sp + off := by omega
  exact ⟨by simp [fitE, h], by simp only [storeR, h, if_true, e, Int.toNat_natCast]⟩
theorem drew_k (W : World) (B : Nat) : Below B W W.drew := below_draws (Below.refl _ _) 1
theorem drewN_k (W : World) (B k : Nat) : Below B W (W.drewN k) := below_draws (Below.refl _ _) k

set_option maxRecDepth 100000 in
set_option maxHeartbeats 4000000 in
theorem store_any {A1 A2 : Option Addr} {c1 c2 : Nat} {S : Sk} (off n : Int) (X : Nat) (hX : X < two128) (w : World) (hS : Hid (StkAt w w.heap.size A1 c1 A2 c2 S)) :
    Calls Try.prog 18 #[sv A1 c1 A2 c2 S, .int .i64 off, .int .i64 n, vv X] w (StkPost (storeR S off n X) (fitE S off n) w) := by
  have hok := hide hS.out.ok
  have hmost := hS.out.ok.most
  have hsp := hS.out.ok.sp
  have hm1 := hS.out.m1
  have hm2 := hS.out.m2
  obtain ⟨W0, hW0⟩ : ∃ W, ((w.alloc (.cells #[.slice A1 S.bs.length c1, .slice A2 S.bs.length c2, .int .i64 (S.sp : Int)] 25)).alloc (.cells #[.int .u64 (lo X), .int .u64 (hi X)] 42)).alloc (.cells #[.slice none 0 0, .slice none 0 0, .int .i64 0] 25) = W := ⟨_, rfl⟩
  have HW0 := hide hW0
  have RX0 := hide (show Row W0 (w.heap.size) 25 [.slice A1 S.bs.length c1, .slice A2 S.bs.length c2, .int .i64 (S.sp : Int)] by rw [← hW0]; exact (((Row.new w 25 [.slice A1 S.bs.length c1, .slice A2 S.bs.length c2, .int .i64 (S.sp : Int)]).alloc _).alloc _))
  have RV0 := hide (show Row W0 (w.heap.size + 1) 42 [.int .u64 (lo X), .int .u64 (hi X)] by rw [← hW0]; exact ((Row.new (w.alloc (.cells #[.slice A1 S.bs.length c1, .slice A2 S.bs.length c2, .int .i64 (S.sp : Int)] 25)) 42 [.int .u64 (lo X), .int .u64 (hi X)]).alloc _).at_ (by simp))
  have RZ0 := hide (show Row W0 (w.heap.size + 2) 25 [.slice none 0 0, .slice none 0 0, .int .i64 0] by rw [← hW0]; exact (Row.new ((w.alloc (.cells #[.slice A1 S.bs.length c1, .slice A2 S.bs.length c2, .int .i64 (S.sp : Int)] 25)).alloc (.cells #[.int .u64 (lo X), .int .u64 (hi X)] 42)) 25 [.slice none 0 0, .slice none 0 0, .int .i64 0]).at_ (by simp))
  have B0 := hide (show Below w.heap.size w W0 by rw [← hW0]; exact below3 w _ _ _)
  have Z0 := hide (show W0.heap.size = w.heap.size + 3 by rw [← hW0]; simp)
  clear hW0
  have hS0 := hide ((hS.out.below B0.out).more B0.out.size)
  have cc := clone_any A1 S.bs.length c1 A2 c2 (S.sp : Int) S.bs S.us W0 (hide hS0.out.k1) (hide hS0.out.k2) hm1 hm2 hmost (hide rfl) (hide hS0.out.ok.len) (hide hS0.out.s1) (hide hS0.out.s2)
  go_enter Try.func18, Try.ntmps18
  go_upto_region 1 with (fail)
  rw [HW0.out]
  have fX0 := RX0.out.cell (k := 0) rfl
  have fX1 := RX0.out.cell (k := 1) rfl
  have fX2 := RX0.out.cell (k := 2) rfl
  go_wp2_with fail
  refine (cc).mono ?_
  rintro e w1 ⟨a1, k1, a2, k2, rfl, o1, o2, hb1⟩
  have RX2 := hide (RX0.out.call hb1)
  clear RX0
  have RV2 := hide (RV0.out.call hb1)
  clear RV0
  have RZ2 := hide (RZ0.out.call hb1)
  clear RZ0
  have B2 := hide (below_call B0.out hb1)
  clear B0
  clear hb1
  have O11 := hide (own_raise o1 (show w.heap.size + 3 ≤ W0.heap.size + 2 by have := Z0.out; omega))
  have O21 := hide (own_raise o2 (show w.heap.size + 3 ≤ W0.heap.size + 2 by have := Z0.out; omega))
  clear o1 o2
  clear fX0 fX1 fX2
  have fX0 := RX2.out.cell (k := 0) rfl
  have fX1 := RX2.out.cell (k := 1) rfl
  have fX2 := RX2.out.cell (k := 2) rfl
  have yX0 := RX2.out.free 0
  have yX1 := RX2.out.free 1
  have yX2 := RX2.out.free 2
  obtain ⟨W3, hW3⟩ : ∃ W, ((w1.setCell ⟨w.heap.size, 0, none⟩ (.slice a1 S.bs.length k1)).setCell ⟨w.heap.size, 1, none⟩ (.slice a2 S.bs.length k2)).setCell ⟨w.heap.size, 2, none⟩ (.int .i64 (S.sp : Int)) = W := ⟨_, rfl⟩
  have HW3 := hide hW3
  have RX3 := hide (show Row W3 (w.heap.size) 25 [.slice a1 S.bs.length k1, .slice a2 S.bs.length k2, .int .i64 (S.sp : Int)] by rw [← hW3]; exact (((RX2.out).set_ 0 _).set_ 1 _).set_ 2 _)
  have RV3 := hide (show Row W3 (w.heap.size + 1) 42 [.int .u64 (lo X), .int .u64 (hi X)] by rw [← hW3]; exact (((RV2.out).far (p := ⟨w.heap.size, 0, none⟩) (by simp) _).far (p := ⟨w.heap.size, 1, none⟩) (by simp) _).far (p := ⟨w.heap.size, 2, none⟩) (by simp) _)
  clear RV2
  have RZ3 := hide (show Row W3 (w.heap.size + 2) 25 [.slice none 0 0, .slice none 0 0, .int .i64 0] by rw [← hW3]; exact (((RZ2.out).far (p := ⟨w.heap.size, 0, none⟩) (by simp) _).far (p := ⟨w.heap.size, 1, none⟩) (by simp) _).far (p := ⟨w.heap.size, 2, none⟩) (by simp) _)
  clear RZ2
  have O13 := hide (show W3.ownsRow (w.heap.size + 3) 5 1 (.slice a1 S.bs.length k1) S.bs.length (cellsU8 S.bs) by rw [← hW3]; exact own_put (own_put (own_put (O11.out) (by omega)) (by omega)) (by omega))
  clear O11
  have O23 := hide (show W3.ownsRow (w.heap.size + 3) 4 1 (.slice a2 S.bs.length k2) S.bs.length (cellsB S.us) by rw [← hW3]; exact own_put (own_put (own_put (O21.out) (by omega)) (by omega)) (by omega))
  clear O21
  have B3 := hide (show Below w.heap.size w W3 by rw [← hW3]; exact below_put (below_put (below_put (B2.out) (by omega)) (by omega)) (by omega))
  clear hW3 RX2
  cases hf : fitB S off n with
  | false =>
    obtain ⟨hE, hR⟩ := store_no (X := X) hf
    have HE := hide hE
    have HR := hide hR
    have cf := fun (W : World) => fits_any (A1 := a1) (A2 := a2) (c1 := k1) (c2 := k2) off n W hok
    rw [hf] at cf
    clear hf hE hR
    go_upto_region 2 with (fail)
    rw [HW3.out]
    clear fX0 fX1 fX2 yX0 yX1 yX2
    have fX0 := RX3.out.cell (k := 0) rfl
    have fX1 := RX3.out.cell (k := 1) rfl
    have fX2 := RX3.out.cell (k := 2) rfl
    go_wp2_with fail
    refine (cf _).mono ?_
    rintro e w4 ⟨rfl, hb4⟩
    have RX5 := hide (RX3.out.call hb4)
    clear RX3
    have RV5 := hide (RV3.out.call hb4)
    clear RV3
    have RZ5 := hide (RZ3.out.call hb4)
    clear RZ3
    have O15 := hide (own_below O13.out hb4)
    clear O13
    have O25 := hide (own_below O23.out hb4)
    clear O23
    have B5 := hide (below_call B3.out hb4)
    clear B3
    clear hb4
    clear fX0 fX1 fX2
    have fX0 := RX5.out.cell (k := 0) rfl
    have fX1 := RX5.out.cell (k := 1) rfl
    have fX2 := RX5.out.cell (k := 2) rfl
    have fZ0 := RZ5.out.cell (k := 0) rfl
    have fZ1 := RZ5.out.cell (k := 1) rfl
    have fZ2 := RZ5.out.cell (k := 2) rfl
    have yZ0 := RZ5.out.free 0
    have yZ1 := RZ5.out.free 1
    have yZ2 := RZ5.out.free 2
    go_wp2_with fail
    obtain ⟨W6, hW6⟩ : ∃ W, ((w4.setCell ⟨w.heap.size + 2, 0, none⟩ (.slice a1 S.bs.length k1)).setCell ⟨w.heap.size + 2, 1, none⟩ (.slice a2 S.bs.length k2)).setCell ⟨w.heap.size + 2, 2, none⟩ (.int .i64 (S.sp : Int)) = W := ⟨_, rfl⟩
    have HW6 := hide hW6
    have RZ6 := hide (show Row W6 (w.heap.size + 2) 25 [.slice a1 S.bs.length k1, .slice a2 S.bs.length k2, .int .i64 (S.sp : Int)] by rw [← hW6]; exact (((RZ5.out).set_ 0 _).set_ 1 _).set_ 2 _)
    have RX6 := hide (show Row W6 (w.heap.size) 25 [.slice a1 S.bs.length k1, .slice a2 S.bs.length k2, .int .i64 (S.sp : Int)] by rw [← hW6]; exact (((RX5.out).far (p := ⟨w.heap.size + 2, 0, none⟩) (by simp) _).far (p := ⟨w.heap.size + 2, 1, none⟩) (by simp) _).far (p := ⟨w.heap.size + 2, 2, none⟩) (by simp) _)
    clear RX5
    have RV6 := hide (show Row W6 (w.heap.size + 1) 42 [.int .u64 (lo X), .int .u64 (hi X)] by rw [← hW6]; exact (((RV5.out).far (p := ⟨w.heap.size + 2, 0, none⟩) (by simp) _).far (p := ⟨w.heap.size + 2, 1, none⟩) (by simp) _).far (p := ⟨w.heap.size + 2, 2, none⟩) (by simp) _)
    clear RV5
    have O16 := hide (show W6.ownsRow (w.heap.size + 3) 5 1 (.slice a1 S.bs.length k1) S.bs.length (cellsU8 S.bs) by rw [← hW6]; exact own_put (own_put (own_put (O15.out) (by omega)) (by omega)) (by omega))
    clear O15
    have O26 := hide (show W6.ownsRow (w.heap.size + 3) 4 1 (.slice a2 S.bs.length k2) S.bs.length (cellsB S.us) by rw [← hW6]; exact own_put (own_put (own_put (O25.out) (by omega)) (by omega)) (by omega))
    clear O25
    have B6 := hide (show Below w.heap.size w W6 by rw [← hW6]; exact below_put (below_put (below_put (B5.out) (by omega)) (by omega)) (by omega))
    clear hW6 RZ5
    clear fX0 fX1 fX2 fZ0 fZ1 fZ2 yZ0 yZ1 yZ2
    have fZ0 := RZ6.out.cell (k := 0) rfl
    have fZ1 := RZ6.out.cell (k := 1) rfl
    have fZ2 := RZ6.out.cell (k := 2) rfl
    rw [HW6.out]
    refine bodyPost_ret (v := .tuple #[.agg #[.slice a1 S.bs.length k1, .slice a2 S.bs.length k2, .int .i64 (S.sp : Int)], .int .i64 4]) (by simp [results, Try.results18, go_sem, fZ0, fZ1, fZ2]) rfl ?_
    exact ⟨a1, k1, a2, k2, by rw [HE.out, HR.out], by rw [HR.out]; exact StkOwn.put_ hok.out O16.out O26.out, B6.out⟩
  | true =>
    obtain ⟨o, m, rfl, rfl, hm0, hm16, hfit⟩ := fit_nat hf
    obtain ⟨hE, hR⟩ := store_yes (X := X) hf
    have HE := hide hE
    have HR := hide hR
    have cf := fun (W : World) => fits_any (A1 := a1) (A2 := a2) (c1 := k1) (c2 := k2) (o : Int) (m : Int) W hok
    rw [hf] at cf
    have cb := bytes_any X (m : Int)
    rw [show szN (m : Int) = m from by have := szN_yes (fitB_iff.1 hf).1; omega] at cb
    clear hf hE hR
    go_upto_region 2 with (fail)
    rw [HW3.out]
    clear fX0 fX1 fX2 yX0 yX1 yX2
    have fX0 := RX3.out.cell (k := 0) rfl
    have fX1 := RX3.out.cell (k := 1) rfl
    have fX2 := RX3.out.cell (k := 2) rfl
    go_wp2_with fail
    refine (cf _).mono ?_
    rintro e w4 ⟨rfl, hb4⟩
    have RX5 := hide (RX3.out.call hb4)
    clear RX3
    have RV5 := hide (RV3.out.call hb4)
    clear RV3
    have RZ5 := hide (RZ3.out.call hb4)
    clear RZ3
    have O15 := hide (own_below O13.out hb4)
    clear O13
    have O25 := hide (own_below O23.out hb4)
    clear O23
    have B5 := hide (below_call B3.out hb4)
    clear B3
    clear hb4
    go_upto_region 4 with (fail)
    clear fX0 fX1 fX2
    have hbs := hide (show w.heap.size + 3 ≤ w4.heap.size by have := RZ5.out.lt; omega)
    have x0 := fun (w' : World) (hb : Below (w.heap.size + 3) w4 w') => (RX5.out.below hb (by omega)).cell (k := 0) rfl
    have x1 := fun (w' : World) (hb : Below (w.heap.size + 3) w4 w') => (RX5.out.below hb (by omega)).cell (k := 1) rfl
    have x2 := fun (w' : World) (hb : Below (w.heap.size + 3) w4 w') => (RX5.out.below hb (by omega)).cell (k := 2) rfl
    have v0 := fun (w' : World) (hb : Below (w.heap.size + 3) w4 w') => (RV5.out.below hb (by omega)).cell (k := 0) rfl
    have v1 := fun (w' : World) (hb : Below (w.heap.size + 3) w4 w') => (RV5.out.below hb (by omega)).cell (k := 1) rfl
    have OWN := hide (show StkOwn w4 (w.heap.size + 3) a1 k1 a2 k2 S 5 4 from ⟨hok.out, O15.out, O25.out⟩)
    have cw := fun (w5 : World) (A3 : Option Addr) (c3 B5 : Nat) (hb5 : Below w4.heap.size w4 w5) (ho5 : w5.ownsRow B5 5 1 (.slice A3 m c3) m (cellsU8 (bytesV X m))) => write_any (S.sp + o) m A3 c3 (w.heap.size + 3) (bytesV X m) w5 (hide (OWN.out.below hb5)) (hide (Sees.own ho5)) (hide (bytesV_length X m)) (hide (bytesV_mem X m)) hm0 hm16 hfit (Nat.le_trans hbs.out hb5.size)
    rw [show ((S.sp + o : Nat) : Int) = (S.sp : Int) + (o : Int) by omega] at cw
    have hwr : IntKind.i64.wrap ((S.sp : Int) + (o : Int)) = (S.sp : Int) + (o : Int) := by rw [IntKind.wrap_i64]; omega
    go_region_held3 (fun w' => Below (w.heap.size + 3) w4 w') (first | exact drew_k _ _ | exact drewN_k _ _ _ | exact bb)
      (first
        | (go_at_call 37; go_fit (cb _ hX); rintro e w5 ⟨r5, rfl, ho5, hb5⟩; have b5 := Below.trans (drewN_k w4 _ _) hb5; have bb := b5.mono hbs.out; obtain ⟨A3, c3, hr5, _⟩ := own_form ho5; subst hr5; clear hb5)
        | (go_at_call 36; go_fit (cw _ _ _ _ b5 ho5); rintro e w6 ⟨rfl, hO6, hB6⟩; have bb := bb.trans hB6; have HO6 := hide hO6; clear hO6 hB6))
    clear hwr x0 x1 x2 v0 v1 cb cw cf
    have RX9 := hide (RX5.out.below bb (show w.heap.size < (w.heap.size + 3) by omega))
    have RV9 := hide (RV5.out.below bb (show w.heap.size + 1 < (w.heap.size + 3) by omega))
    have RZ9 := hide (RZ5.out.below bb (show w.heap.size + 2 < (w.heap.size + 3) by omega))
    have B9 := hide (B5.out.trans (bb.mono (show w.heap.size ≤ (w.heap.size + 3) by omega)))
    have PL := hide (put_len (S := S) (a := S.sp + o) (zs := bytesV X m) (by rw [bytesV_length]; exact hfit))
    have O19 := hide (show w6.ownsRow (w.heap.size + 3) 5 1 (.slice a1 S.bs.length k1) S.bs.length (cellsU8 (putS S (S.sp + o) (bytesV X m)).bs) by have := HO6.out.o1; rw [PL.out] at this; exact this)
    have O29 := hide (show w6.ownsRow (w.heap.size + 3) 4 1 (.slice a2 S.bs.length k2) S.bs.length (cellsB (putS S (S.sp + o) (bytesV X m)).us) by have := HO6.out.o2; rw [PL.out] at this; exact this)
    clear bb b5 ho5 RX5 RV5 RZ5
    have PS := hide (show (storeS S (S.sp + o) m X).bs.length = S.bs.length from PL.out)
    have fX0 := RX9.out.cell (k := 0) rfl
    have fX1 := RX9.out.cell (k := 1) rfl
    have fX2 := RX9.out.cell (k := 2) rfl
    have fZ0 := RZ9.out.cell (k := 0) rfl
    have fZ1 := RZ9.out.cell (k := 1) rfl
    have fZ2 := RZ9.out.cell (k := 2) rfl
    have yZ0 := RZ9.out.free 0
    have yZ1 := RZ9.out.free 1
    have yZ2 := RZ9.out.free 2
    go_wp2_with fail
    obtain ⟨W6, hW6⟩ : ∃ W, ((w6.setCell ⟨w.heap.size + 2, 0, none⟩ (.slice a1 S.bs.length k1)).setCell ⟨w.heap.size + 2, 1, none⟩ (.slice a2 S.bs.length k2)).setCell ⟨w.heap.size + 2, 2, none⟩ (.int .i64 (S.sp : Int)) = W := ⟨_, rfl⟩
    have HW6 := hide hW6
    have RZ6 := hide (show Row W6 (w.heap.size + 2) 25 [.slice a1 S.bs.length k1, .slice a2 S.bs.length k2, .int .i64 (S.sp : Int)] by rw [← hW6]; exact (((RZ9.out).set_ 0 _).set_ 1 _).set_ 2 _)
    have RX6 := hide (show Row W6 (w.heap.size) 25 [.slice a1 S.bs.length k1, .slice a2 S.bs.length k2, .int .i64 (S.sp : Int)] by rw [← hW6]; exact (((RX9.out).far (p := ⟨w.heap.size + 2, 0, none⟩) (by simp) _).far (p := ⟨w.heap.size + 2, 1, none⟩) (by simp) _).far (p := ⟨w.heap.size + 2, 2, none⟩) (by simp) _)
    clear RX9
    have RV6 := hide (show Row W6 (w.heap.size + 1) 42 [.int .u64 (lo X), .int .u64 (hi X)] by rw [← hW6]; exact (((RV9.out).far (p := ⟨w.heap.size + 2, 0, none⟩) (by simp) _).far (p := ⟨w.heap.size + 2, 1, none⟩) (by simp) _).far (p := ⟨w.heap.size + 2, 2, none⟩) (by simp) _)
    clear RV9
    have O16 := hide (show W6.ownsRow (w.heap.size + 3) 5 1 (.slice a1 S.bs.length k1) S.bs.length (cellsU8 (putS S (S.sp + o) (bytesV X m)).bs) by rw [← hW6]; exact own_put (own_put (own_put (O19.out) (by omega)) (by omega)) (by omega))
    clear O19
    have O26 := hide (show W6.ownsRow (w.heap.size + 3) 4 1 (.slice a2 S.bs.length k2) S.bs.length (cellsB (putS S (S.sp + o) (bytesV X m)).us) by rw [← hW6]; exact own_put (own_put (own_put (O29.out) (by omega)) (by omega)) (by omega))
    clear O29
    have B6 := hide (show Below w.heap.size w W6 by rw [← hW6]; exact below_put (below_put (below_put (B9.out) (by omega)) (by omega)) (by omega))
    clear hW6 RZ9
    clear fX0 fX1 fX2 fZ0 fZ1 fZ2 yZ0 yZ1 yZ2
    have fZ0 := RZ6.out.cell (k := 0) rfl
    have fZ1 := RZ6.out.cell (k := 1) rfl
    have fZ2 := RZ6.out.cell (k := 2) rfl
    rw [HW6.out]
    refine bodyPost_ret (v := .tuple #[.agg #[.slice a1 S.bs.length k1, .slice a2 S.bs.length k2, .int .i64 (S.sp : Int)], .int .i64 0]) (by simp [results, Try.results18, go_sem, fZ0, fZ1, fZ2]) rfl ?_
    exact ⟨a1, k1, a2, k2, by rw [HE.out, HR.out]; show _ = Ending.returned (.tuple #[kv a1 (storeS S (S.sp + o) m X).bs.length k1 a2 (storeS S (S.sp + o) m X).bs.length k2 (S.sp : Int), _]); rw [PS.out], by rw [HR.out]; exact StkOwn.put_ (S := storeS S (S.sp + o) m X) (t1 := 5) (t2 := 4) HO6.out.ok (by rw [PS.out]; exact O16.out) (by rw [PS.out]; exact O26.out), B6.out⟩

theorem move_no {S : Sk} {dst src n : Int} (h : fitB S dst n = false ∨ fitB S src n = false) : moveE S dst src n = 4 ∧ moveB S dst src n = false ∧ moveR S dst src n = S := by
  rcases h with h | h <;> simp [moveE, moveR, moveB, loadB, h]
theorem move_undef {S : Sk} {dst : Int} {o m : Nat} (h : fitB S dst (m : Int) = true) (h2 : fitB S (o : Int) (m : Int) = true) (hu : usedB S (S.sp + o) m = false) : moveE S dst (o : Int) (m : Int) = 0 ∧ moveB S dst (o : Int) (m : Int) = false ∧ moveR S dst (o : Int) (m : Int) = S := by
  have hb : moveB S dst (o : Int) (m : Int) = false := by simp only [moveB, (load_undef h2 hu).2.1, Bool.and_false]
  exact ⟨by simp [moveE, h, h2], hb, by simp [moveR, hb]⟩
theorem move_yes {S : Sk} {d o m : Nat} (h : fitB S (d : Int) (m : Int) = true) (h2 : fitB S (o : Int) (m : Int) = true) (hu : usedB S (S.sp + o) m = true) : moveE S (d : Int) (o : Int) (m : Int) = 0 ∧ moveB S (d : Int) (o : Int) (m : Int) = true ∧ moveR S (d : Int) (o : Int) (m : Int) = putS S (S.sp + d) (cutS S (S.sp + o) m) := by
  have hb : moveB S (d : Int) (o : Int) (m : Int) = true := by simp only [moveB, (load_yes h2 hu).2.1, h, Bool.and_self]
  have e : ((S.sp : Int) + (o : Int)).toNat = S.sp + o := by omega
  have e' : ((S.sp : Int) + (d : Int)).toNat = S.sp + d := by omega
  exact ⟨by simp [moveE, h, h2], hb, by simp only [moveR, hb, if_true, e, e', Int.toNat_natCast]⟩

set_option maxRecDepth 100000 in
set_option maxHeartbeats 4000000 in
theorem move_any {A1 A2 : Option Addr} {c1 c2 : Nat} {S : Sk} (dst src n : Int) (w : World) (hS : Hid (StkAt w w.heap.size A1 c1 A2 c2 S)) :
    Calls Try.prog 26 #[sv A1 c1 A2 c2 S, .int .i64 dst, .int .i64 src, .int .i64 n] w (StkPost3 (moveR S dst src n) (moveB S dst src n) (moveE S dst src n) w) := by
  have hok := hide hS.out.ok
  have hmost := hS.out.ok.most
  have hsp := hS.out.ok.sp
  have hm1 := hS.out.m1
  have hm2 := hS.out.m2
  obtain ⟨W0, hW0⟩ : ∃ W, (w.alloc (.cells #[.slice A1 S.bs.length c1, .slice A2 S.bs.length c2, .int .i64 (S.sp : Int)] 25)).alloc (.cells #[.slice none 0 0, .slice none 0 0, .int .i64 0] 25) = W := ⟨_, rfl⟩
  have HW0 := hide hW0
  have RX0 := hide (show Row W0 (w.heap.size) 25 [.slice A1 S.bs.length c1, .slice A2 S.bs.length c2, .int .i64 (S.sp : Int)] by rw [← hW0]; exact ((Row.new w 25 [.slice A1 S.bs.length c1, .slice A2 S.bs.length c2, .int .i64 (S.sp : Int)]).alloc _))
  have RZ0 := hide (show Row W0 (w.heap.size + 1) 25 [.slice none 0 0, .slice none 0 0, .int .i64 0] by rw [← hW0]; exact (Row.new (w.alloc (.cells #[.slice A1 S.bs.length c1, .slice A2 S.bs.length c2, .int .i64 (S.sp : Int)] 25)) 25 [.slice none 0 0, .slice none 0 0, .int .i64 0]).at_ (by simp))
  have B0 := hide (show Below w.heap.size w W0 by rw [← hW0]; exact below2 w _ _)
  have Z0 := hide (show W0.heap.size = w.heap.size + 2 by rw [← hW0]; simp)
  clear hW0
  have hS0 := hide ((hS.out.below B0.out).more B0.out.size)
  have cc := clone_any A1 S.bs.length c1 A2 c2 (S.sp : Int) S.bs S.us W0 (hide hS0.out.k1) (hide hS0.out.k2) hm1 hm2 hmost (hide rfl) (hide hS0.out.ok.len) (hide hS0.out.s1) (hide hS0.out.s2)
  go_enter Try.func26, Try.ntmps26
  go_upto_region 1 with (fail)
  rw [HW0.out]
  have fX0 := RX0.out.cell (k := 0) rfl
  have fX1 := RX0.out.cell (k := 1) rfl
  have fX2 := RX0.out.cell (k := 2) rfl
  go_wp2_with fail
  refine (cc).mono ?_
  rintro e w1 ⟨a1, k1, a2, k2, rfl, o1, o2, hb1⟩
  have RX2 := hide (RX0.out.call hb1)
  clear RX0
  have RZ2 := hide (RZ0.out.call hb1)
  clear RZ0
  have B2 := hide (below_call B0.out hb1)
  clear B0
  clear hb1
  have O11 := hide (own_raise o1 (show w.heap.size + 2 ≤ W0.heap.size + 2 by have := Z0.out; omega))
  have O21 := hide (own_raise o2 (show w.heap.size + 2 ≤ W0.heap.size + 2 by have := Z0.out; omega))
  clear o1 o2
  clear fX0 fX1 fX2
  have fX0 := RX2.out.cell (k := 0) rfl
  have fX1 := RX2.out.cell (k := 1) rfl
  have fX2 := RX2.out.cell (k := 2) rfl
  have yX0 := RX2.out.free 0
  have yX1 := RX2.out.free 1
  have yX2 := RX2.out.free 2
  obtain ⟨W3, hW3⟩ : ∃ W, ((w1.setCell ⟨w.heap.size, 0, none⟩ (.slice a1 S.bs.length k1)).setCell ⟨w.heap.size, 1, none⟩ (.slice a2 S.bs.length k2)).setCell ⟨w.heap.size, 2, none⟩ (.int .i64 (S.sp : Int)) = W := ⟨_, rfl⟩
  have HW3 := hide hW3
  have RX3 := hide (show Row W3 (w.heap.size) 25 [.slice a1 S.bs.length k1, .slice a2 S.bs.length k2, .int .i64 (S.sp : Int)] by rw [← hW3]; exact (((RX2.out).set_ 0 _).set_ 1 _).set_ 2 _)
  have RZ3 := hide (show Row W3 (w.heap.size + 1) 25 [.slice none 0 0, .slice none 0 0, .int .i64 0] by rw [← hW3]; exact (((RZ2.out).far (p := ⟨w.heap.size, 0, none⟩) (by simp) _).far (p := ⟨w.heap.size, 1, none⟩) (by simp) _).far (p := ⟨w.heap.size, 2, none⟩) (by simp) _)
  clear RZ2
  have O13 := hide (show W3.ownsRow (w.heap.size + 2) 5 1 (.slice a1 S.bs.length k1) S.bs.length (cellsU8 S.bs) by rw [← hW3]; exact own_put (own_put (own_put (O11.out) (by omega)) (by omega)) (by omega))
  clear O11
  have O23 := hide (show W3.ownsRow (w.heap.size + 2) 4 1 (.slice a2 S.bs.length k2) S.bs.length (cellsB S.us) by rw [← hW3]; exact own_put (own_put (own_put (O21.out) (by omega)) (by omega)) (by omega))
  clear O21
  have B3 := hide (show Below w.heap.size w W3 by rw [← hW3]; exact below_put (below_put (below_put (B2.out) (by omega)) (by omega)) (by omega))
  clear hW3 RX2
  have cf := fun (o : Int) (W : World) => fits_any (A1 := a1) (A2 := a2) (c1 := k1) (c2 := k2) o n W hok
  cases hf : fitB S dst n with
  | false =>
    obtain ⟨hE, hB, hR⟩ := move_no (dst := dst) (src := src) (n := n) (S := S) (.inl hf)
    have HE := hide hE
    have HB := hide hB
    have HR := hide hR
    have cf := cf dst
    rw [hf] at cf
    clear hf hE hB hR
    go_upto_region 2 with (fail)
    rw [HW3.out]
    clear fX0 fX1 fX2 yX0 yX1 yX2
    have fX0 := RX3.out.cell (k := 0) rfl
    have fX1 := RX3.out.cell (k := 1) rfl
    have fX2 := RX3.out.cell (k := 2) rfl
    go_wp2_with fail
    refine (cf _).mono ?_
    rintro e w4 ⟨rfl, hb4⟩
    have RX5 := hide (RX3.out.call hb4)
    clear RX3
    have RZ5 := hide (RZ3.out.call hb4)
    clear RZ3
    have O15 := hide (own_below O13.out hb4)
    clear O13
    have O25 := hide (own_below O23.out hb4)
    clear O23
    have B5 := hide (below_call B3.out hb4)
    clear B3
    clear hb4
    clear fX0 fX1 fX2
    have fX0 := RX5.out.cell (k := 0) rfl
    have fX1 := RX5.out.cell (k := 1) rfl
    have fX2 := RX5.out.cell (k := 2) rfl
    have fZ0 := RZ5.out.cell (k := 0) rfl
    have fZ1 := RZ5.out.cell (k := 1) rfl
    have fZ2 := RZ5.out.cell (k := 2) rfl
    have yZ0 := RZ5.out.free 0
    have yZ1 := RZ5.out.free 1
    have yZ2 := RZ5.out.free 2
    go_wp2_with fail
    obtain ⟨W6, hW6⟩ : ∃ W, ((w4.setCell ⟨w.heap.size + 1, 0, none⟩ (.slice a1 S.bs.length k1)).setCell ⟨w.heap.size + 1, 1, none⟩ (.slice a2 S.bs.length k2)).setCell ⟨w.heap.size + 1, 2, none⟩ (.int .i64 (S.sp : Int)) = W := ⟨_, rfl⟩
    have HW6 := hide hW6
    have RZ6 := hide (show Row W6 (w.heap.size + 1) 25 [.slice a1 S.bs.length k1, .slice a2 S.bs.length k2, .int .i64 (S.sp : Int)] by rw [← hW6]; exact (((RZ5.out).set_ 0 _).set_ 1 _).set_ 2 _)
    have RX6 := hide (show Row W6 (w.heap.size) 25 [.slice a1 S.bs.length k1, .slice a2 S.bs.length k2, .int .i64 (S.sp : Int)] by rw [← hW6]; exact (((RX5.out).far (p := ⟨w.heap.size + 1, 0, none⟩) (by simp) _).far (p := ⟨w.heap.size + 1, 1, none⟩) (by simp) _).far (p := ⟨w.heap.size + 1, 2, none⟩) (by simp) _)
    clear RX5
    have O16 := hide (show W6.ownsRow (w.heap.size + 2) 5 1 (.slice a1 S.bs.length k1) S.bs.length (cellsU8 S.bs) by rw [← hW6]; exact own_put (own_put (own_put (O15.out) (by omega)) (by omega)) (by omega))
    clear O15
    have O26 := hide (show W6.ownsRow (w.heap.size + 2) 4 1 (.slice a2 S.bs.length k2) S.bs.length (cellsB S.us) by rw [← hW6]; exact own_put (own_put (own_put (O25.out) (by omega)) (by omega)) (by omega))
    clear O25
    have B6 := hide (show Below w.heap.size w W6 by rw [← hW6]; exact below_put (below_put (below_put (B5.out) (by omega)) (by omega)) (by omega))
    clear hW6 RZ5
    clear fX0 fX1 fX2 fZ0 fZ1 fZ2 yZ0 yZ1 yZ2
    have fZ0 := RZ6.out.cell (k := 0) rfl
    have fZ1 := RZ6.out.cell (k := 1) rfl
    have fZ2 := RZ6.out.cell (k := 2) rfl
    rw [HW6.out]
    refine bodyPost_ret (v := .tuple #[.agg #[.slice a1 S.bs.length k1, .slice a2 S.bs.length k2, .int .i64 (S.sp : Int)], .bool false, .int .i64 4]) (by simp [results, Try.results26, go_sem, fZ0, fZ1, fZ2]) rfl ?_
    exact ⟨a1, k1, a2, k2, by rw [HE.out, HB.out, HR.out], by rw [HR.out]; exact StkOwn.put_ hok.out O16.out O26.out, B6.out⟩
  | true =>
    cases hg : fitB S src n with
    | false =>
      obtain ⟨hE, hB, hR⟩ := move_no (dst := dst) (src := src) (n := n) (S := S) (.inr hg)
      have HE := hide hE
      have HB := hide hB
      have HR := hide hR
      have cg := cf src
      rw [hg] at cg
      have cf := cf dst
      rw [hf] at cf
      clear hf hg hE hB hR
      go_upto_region 2 with (fail)
      rw [HW3.out]
      clear fX0 fX1 fX2 yX0 yX1 yX2
      have fX0 := RX3.out.cell (k := 0) rfl
      have fX1 := RX3.out.cell (k := 1) rfl
      have fX2 := RX3.out.cell (k := 2) rfl
      go_wp2_with fail
      refine (cf _).mono ?_
      rintro e w4 ⟨rfl, hb4⟩
      have RX5 := hide (RX3.out.call hb4)
      clear RX3
      have RZ5 := hide (RZ3.out.call hb4)
      clear RZ3
      have O15 := hide (own_below O13.out hb4)
      clear O13
      have O25 := hide (own_below O23.out hb4)
      clear O23
      have B5 := hide (below_call B3.out hb4)
      clear B3
      clear hb4
      clear fX0 fX1 fX2
      have fX0 := RX5.out.cell (k := 0) rfl
      have fX1 := RX5.out.cell (k := 1) rfl
      have fX2 := RX5.out.cell (k := 2) rfl
      go_wp2_with fail
      refine (cg _).mono ?_
      rintro e w6 ⟨rfl, hb6⟩
      have RX7 := hide (RX5.out.call hb6)
      clear RX5
      have RZ7 := hide (RZ5.out.call hb6)
      clear RZ5
      have O17 := hide (own_below O15.out hb6)
      clear O15
      have O27 := hide (own_below O25.out hb6)
      clear O25
      have B7 := hide (below_call B5.out hb6)
      clear B5
      clear hb6
      clear fX0 fX1 fX2
      have fX0 := RX7.out.cell (k := 0) rfl
      have fX1 := RX7.out.cell (k := 1) rfl
      have fX2 := RX7.out.cell (k := 2) rfl
      have fZ0 := RZ7.out.cell (k := 0) rfl
      have fZ1 := RZ7.out.cell (k := 1) rfl
      have fZ2 := RZ7.out.cell (k := 2) rfl
      have yZ0 := RZ7.out.free 0
      have yZ1 := RZ7.out.free 1
      have yZ2 := RZ7.out.free 2
      go_wp2_with fail
      obtain ⟨W8, hW8⟩ : ∃ W, ((w6.setCell ⟨w.heap.size + 1, 0, none⟩ (.slice a1 S.bs.length k1)).setCell ⟨w.heap.size + 1, 1, none⟩ (.slice a2 S.bs.length k2)).setCell ⟨w.heap.size + 1, 2, none⟩ (.int .i64 (S.sp : Int)) = W := ⟨_, rfl⟩
      have HW8 := hide hW8
      have RZ8 := hide (show Row W8 (w.heap.size + 1) 25 [.slice a1 S.bs.length k1, .slice a2 S.bs.length k2, .int .i64 (S.sp : Int)] by rw [← hW8]; exact (((RZ7.out).set_ 0 _).set_ 1 _).set_ 2 _)
      have RX8 := hide (show Row W8 (w.heap.size) 25 [.slice a1 S.bs.length k1, .slice a2 S.bs.length k2, .int .i64 (S.sp : Int)] by rw [← hW8]; exact (((RX7.out).far (p := ⟨w.heap.size + 1, 0, none⟩) (by simp) _).far (p := ⟨w.heap.size + 1, 1, none⟩) (by simp) _).far (p := ⟨w.heap.size + 1, 2, none⟩) (by simp) _)
      clear RX7
      have O18 := hide (show W8.ownsRow (w.heap.size + 2) 5 1 (.slice a1 S.bs.length k1) S.bs.length (cellsU8 S.bs) by rw [← hW8]; exact own_put (own_put (own_put (O17.out) (by omega)) (by omega)) (by omega))
      clear O17
      have O28 := hide (show W8.ownsRow (w.heap.size + 2) 4 1 (.slice a2 S.bs.length k2) S.bs.length (cellsB S.us) by rw [← hW8]; exact own_put (own_put (own_put (O27.out) (by omega)) (by omega)) (by omega))
      clear O27
      have B8 := hide (show Below w.heap.size w W8 by rw [← hW8]; exact below_put (below_put (below_put (B7.out) (by omega)) (by omega)) (by omega))
      clear hW8 RZ7
      clear fX0 fX1 fX2 fZ0 fZ1 fZ2 yZ0 yZ1 yZ2
      have fZ0 := RZ8.out.cell (k := 0) rfl
      have fZ1 := RZ8.out.cell (k := 1) rfl
      have fZ2 := RZ8.out.cell (k := 2) rfl
      rw [HW8.out]
      refine bodyPost_ret (v := .tuple #[.agg #[.slice a1 S.bs.length k1, .slice a2 S.bs.length k2, .int .i64 (S.sp : Int)], .bool false, .int .i64 4]) (by simp [results, Try.results26, go_sem, fZ0, fZ1, fZ2]) rfl ?_
      exact ⟨a1, k1, a2, k2, by rw [HE.out, HB.out, HR.out], by rw [HR.out]; exact StkOwn.put_ hok.out O18.out O28.out, B8.out⟩
    | true =>
      obtain ⟨o, m, rfl, rfl, hm0, hm16, hfit⟩ := fit_nat hg
      obtain ⟨d, m', rfl, hmm, _, _, hfit2⟩ := fit_nat hf
      obtain rfl : m = m' := by omega
      clear hmm
      have cu := fun (W : World) (HS : Hid (StkAt W W.heap.size a1 k1 a2 k2 S)) => used_any (S.sp + o) m W HS hm0 hfit
      rw [show ((S.sp + o : Nat) : Int) = (S.sp : Int) + (o : Int) by omega] at cu
      cases hu : usedB S (S.sp + o) m with
      | false =>
        obtain ⟨hE, hB, hR⟩ := move_undef hf hg hu
        have HE := hide hE
        have HB := hide hB
        have HR := hide hR
        have cg := cf (o : Int)
        rw [hg] at cg
        have cf := cf (d : Int)
        rw [hf] at cf
        rw [hu] at cu
        clear hf hg hu hE hB hR
        go_upto_region 2 with (fail)
        rw [HW3.out]
        clear fX0 fX1 fX2 yX0 yX1 yX2
        have fX0 := RX3.out.cell (k := 0) rfl
        have fX1 := RX3.out.cell (k := 1) rfl
        have fX2 := RX3.out.cell (k := 2) rfl
        go_wp2_with fail
        refine (cf _).mono ?_
        rintro e w4 ⟨rfl, hb4⟩
        have RX5 := hide (RX3.out.call hb4)
        clear RX3
        have RZ5 := hide (RZ3.out.call hb4)
        clear RZ3
        have O15 := hide (own_below O13.out hb4)
        clear O13
        have O25 := hide (own_below O23.out hb4)
        clear O23
        have B5 := hide (below_call B3.out hb4)
        clear B3
        clear hb4
        clear fX0 fX1 fX2
        have fX0 := RX5.out.cell (k := 0) rfl
        have fX1 := RX5.out.cell (k := 1) rfl
        have fX2 := RX5.out.cell (k := 2) rfl
        go_wp2_with fail
        refine (cg _).mono ?_
        rintro e w6 ⟨rfl, hb6⟩
        have RX7 := hide (RX5.out.call hb6)
        clear RX5
        have RZ7 := hide (RZ5.out.call hb6)
        clear RZ5
        have O17 := hide (own_below O15.out hb6)
        clear O15
        have O27 := hide (own_below O25.out hb6)
        clear O25
        have B7 := hide (below_call B5.out hb6)
        clear B5
        clear hb6
        clear fX0 fX1 fX2
        have fX0 := RX7.out.cell (k := 0) rfl
        have fX1 := RX7.out.cell (k := 1) rfl
        have fX2 := RX7.out.cell (k := 2) rfl
        go_wp2_with fail
        have SA8 := hide (StkOwn.put_ hok.out O17.out O27.out)
        refine (cu _ SA8).mono ?_
        rintro e w9 ⟨rfl, hb9⟩
        have RX10 := hide (RX7.out.call hb9)
        clear RX7
        have RZ10 := hide (RZ7.out.call hb9)
        clear RZ7
        have O110 := hide (own_below O17.out hb9)
        clear O17
        have O210 := hide (own_below O27.out hb9)
        clear O27
        have B10 := hide (below_call B7.out hb9)
        clear B7
        clear hb9
        clear fX0 fX1 fX2
        have fX0 := RX10.out.cell (k := 0) rfl
        have fX1 := RX10.out.cell (k := 1) rfl
        have fX2 := RX10.out.cell (k := 2) rfl
        have fZ0 := RZ10.out.cell (k := 0) rfl
        have fZ1 := RZ10.out.cell (k := 1) rfl
        have fZ2 := RZ10.out.cell (k := 2) rfl
        have yZ0 := RZ10.out.free 0
        have yZ1 := RZ10.out.free 1
        have yZ2 := RZ10.out.free 2
        go_wp2_with fail
        obtain ⟨W11, hW11⟩ : ∃ W, ((w9.setCell ⟨w.heap.size + 1, 0, none⟩ (.slice a1 S.bs.length k1)).setCell ⟨w.heap.size + 1, 1, none⟩ (.slice a2 S.bs.length k2)).setCell ⟨w.heap.size + 1, 2, none⟩ (.int .i64 (S.sp : Int)) = W := ⟨_, rfl⟩
        have HW11 := hide hW11
        have RZ11 := hide (show Row W11 (w.heap.size + 1) 25 [.slice a1 S.bs.length k1, .slice a2 S.bs.length k2, .int .i64 (S.sp : Int)] by rw [← hW11]; exact (((RZ10.out).set_ 0 _).set_ 1 _).set_ 2 _)
        have RX11 := hide (show Row W11 (w.heap.size) 25 [.slice a1 S.bs.length k1, .slice a2 S.bs.length k2, .int .i64 (S.sp : Int)] by rw [← hW11]; exact (((RX10.out).far (p := ⟨w.heap.size + 1, 0, none⟩) (by simp) _).far (p := ⟨w.heap.size + 1, 1, none⟩) (by simp) _).far (p := ⟨w.heap.size + 1, 2, none⟩) (by simp) _)
        clear RX10
        have O111 := hide (show W11.ownsRow (w.heap.size + 2) 5 1 (.slice a1 S.bs.length k1) S.bs.length (cellsU8 S.bs) by rw [← hW11]; exact own_put (own_put (own_put (O110.out) (by omega)) (by omega)) (by omega))
        clear O110
        have O211 := hide (show W11.ownsRow (w.heap.size + 2) 4 1 (.slice a2 S.bs.length k2) S.bs.length (cellsB S.us) by rw [← hW11]; exact own_put (own_put (own_put (O210.out) (by omega)) (by omega)) (by omega))
        clear O210
        have B11 := hide (show Below w.heap.size w W11 by rw [← hW11]; exact below_put (below_put (below_put (B10.out) (by omega)) (by omega)) (by omega))
        clear hW11 RZ10
        clear fX0 fX1 fX2 fZ0 fZ1 fZ2 yZ0 yZ1 yZ2
        have fZ0 := RZ11.out.cell (k := 0) rfl
        have fZ1 := RZ11.out.cell (k := 1) rfl
        have fZ2 := RZ11.out.cell (k := 2) rfl
        rw [HW11.out]
        refine bodyPost_ret (v := .tuple #[.agg #[.slice a1 S.bs.length k1, .slice a2 S.bs.length k2, .int .i64 (S.sp : Int)], .bool false, .int .i64 0]) (by simp [results, Try.results26, go_sem, fZ0, fZ1, fZ2]) rfl ?_
        exact ⟨a1, k1, a2, k2, by rw [HE.out, HB.out, HR.out], by rw [HR.out]; exact StkOwn.put_ hok.out O111.out O211.out, B11.out⟩
      | true =>
        obtain ⟨hE, hB, hR⟩ := move_yes hf hg hu
        have HE := hide hE
        have HB := hide hB
        have HR := hide hR
        have cg := cf (o : Int)
        rw [hg] at cg
        have cf := cf (d : Int)
        rw [hf] at cf
        rw [hu] at cu
        clear hf hg hu hE hB hR
        go_upto_region 2 with (fail)
        rw [HW3.out]
        clear fX0 fX1 fX2 yX0 yX1 yX2
        have fX0 := RX3.out.cell (k := 0) rfl
        have fX1 := RX3.out.cell (k := 1) rfl
        have fX2 := RX3.out.cell (k := 2) rfl
        go_wp2_with fail
        refine (cf _).mono ?_
        rintro e w4 ⟨rfl, hb4⟩
        have RX5 := hide (RX3.out.call hb4)
        clear RX3
        have RZ5 := hide (RZ3.out.call hb4)
        clear RZ3
        have O15 := hide (own_below O13.out hb4)
        clear O13
        have O25 := hide (own_below O23.out hb4)
        clear O23
        have B5 := hide (below_call B3.out hb4)
        clear B3
        clear hb4
        clear fX0 fX1 fX2
        have fX0 := RX5.out.cell (k := 0) rfl
        have fX1 := RX5.out.cell (k := 1) rfl
        have fX2 := RX5.out.cell (k := 2) rfl
        go_wp2_with fail
        refine (cg _).mono ?_
        rintro e w6 ⟨rfl, hb6⟩
        have RX7 := hide (RX5.out.call hb6)
        clear RX5
        have RZ7 := hide (RZ5.out.call hb6)
        clear RZ5
        have O17 := hide (own_below O15.out hb6)
        clear O15
        have O27 := hide (own_below O25.out hb6)
        clear O25
        have B7 := hide (below_call B5.out hb6)
        clear B5
        clear hb6
        clear fX0 fX1 fX2
        have fX0 := RX7.out.cell (k := 0) rfl
        have fX1 := RX7.out.cell (k := 1) rfl
        have fX2 := RX7.out.cell (k := 2) rfl
        go_wp2_with fail
        have SA8 := hide (StkOwn.put_ hok.out O17.out O27.out)
        refine (cu _ SA8).mono ?_
        rintro e w9 ⟨rfl, hb9⟩
        have RX10 := hide (RX7.out.call hb9)
        clear RX7
        have RZ10 := hide (RZ7.out.call hb9)
        clear RZ7
        have O110 := hide (own_below O17.out hb9)
        clear O17
        have O210 := hide (own_below O27.out hb9)
        clear O27
        have B10 := hide (below_call B7.out hb9)
        clear B7
        clear hb9
        go_upto_region 7 with (fail)
        clear fX0 fX1 fX2
        have hbs := hide (show w.heap.size + 2 ≤ w9.heap.size by have := RZ10.out.lt; omega)
        obtain ⟨b1, q1, hv, hbb, hblt, hnk, _⟩ := own_block O110.out (show 0 < S.bs.length by omega)
        injection hv with hv1 hv2 hv3
        subst hv1 hv3
        clear hv2
        have x0 := fun (w' : World) (hb : Below (w.heap.size + 2) w9 w') => (RX10.out.below hb (by omega)).cell (k := 0) rfl
        have x1 := fun (w' : World) (hb : Below (w.heap.size + 2) w9 w') => (RX10.out.below hb (by omega)).cell (k := 1) rfl
        have x2 := fun (w' : World) (hb : Below (w.heap.size + 2) w9 w') => (RX10.out.below hb (by omega)).cell (k := 2) rfl
        have OWN := hide (show StkOwn w9 (w.heap.size + 2) (some ⟨b1, 0, none⟩) k1 a2 k2 S 5 4 from ⟨hok.out, O110.out, O210.out⟩)
        have hcl := hide (cut_len (S := S) (a := S.sp + o) (n := m) hfit)
        have hcb := hide (cut_byt hok.out (S.sp + o) m)
        have cw := fun (n5 : Nat) => write_any (S.sp + d) m (some ⟨b1, S.sp + o, none⟩) (k1 - (S.sp + o)) (w.heap.size + 2) (cutS S (S.sp + o) m) (w9.drewN n5) (hide (OWN.out.below (drewN_k _ _ _))) (hide ((by have := OWN.out.at_.cut (S.sp + o) m; rw [Option.map_some, WideShapes.add_plain, Nat.zero_add] at this; exact this : Sees w9 _ _ _).draws n5)) hcl hcb hm0 hm16 hfit2 hbs.out
        rw [show ((S.sp + d : Nat) : Int) = (S.sp : Int) + (d : Int) by omega] at cw
        have hwr : IntKind.i64.wrap ((S.sp : Int) + (d : Int)) = (S.sp : Int) + (d : Int) := by rw [IntKind.wrap_i64]; omega
        have hwm : IntKind.i64.wrap ((S.sp : Int) + (o : Int) + (m : Int)) = (S.sp : Int) + (o : Int) + (m : Int) := by rw [IntKind.wrap_i64]; omega
        have hb0 : (0 : Int) ≤ (S.sp : Int) + (o : Int) := by omega
        have hb1 : (S.sp : Int) + (o : Int) ≤ (S.sp : Int) + (o : Int) + (m : Int) := by omega
        have hb2 : (S.sp : Int) + (o : Int) + (m : Int) ≤ (k1 : Int) := by omega
        have hb3 : ¬ (k1 = S.sp + o) := by omega
        have ht1 : ((S.sp : Int) + (o : Int)).toNat = S.sp + o := by omega
        have ht2 : ((S.sp : Int) + (o : Int) + (m : Int)).toNat = S.sp + o + m := by omega
        have ht3 : S.sp + o + m - (S.sp + o) = m := by omega
        go_region_held3 (fun w' => Below (w.heap.size + 2) w9 w') (first | exact drew_k _ _ | exact drewN_k _ _ _ | exact bb)
          (first
            | (go_at_call 36; go_fit (cw _); rintro e w6 ⟨rfl, hO6, hB6⟩; have bb := Below.trans (drewN_k w9 _ _) hB6; have HO6 := hide hO6; clear hO6 hB6))
        clear hb0 hb1 hb2 hb3 ht1 ht2 ht3 hwr hwm x0 x1 x2 cg cw cf
        have RX9 := hide (RX10.out.below bb (show w.heap.size < (w.heap.size + 2) by omega))
        have RZ9 := hide (RZ10.out.below bb (show w.heap.size + 1 < (w.heap.size + 2) by omega))
        have B9 := hide (B10.out.trans (bb.mono (show w.heap.size ≤ (w.heap.size + 2) by omega)))
        have PL := hide (put_len (S := S) (a := S.sp + d) (zs := cutS S (S.sp + o) m) (by rw [hcl.out]; exact hfit2))
        have O19 := hide (show w6.ownsRow (w.heap.size + 2) 5 1 (.slice (some ⟨b1, 0, none⟩) S.bs.length k1) S.bs.length (cellsU8 (putS S (S.sp + d) (cutS S (S.sp + o) m)).bs) by have := HO6.out.o1; rw [PL.out] at this; exact this)
        have O29 := hide (show w6.ownsRow (w.heap.size + 2) 4 1 (.slice a2 S.bs.length k2) S.bs.length (cellsB (putS S (S.sp + d) (cutS S (S.sp + o) m)).us) by have := HO6.out.o2; rw [PL.out] at this; exact this)
        clear bb RX10 RZ10
        have fX0 := RX9.out.cell (k := 0) rfl
        have fX1 := RX9.out.cell (k := 1) rfl
        have fX2 := RX9.out.cell (k := 2) rfl
        have fZ0 := RZ9.out.cell (k := 0) rfl
        have fZ1 := RZ9.out.cell (k := 1) rfl
        have fZ2 := RZ9.out.cell (k := 2) rfl
        have yZ0 := RZ9.out.free 0
        have yZ1 := RZ9.out.free 1
        have yZ2 := RZ9.out.free 2
        go_wp2_with fail
        obtain ⟨W11, hW11⟩ : ∃ W, ((w6.setCell ⟨w.heap.size + 1, 0, none⟩ (.slice (some ⟨b1, 0, none⟩) S.bs.length k1)).setCell ⟨w.heap.size + 1, 1, none⟩ (.slice a2 S.bs.length k2)).setCell ⟨w.heap.size + 1, 2, none⟩ (.int .i64 (S.sp : Int)) = W := ⟨_, rfl⟩
        have HW11 := hide hW11
        have RZ11 := hide (show Row W11 (w.heap.size + 1) 25 [.slice (some ⟨b1, 0, none⟩) S.bs.length k1, .slice a2 S.bs.length k2, .int .i64 (S.sp : Int)] by rw [← hW11]; exact (((RZ9.out).set_ 0 _).set_ 1 _).set_ 2 _)
        have RX11 := hide (show Row W11 (w.heap.size) 25 [.slice (some ⟨b1, 0, none⟩) S.bs.length k1, .slice a2 S.bs.length k2, .int .i64 (S.sp : Int)] by rw [← hW11]; exact (((RX9.out).far (p := ⟨w.heap.size + 1, 0, none⟩) (by simp) _).far (p := ⟨w.heap.size + 1, 1, none⟩) (by simp) _).far (p := ⟨w.heap.size + 1, 2, none⟩) (by simp) _)
        clear RX9
        have O111 := hide (show W11.ownsRow (w.heap.size + 2) 5 1 (.slice (some ⟨b1, 0, none⟩) S.bs.length k1) S.bs.length (cellsU8 (putS S (S.sp + d) (cutS S (S.sp + o) m)).bs) by rw [← hW11]; exact own_put (own_put (own_put (O19.out) (by omega)) (by omega)) (by omega))
        clear O19
        have O211 := hide (show W11.ownsRow (w.heap.size + 2) 4 1 (.slice a2 S.bs.length k2) S.bs.length (cellsB (putS S (S.sp + d) (cutS S (S.sp + o) m)).us) by rw [← hW11]; exact own_put (own_put (own_put (O29.out) (by omega)) (by omega)) (by omega))
        clear O29
        have B11 := hide (show Below w.heap.size w W11 by rw [← hW11]; exact below_put (below_put (below_put (B9.out) (by omega)) (by omega)) (by omega))
        clear hW11 RZ9
        clear fX0 fX1 fX2 fZ0 fZ1 fZ2 yZ0 yZ1 yZ2
        have fZ0 := RZ11.out.cell (k := 0) rfl
        have fZ1 := RZ11.out.cell (k := 1) rfl
        have fZ2 := RZ11.out.cell (k := 2) rfl
        rw [HW11.out]
        refine bodyPost_ret (v := .tuple #[.agg #[.slice (some ⟨b1, 0, none⟩) S.bs.length k1, .slice a2 S.bs.length k2, .int .i64 (S.sp : Int)], .bool true, .int .i64 0]) (by simp [results, Try.results26, go_sem, fZ0, fZ1, fZ2]) rfl ?_
        exact ⟨some ⟨b1, 0, none⟩, k1, a2, k2, by rw [HE.out, HB.out, HR.out]; show _ = Ending.returned (.tuple #[kv (some ⟨b1, 0, none⟩) (putS S (S.sp + d) (cutS S (S.sp + o) m)).bs.length k1 a2 (putS S (S.sp + d) (cutS S (S.sp + o) m)).bs.length k2 (S.sp : Int), _, _]); rw [PL.out], by rw [HR.out]; exact StkOwn.put_ (S := (putS S (S.sp + d) (cutS S (S.sp + o) m))) (t1 := 5) (t2 := 4) HO6.out.ok (by rw [PL.out]; exact O111.out) (by rw [PL.out]; exact O211.out), B11.out⟩
end Go.Proofs.Ytlkikjgapingjaa
