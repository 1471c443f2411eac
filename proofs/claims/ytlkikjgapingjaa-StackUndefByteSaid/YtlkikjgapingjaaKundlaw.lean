/-
  The law on a byte that is not used, walked: it returns true. Conditions: those of the types.
-/
import Derived.Test.YtlkikjgapingjaaKundm
import Derived.Deep.DeepFit
namespace Go.Proofs.Ytlkikjgapingjaa
open Go.RowKit
attribute [local go_sem ↓] Go.wp_at_zero Go.wp_at_succ

/-- What holds at the head of the loop. -/
def UndRel (k X : Nat) (w : World) (g : Nat) (i : Value) (wr : World) : Prop :=
  ∃ (q : Nat) (S : Sk) (a1 : Option Addr) (k1 : Nat) (a2 : Option Addr) (k2 : Nat), q ≤ 8 ∧ i = .int .i64 (q : Int) ∧ Hid (UndI k q S) ∧ Hid (Row wr w.heap.size 42 [.int .u64 (lo X), .int .u64 (hi X)]) ∧
    Hid (Row wr g 25 [.slice a1 S.bs.length k1, .slice a2 S.bs.length k2, .int .i64 (S.sp : Int)]) ∧ Hid (StkAt wr wr.heap.size a1 k1 a2 k2 S) ∧ Hid (Below w.heap.size w wr)

set_option maxRecDepth 100000 in
set_option maxHeartbeats 4000000 in
theorem undbyte_walk (a h : Int) (X : Nat) (w : World) (ha0 : 0 ≤ a) (ha1 : a ≤ 255) (hh0 : 0 ≤ h) (hh1 : h ≤ 255) (hX : X < two128) :
    Calls Try.prog 7 #[.int .u8 a, .int .u8 h, vv X] w fun e w' => e = .returned (.bool true) ∧ Below w.heap.size w w' := by
  obtain ⟨p, rfl⟩ : ∃ p : Nat, a = (p : Int) := ⟨a.toNat, by omega⟩
  obtain ⟨q0, rfl⟩ : ∃ q : Nat, h = (q : Int) := ⟨h.toNat, by omega⟩
  have hU := und_start (q0 % 8)
  have cn := fun W => stknew_any 64 16 W
  have hE : newE 64 16 = 0 := by decide
  have hE2 : pushE (newR 64 16) 64 = 0 := by decide
  obtain ⟨S0, hS0⟩ : ∃ S, newR 64 16 = S := ⟨_, rfl⟩
  rw [hS0] at hU hE2
  obtain ⟨S1, hS1⟩ : ∃ S, pushR S0 64 = S := ⟨_, rfl⟩
  rw [hS1] at hU
  simp only [hE, hS0] at cn
  have cp := fun (a1 : Option Addr) (k1 : Nat) (a2 : Option Addr) (k2 : Nat) W HS => push_any (A1 := a1) (A2 := a2) (c1 := k1) (c2 := k2) (S := S0) 64 W HS
  simp only [hE2, hS1] at cp
  have HU := hide hU
  clear hU hE hE2 hS0 hS1
  have hkk := hide (show q0 % 8 < 8 by omega)
  obtain ⟨k, hk⟩ : ∃ k, q0 % 8 = k := ⟨_, rfl⟩
  have Hk := hide hk
  have hkt : Int.tmod (q0 : Int) 8 = (k : Int) := by rw [show (8 : Int) = ((8 : Nat) : Int) from rfl, ← Int.ofNat_tmod, hk]
  obtain ⟨d, hd⟩ : ∃ d, p % 48 = d := ⟨_, rfl⟩
  have hd48 : d < 48 := by omega
  have hdt : Int.tmod (p : Int) 48 = (d : Int) := by rw [show (48 : Int) = ((48 : Nat) : Int) from rfl, ← Int.ofNat_tmod, hd]
  rw [hk] at HU hkk
  have hk8 : k < 8 := hkk.out
  clear hk hd hkk
  obtain ⟨W0, hW0⟩ : ∃ W, w.alloc (.cells #[.int .u64 (lo X), .int .u64 (hi X)] 42) = W := ⟨_, rfl⟩
  have HW0 := hide hW0
  have RV0 := hide (show Row W0 (w.heap.size) 42 [.int .u64 (lo X), .int .u64 (hi X)] by rw [← hW0]; exact (Row.new w 42 [.int .u64 (lo X), .int .u64 (hi X)]))
  have B0 := hide (show Below w.heap.size w W0 by rw [← hW0]; exact below1 w _)
  have Z0 := hide (show W0.heap.size = w.heap.size + 1 by rw [← hW0]; simp)
  clear hW0
  go_enter Try.func7, Try.ntmps7
  go_upto_region 1 with (fail)
  rw [HW0.out]
  go_wp2_with fail
  refine (awake9_any _).mono ?_
  rintro e w1 ⟨rfl, hb1⟩
  have RV2 := hide (RV0.out.call hb1)
  clear RV0
  have B2 := hide (below_call B0.out hb1)
  clear B0
  clear hb1
  go_wp2_with fail
  go_fit (cn _)
  rintro e w3 ⟨a1, k1, a2, k2, rfl, hS3, hb3⟩
  have Ss3 := hide hS3
  clear hS3
  have RV4 := hide (RV2.out.call hb3)
  clear RV2
  have B4 := hide (below_call B2.out hb3)
  clear B2
  clear hb3
  go_upto_region 4 with (fail)
  have DV := hide (show w.heap.size < w3.heap.size from RV4.out.lt)
  obtain ⟨W5, hW5⟩ : ∃ W, w3.alloc (.cells #[.slice a1 S0.bs.length k1, .slice a2 S0.bs.length k2, .int .i64 (S0.sp : Int)] 25) = W := ⟨_, rfl⟩
  have HW5 := hide hW5
  have RV5 := hide (show Row W5 (w.heap.size) 42 [.int .u64 (lo X), .int .u64 (hi X)] by rw [← hW5]; exact RV4.out.alloc _)
  clear RV4
  have RS5 := hide (show Row W5 (w3.heap.size) 25 [.slice a1 S0.bs.length k1, .slice a2 S0.bs.length k2, .int .i64 (S0.sp : Int)] by rw [← hW5]; exact Row.new w3 _ _)
  have Ss5 := hide (show StkAt W5 W5.heap.size a1 k1 a2 k2 S0 by rw [← hW5]; exact Ss3.out.alloc _)
  clear Ss3
  have L5 := hide (show w3.heap.size < W5.heap.size by rw [← hW5]; simp)
  have G5 := hide B4.out.size
  have B5 := hide (show Below w.heap.size w W5 by rw [← hW5]; exact B4.out.alloc B4.out.size _)
  clear hW5
  rw [HW5.out]
  have fS0 := RS5.out.cell (k := 0) rfl
  have fS1 := RS5.out.cell (k := 1) rfl
  have fS2 := RS5.out.cell (k := 2) rfl
  go_wp2_with fail
  go_fit (cp _ _ _ _ _ Ss5)
  rintro e w6 ⟨b1, l1, b2, l2, rfl, hS6, hb6⟩
  have Ss6 := hide hS6
  clear hS6
  have RV7 := hide (RV5.out.call hb6)
  clear RV5
  have RS7 := hide (RS5.out.call hb6)
  clear RS5
  have B7 := hide (below_call B5.out hb6)
  clear B5
  clear hb6
  clear fS0 fS1 fS2
  have fS0 := RS7.out.cell (k := 0) rfl
  have fS1 := RS7.out.cell (k := 1) rfl
  have fS2 := RS7.out.cell (k := 2) rfl
  have yS0 := RS7.out.free 0
  have yS1 := RS7.out.free 1
  have yS2 := RS7.out.free 2
  go_upto_region 5 with (fail)
  obtain ⟨W8, hW8⟩ : ∃ W, ((w6.setCell ⟨w3.heap.size, 0, none⟩ (.slice b1 S1.bs.length l1)).setCell ⟨w3.heap.size, 1, none⟩ (.slice b2 S1.bs.length l2)).setCell ⟨w3.heap.size, 2, none⟩ (.int .i64 (S1.sp : Int)) = W := ⟨_, rfl⟩
  have HW8 := hide hW8
  have RS8 := hide (show Row W8 (w3.heap.size) 25 [.slice b1 S1.bs.length l1, .slice b2 S1.bs.length l2, .int .i64 (S1.sp : Int)] by rw [← hW8]; exact (((RS7.out).set_ 0 _).set_ 1 _).set_ 2 _)
  have RV8 := hide (show Row W8 (w.heap.size) 42 [.int .u64 (lo X), .int .u64 (hi X)] by rw [← hW8]; exact (((RV7.out).far (p := ⟨w3.heap.size, 0, none⟩) (by have := DV.out; simp <;> omega) _).far (p := ⟨w3.heap.size, 1, none⟩) (by have := DV.out; simp <;> omega) _).far (p := ⟨w3.heap.size, 2, none⟩) (by have := DV.out; simp <;> omega) _)
  clear RV7
  have Ss8 := hide (show StkAt W8 W8.heap.size b1 l1 b2 l2 S1 by rw [← hW8]; exact StkAt.put (StkAt.put (StkAt.put (Ss6.out) ((RS7.out).cell (k := 0) rfl) rfl _) (((RS7.out).set_ 0 _).cell (k := 1) rfl) rfl _) ((((RS7.out).set_ 0 _).set_ 1 _).cell (k := 2) rfl) rfl _)
  clear Ss6
  have B8 := hide (show Below w.heap.size w W8 by rw [← hW8]; exact below_put (below_put (below_put (B7.out) (by have := G5.out; omega)) (by have := G5.out; omega)) (by have := G5.out; omega))
  clear hW8 RS7
  rw [HW8.out]
  clear fS0 fS1 fS2 yS0 yS1 yS2
  have hcv : IntKind.i64.wrap (q0 : Int) = (q0 : Int) := by rw [IntKind.wrap_i64]; omega
  have hcp : IntKind.i64.wrap (p : Int) = (p : Int) := by rw [IntKind.wrap_i64]; omega
  go_wp2_with fail
  go_loopw [9, 11] (fun e i wr => e = .int .i64 0 ∧ UndRel k X w w3.heap.size i wr) (fun e i _ => 8 - (intOf i).toNat)
  case atStart => exact ⟨rfl, 0, S1, b1, l1, b2, l2, by omega, rfl, HU, RV8, RS8, Ss8, B8⟩
  case round =>
    obtain ⟨rfl, q, S, a1, k1, a2, k2, hq, rfl, HI, RV, RS, SS, BB⟩ := hrel
    clear RV8 RS8 Ss8 B8 HU
    by_cases hlt : q < 8
    · by_cases hqk : q = k
      · subst hqk
        have HN := hide (und_skip HI.out)
        go_wp2_with fail
        exact ⟨⟨rfl, q + 1, S, a1, k1, a2, k2, by omega, by go_num, HN, RV, RS, SS, BB⟩, by simp [intOf]; omega⟩
      · have HN := hide (und_next (X := X) HI.out hlt hqk)
        have hbq : ((q : Int) == (k : Int)) = false := by simp; omega
        have cs := store_any (q : Int) 1 X hX wr SS
        rw [(und_store (X := X) HI.out hlt).1] at cs
        obtain ⟨S2, hS2⟩ : ∃ T, storeR S (q : Int) 1 X = T := ⟨_, rfl⟩
        rw [hS2] at cs HN
        clear hS2
        have fV0 := RV.out.cell (k := 0) rfl
        have fV1 := RV.out.cell (k := 1) rfl
        have fS0 := RS.out.cell (k := 0) rfl
        have fS1 := RS.out.cell (k := 1) rfl
        have fS2 := RS.out.cell (k := 2) rfl
        go_wp2_with fail
        go_fit (cs)
        rintro e w9 ⟨d1, m1, d2, m2, rfl, hS9, hb9⟩
        have Ss9 := hide hS9
        clear hS9
        have RV10 := hide (RV.out.call hb9)
        clear RV
        have RS10 := hide (RS.out.call hb9)
        clear RS
        have B10 := hide (below_call BB.out hb9)
        clear BB
        clear hb9
        clear fV0 fV1 fS0 fS1 fS2
        have fS0 := RS10.out.cell (k := 0) rfl
        have fS1 := RS10.out.cell (k := 1) rfl
        have fS2 := RS10.out.cell (k := 2) rfl
        have yS0 := RS10.out.free 0
        have yS1 := RS10.out.free 1
        have yS2 := RS10.out.free 2
        obtain ⟨W11, hW11⟩ : ∃ W, ((w9.setCell ⟨w3.heap.size, 0, none⟩ (.slice d1 S2.bs.length m1)).setCell ⟨w3.heap.size, 1, none⟩ (.slice d2 S2.bs.length m2)).setCell ⟨w3.heap.size, 2, none⟩ (.int .i64 (S2.sp : Int)) = W := ⟨_, rfl⟩
        have HW11 := hide hW11
        have RS11 := hide (show Row W11 (w3.heap.size) 25 [.slice d1 S2.bs.length m1, .slice d2 S2.bs.length m2, .int .i64 (S2.sp : Int)] by rw [← hW11]; exact (((RS10.out).set_ 0 _).set_ 1 _).set_ 2 _)
        have RV11 := hide (show Row W11 (w.heap.size) 42 [.int .u64 (lo X), .int .u64 (hi X)] by rw [← hW11]; exact (((RV10.out).far (p := ⟨w3.heap.size, 0, none⟩) (by have := DV.out; simp <;> omega) _).far (p := ⟨w3.heap.size, 1, none⟩) (by have := DV.out; simp <;> omega) _).far (p := ⟨w3.heap.size, 2, none⟩) (by have := DV.out; simp <;> omega) _)
        clear RV10
        have Ss11 := hide (show StkAt W11 W11.heap.size d1 m1 d2 m2 S2 by rw [← hW11]; exact StkAt.put (StkAt.put (StkAt.put (Ss9.out) ((RS10.out).cell (k := 0) rfl) rfl _) (((RS10.out).set_ 0 _).cell (k := 1) rfl) rfl _) ((((RS10.out).set_ 0 _).set_ 1 _).cell (k := 2) rfl) rfl _)
        clear Ss9
        have B11 := hide (show Below w.heap.size w W11 by rw [← hW11]; exact below_put (below_put (below_put (B10.out) (by have := G5.out; omega)) (by have := G5.out; omega)) (by have := G5.out; omega))
        clear hW11 RS10
        go_wp2_with fail
        rw [HW11.out]
        exact ⟨⟨rfl, q + 1, S2, d1, m1, d2, m2, by omega, by go_num, HN, RV11, RS11, Ss11, B11⟩, by simp [intOf]; omega⟩
    · obtain rfl : q = 8 := by omega
      obtain ⟨lE, lB, lV⟩ := und_load HI.out hk8
      obtain ⟨mE, mB, mR⟩ := und_move (d := 8 + d) HI.out hk8 (by omega)
      rw [show ((8 + d : Nat) : Int) = 8 + (d : Int) by omega] at mE mB mR
      obtain ⟨fE, gE, gB⟩ := und_full (X := X) HI.out hk8
      have cl := fun W HS => load_any (A1 := a1) (A2 := a2) (c1 := k1) (c2 := k2) (S := S) 0 8 (by unfold isI; omega) W HS
      unfold LoadPost at cl
      simp only [lE, lB, lV] at cl
      have cm := fun W HS => move_any (A1 := a1) (A2 := a2) (c1 := k1) (c2 := k2) (S := S) (8 + (d : Int)) 0 8 W HS
      simp only [mE, mB, mR] at cm
      have cs := fun W HS => store_any (A1 := a1) (A2 := a2) (c1 := k1) (c2 := k2) (S := S) (k : Int) 1 X hX W HS
      simp only [fE] at cs
      obtain ⟨S2, hS2⟩ : ∃ T, storeR S (k : Int) 1 X = T := ⟨_, rfl⟩
      rw [hS2] at gE gB
      simp only [hS2] at cs
      have cl2 := fun (d1 : Option Addr) (m1 : Nat) (d2 : Option Addr) (m2 : Nat) W HS => load_any (A1 := d1) (A2 := d2) (c1 := m1) (c2 := m2) (S := S2) 0 8 (by unfold isI; omega) W HS
      unfold LoadPost at cl2
      simp only [gE, gB] at cl2
      obtain ⟨V2, hV2⟩ : ∃ V, loadV S2 0 8 = V := ⟨_, rfl⟩
      simp only [hV2] at cl2
      clear lE lB lV mE mB mR fE gE gB hS2 hV2
      have fV0 := RV.out.cell (k := 0) rfl
      have fV1 := RV.out.cell (k := 1) rfl
      have fS0 := RS.out.cell (k := 0) rfl
      have fS1 := RS.out.cell (k := 1) rfl
      have fS2 := RS.out.cell (k := 2) rfl
      go_upto_region 12 with (fail)
      go_wp2_with fail
      refine (cl _ SS).mono ?_
      rintro e w9 ⟨rfl, hb9⟩
      have RV10 := hide (RV.out.call hb9)
      clear RV
      have RS10 := hide (RS.out.call hb9)
      clear RS
      have Ss10 := hide (SS.out.call hb9)
      clear SS
      have B10 := hide (below_call BB.out hb9)
      clear BB
      clear hb9
      go_upto_region 13 with (fail)
      obtain ⟨W11, hW11⟩ : ∃ W, w9.alloc (.cells #[.int .u64 (lo 0), .int .u64 (hi 0)] 42) = W := ⟨_, rfl⟩
      have HW11 := hide hW11
      have RV11 := hide (show Row W11 (w.heap.size) 42 [.int .u64 (lo X), .int .u64 (hi X)] by rw [← hW11]; exact RV10.out.alloc _)
      clear RV10
      have RS11 := hide (show Row W11 (w3.heap.size) 25 [.slice a1 S.bs.length k1, .slice a2 S.bs.length k2, .int .i64 (S.sp : Int)] by rw [← hW11]; exact RS10.out.alloc _)
      clear RS10
      have RL11 := hide (show Row W11 (w9.heap.size) 42 [.int .u64 (lo 0), .int .u64 (hi 0)] by rw [← hW11]; exact Row.new w9 _ _)
      have Ss11 := hide (show StkAt W11 W11.heap.size a1 k1 a2 k2 S by rw [← hW11]; exact Ss10.out.alloc _)
      clear Ss10
      have L11 := hide (show w9.heap.size < W11.heap.size by rw [← hW11]; simp)
      have G11 := hide B10.out.size
      have B11 := hide (show Below w.heap.size w W11 by rw [← hW11]; exact B10.out.alloc B10.out.size _)
      clear hW11
      rw [HW11.out]
      clear fV0 fV1 fS0 fS1 fS2
      have fV0 := RV11.out.cell (k := 0) rfl
      have fV1 := RV11.out.cell (k := 1) rfl
      have fS0 := RS11.out.cell (k := 0) rfl
      have fS1 := RS11.out.cell (k := 1) rfl
      have fS2 := RS11.out.cell (k := 2) rfl
      go_wp2_with fail
      go_fit (cm _ Ss11)
      rintro e w12 ⟨e1, n1, e2, n2, rfl, hS12, hb12⟩
      have St12 := hide hS12
      clear hS12
      have RV13 := hide (RV11.out.call hb12)
      clear RV11
      have RS13 := hide (RS11.out.call hb12)
      clear RS11
      have Ss13 := hide (Ss11.out.call hb12)
      clear Ss11
      have B13 := hide (below_call B11.out hb12)
      clear B11
      clear hb12
      go_upto_region 14 with (fail)
      obtain ⟨W14, hW14⟩ : ∃ W, w12.alloc (.cells #[.slice e1 S.bs.length n1, .slice e2 S.bs.length n2, .int .i64 (S.sp : Int)] 25) = W := ⟨_, rfl⟩
      have HW14 := hide hW14
      have RV14 := hide (show Row W14 (w.heap.size) 42 [.int .u64 (lo X), .int .u64 (hi X)] by rw [← hW14]; exact RV13.out.alloc _)
      clear RV13
      have RS14 := hide (show Row W14 (w3.heap.size) 25 [.slice a1 S.bs.length k1, .slice a2 S.bs.length k2, .int .i64 (S.sp : Int)] by rw [← hW14]; exact RS13.out.alloc _)
      clear RS13
      have RT14 := hide (show Row W14 (w12.heap.size) 25 [.slice e1 S.bs.length n1, .slice e2 S.bs.length n2, .int .i64 (S.sp : Int)] by rw [← hW14]; exact Row.new w12 _ _)
      have Ss14 := hide (show StkAt W14 W14.heap.size a1 k1 a2 k2 S by rw [← hW14]; exact Ss13.out.alloc _)
      clear Ss13
      have St14 := hide (show StkAt W14 W14.heap.size e1 n1 e2 n2 S by rw [← hW14]; exact St12.out.alloc _)
      clear St12
      have L14 := hide (show w12.heap.size < W14.heap.size by rw [← hW14]; simp)
      have G14 := hide B13.out.size
      have B14 := hide (show Below w.heap.size w W14 by rw [← hW14]; exact B13.out.alloc B13.out.size _)
      clear hW14
      rw [HW14.out]
      clear fV0 fV1 fS0 fS1 fS2
      have fV0 := RV14.out.cell (k := 0) rfl
      have fV1 := RV14.out.cell (k := 1) rfl
      have fS0 := RS14.out.cell (k := 0) rfl
      have fS1 := RS14.out.cell (k := 1) rfl
      have fS2 := RS14.out.cell (k := 2) rfl
      go_wp2_with fail
      go_fit (cs _ Ss14)
      rintro e w15 ⟨d1, m1, d2, m2, rfl, hS15, hb15⟩
      have Sf15 := hide hS15
      clear hS15
      have RV16 := hide (RV14.out.call hb15)
      clear RV14
      have RS16 := hide (RS14.out.call hb15)
      clear RS14
      have RT16 := hide (RT14.out.call hb15)
      clear RT14
      have Ss16 := hide (Ss14.out.call hb15)
      clear Ss14
      have St16 := hide (St14.out.call hb15)
      clear St14
      have B16 := hide (below_call B14.out hb15)
      clear B14
      clear hb15
      go_upto_region 15 with (fail)
      obtain ⟨W17, hW17⟩ : ∃ W, w15.alloc (.cells #[.slice d1 S2.bs.length m1, .slice d2 S2.bs.length m2, .int .i64 (S2.sp : Int)] 25) = W := ⟨_, rfl⟩
      have HW17 := hide hW17
      have RV17 := hide (show Row W17 (w.heap.size) 42 [.int .u64 (lo X), .int .u64 (hi X)] by rw [← hW17]; exact RV16.out.alloc _)
      clear RV16
      have RS17 := hide (show Row W17 (w3.heap.size) 25 [.slice a1 S.bs.length k1, .slice a2 S.bs.length k2, .int .i64 (S.sp : Int)] by rw [← hW17]; exact RS16.out.alloc _)
      clear RS16
      have RT17 := hide (show Row W17 (w12.heap.size) 25 [.slice e1 S.bs.length n1, .slice e2 S.bs.length n2, .int .i64 (S.sp : Int)] by rw [← hW17]; exact RT16.out.alloc _)
      clear RT16
      have RF17 := hide (show Row W17 (w15.heap.size) 25 [.slice d1 S2.bs.length m1, .slice d2 S2.bs.length m2, .int .i64 (S2.sp : Int)] by rw [← hW17]; exact Row.new w15 _ _)
      have Ss17 := hide (show StkAt W17 W17.heap.size a1 k1 a2 k2 S by rw [← hW17]; exact Ss16.out.alloc _)
      clear Ss16
      have St17 := hide (show StkAt W17 W17.heap.size e1 n1 e2 n2 S by rw [← hW17]; exact St16.out.alloc _)
      clear St16
      have Sf17 := hide (show StkAt W17 W17.heap.size d1 m1 d2 m2 S2 by rw [← hW17]; exact Sf15.out.alloc _)
      clear Sf15
      have L17 := hide (show w15.heap.size < W17.heap.size by rw [← hW17]; simp)
      have G17 := hide B16.out.size
      have B17 := hide (show Below w.heap.size w W17 by rw [← hW17]; exact B16.out.alloc B16.out.size _)
      clear hW17
      rw [HW17.out]
      clear fV0 fV1 fS0 fS1 fS2
      have fF0 := RF17.out.cell (k := 0) rfl
      have fF1 := RF17.out.cell (k := 1) rfl
      have fF2 := RF17.out.cell (k := 2) rfl
      go_wp2_with fail
      refine (cl2 _ _ _ _ _ Sf17).mono ?_
      rintro e w18 ⟨rfl, hb18⟩
      have RV19 := hide (RV17.out.call hb18)
      clear RV17
      have RS19 := hide (RS17.out.call hb18)
      clear RS17
      have RT19 := hide (RT17.out.call hb18)
      clear RT17
      have RF19 := hide (RF17.out.call hb18)
      clear RF17
      have Ss19 := hide (Ss17.out.call hb18)
      clear Ss17
      have St19 := hide (St17.out.call hb18)
      clear St17
      have Sf19 := hide (Sf17.out.call hb18)
      clear Sf17
      have B19 := hide (below_call B17.out hb18)
      clear B17
      clear hb18
      go_upto_region 16 with (fail)
      obtain ⟨W20, hW20⟩ : ∃ W, w18.alloc (.cells #[.int .u64 (lo V2), .int .u64 (hi V2)] 42) = W := ⟨_, rfl⟩
      have HW20 := hide hW20
      have RV20 := hide (show Row W20 (w.heap.size) 42 [.int .u64 (lo X), .int .u64 (hi X)] by rw [← hW20]; exact RV19.out.alloc _)
      clear RV19
      have RS20 := hide (show Row W20 (w3.heap.size) 25 [.slice a1 S.bs.length k1, .slice a2 S.bs.length k2, .int .i64 (S.sp : Int)] by rw [← hW20]; exact RS19.out.alloc _)
      clear RS19
      have RT20 := hide (show Row W20 (w12.heap.size) 25 [.slice e1 S.bs.length n1, .slice e2 S.bs.length n2, .int .i64 (S.sp : Int)] by rw [← hW20]; exact RT19.out.alloc _)
      clear RT19
      have RF20 := hide (show Row W20 (w15.heap.size) 25 [.slice d1 S2.bs.length m1, .slice d2 S2.bs.length m2, .int .i64 (S2.sp : Int)] by rw [← hW20]; exact RF19.out.alloc _)
      clear RF19
      have RM20 := hide (show Row W20 (w18.heap.size) 42 [.int .u64 (lo V2), .int .u64 (hi V2)] by rw [← hW20]; exact Row.new w18 _ _)
      have Ss20 := hide (show StkAt W20 W20.heap.size a1 k1 a2 k2 S by rw [← hW20]; exact Ss19.out.alloc _)
      clear Ss19
      have St20 := hide (show StkAt W20 W20.heap.size e1 n1 e2 n2 S by rw [← hW20]; exact St19.out.alloc _)
      clear St19
      have Sf20 := hide (show StkAt W20 W20.heap.size d1 m1 d2 m2 S2 by rw [← hW20]; exact Sf19.out.alloc _)
      clear Sf19
      have L20 := hide (show w18.heap.size < W20.heap.size by rw [← hW20]; simp)
      have G20 := hide B19.out.size
      have B20 := hide (show Below w.heap.size w W20 by rw [← hW20]; exact B19.out.alloc B19.out.size _)
      clear hW20
      rw [HW20.out]
      clear fF0 fF1 fF2
      have fS0 := RS20.out.cell (k := 0) rfl
      have fS1 := RS20.out.cell (k := 1) rfl
      have fS2 := RS20.out.cell (k := 2) rfl
      have fT0 := RT20.out.cell (k := 0) rfl
      have fT1 := RT20.out.cell (k := 1) rfl
      have fT2 := RT20.out.cell (k := 2) rfl
      go_wp2_with fail
      refine (rsame_stk _ Ss20 St20).mono ?_
      rintro e w21 ⟨rfl, hb21⟩
      have RV22 := hide (RV20.out.call hb21)
      clear RV20
      have RS22 := hide (RS20.out.call hb21)
      clear RS20
      have RT22 := hide (RT20.out.call hb21)
      clear RT20
      have RF22 := hide (RF20.out.call hb21)
      clear RF20
      have Ss22 := hide (Ss20.out.call hb21)
      clear Ss20
      have St22 := hide (St20.out.call hb21)
      clear St20
      have Sf22 := hide (Sf20.out.call hb21)
      clear Sf20
      have B22 := hide (below_call B20.out hb21)
      clear B20
      clear hb21
      go_wp2_with fail
      go_ret
      exact ⟨rfl, B22.out⟩
end Go.Proofs.Ytlkikjgapingjaa
