import Derived.Test.YtipjeihfhnilcaaMKpopm
import Derived.Test.YtipjeihfhnilcaaMDcw
import Derived.Test.YtipjeihfhnilcaaMVrtr
import Derived.Test.YtipjeihfhnilcaaMVeq
import Derived.Test.YtipjeihfhnilcaaMLaw
import Derived.Test.YtipjeihfhnilcaaMVopen
import Derived.Deep.DeepFit
import Derived.Deep.RegionLaw
import Derived.Deep.DeepCutAuto
import Derived.Deep.QuietTactic
import Derived.BigQuiet
import Derived.Outline
set_option linter.unusedVariables false
set_option linter.unusedSimpArgs false
section
/-
  Plain mathematics of the law on loads after stores. No function of the program is named here.
-/
namespace Go.Proofs.Ytipjeihfhnilcaa
open Go.RowKit

structure LasS (S : Sk) : Prop where
  ok : S.Ok
  len : S.bs.length = 100
  sp : S.sp = 48
theorem las_start : newE 100 16 = 0 ∧ (∀ k : Int, 0 ≤ k → fitE (newR 100 16) k 8 = 4 ∧ ∀ X, storeR (newR 100 16) k 8 X = newR 100 16) ∧ pushE (newR 100 16) 48 = 0 ∧ LasS (pushR (newR 100 16) 48) := by
  have e1 : newR 100 16 = newS 100 96 := by
    unfold newR
    rw [if_pos (by decide)]
    rfl
  have k0 : (newS 100 96).Ok := newS_ok (by omega) (by omega)
  have l0 : (newS 100 96).bs.length = 100 := by simp [newS]
  obtain ⟨p1, p2⟩ := push_ok (S := newS 100 96) (n := 48) (by show 48 ≤ 96; omega)
  rw [show ((48 : Nat) : Int) = 48 from rfl] at p1 p2
  rw [e1, p2]
  refine ⟨by decide +kernel, fun k hk => ?_, p1, k0.push (by show 48 ≤ 96; omega), l0, rfl⟩
  have hf : fitB (newS 100 96) k 8 = false := by
    cases e : fitB (newS 100 96) k 8 with
    | false => rfl
    | true =>
      obtain ⟨_, _, h3⟩ := fitB_iff.1 e
      rw [l0] at h3
      have : ((newS 100 96).sp : Int) = 96 := rfl
      omega
  exact ⟨(store_no (X := 0) hf).1, fun X => (store_no hf).2⟩
theorem store_bs {S : Sk} {a n X j : Nat} (h : a + n ≤ S.bs.length) (hj : ¬ (a ≤ j ∧ j < a + n)) : (storeS S a n X).bs[j]? = S.bs[j]? := by
  show (splice S.bs a (bytesV X n))[j]? = _
  rw [splice_at _ _ _ (by rw [bytesV_length]; omega), bytesV_length]
  by_cases h1 : j < a
  · rw [if_pos h1]
  · rw [if_neg h1, if_neg (by omega)]
theorem las_store {S : Sk} (h : LasS S) (u n X : Nat) (hu : u < 40) (hn : n = 1 ∨ n = 2 ∨ n = 4 ∨ n = 8) :
    fitE S (u : Int) (n : Int) = 0 ∧ (storeR S (u : Int) (n : Int) X).bs.length = 100 ∧ fitE (storeR S (u : Int) (n : Int) X) (u : Int) (n : Int) = 0 ∧ loadB (storeR S (u : Int) (n : Int) X) (u : Int) (n : Int) = true ∧ loadV (storeR S (u : Int) (n : Int) X) (u : Int) (n : Int) = truncV X (n : Int) ∧
      (∀ i, i < 100 → ¬ (48 + u ≤ i ∧ i < 48 + u + n) → (storeR S (u : Int) (n : Int) X).bs[i]? = S.bs[i]? ∧ (storeR S (u : Int) (n : Int) X).us[i]? = S.us[i]?) ∧ (storeR S (u : Int) (n : Int) X).Ok := by
  have hz : szB (n : Int) = true := by rcases hn with rfl | rfl | rfl | rfl <;> decide
  have hN : szN (n : Int) = n := by have := szN_yes hz; omega
  have hf : fitB S (u : Int) (n : Int) = true := fit_ok hz (by rw [h.len, h.sp]; omega)
  obtain ⟨f1, f2⟩ := store_yes (X := X) hf
  rw [f1, f2, h.sp]
  have hl : 48 + u + n ≤ S.bs.length := by rw [h.len]; omega
  have hk := h.ok.store (X := X) hl
  have hlen : (storeS S (48 + u) n X).bs.length = 100 := (put_len (by rw [bytesV_length]; exact hl)).trans h.len
  have hsp : (storeS S (48 + u) n X).sp = 48 := h.sp
  have hf2 : fitB (storeS S (48 + u) n X) (u : Int) (n : Int) = true := fit_ok hz (by rw [hlen, hsp]; omega)
  have hu2 : usedB (storeS S (48 + u) n X) ((storeS S (48 + u) n X).sp + u) n = true := by
    rw [hsp]
    have := used_put (S := S) (a := 48 + u) (zs := bytesV X n) (by rw [bytesV_length, h.ok.len]; exact hl)
    rw [bytesV_length] at this
    exact this
  obtain ⟨l1, l2, l3⟩ := load_yes hf2 hu2
  refine ⟨rfl, hlen, l1, l2, ?_, fun i hi hn' => ⟨store_bs hl hn', ?_⟩, hk⟩
  · rw [l3, hsp]
    have := cut_put (S := S) (a := 48 + u) (zs := bytesV X n) (by rw [bytesV_length]; exact hl)
    rw [bytesV_length] at this
    rw [show cutS (storeS S (48 + u) n X) (48 + u) n = bytesV X n from this, List.take_of_length_le (by rw [bytesV_length]; omega), valOf_bytesV]
    unfold truncV
    rw [hN]
  · rw [store_us h.ok hl]
    by_cases e1 : i < 48 + u
    · rw [if_pos e1]
    · rw [if_neg e1, if_neg (by omega)]
end Go.Proofs.Ytipjeihfhnilcaa
end

section
/-
  The law on loads after stores, walked: it returns true. Conditions: those of the types.
-/
namespace Go.Proofs.Ytipjeihfhnilcaa
open Go.RowKit
attribute [local go_sem ↓] Go.wp_at_zero Go.wp_at_succ

/-- What holds at the head of the first loop: the stack in its box, beside a list of choices. -/
def LasRel (S0 : Sk) (a1 : Option Addr) (k1 : Nat) (a2 : Option Addr) (k2 : Nat) (X : Nat) (w : World) (g gc : Nat) (wr : World) : Prop :=
  Hid (Row wr w.heap.size 39 [.int .u64 (lo X), .int .u64 (hi X)]) ∧ Hid (Row wr g 29 [.slice a1 S0.bs.length k1, .slice a2 S0.bs.length k2, .int .i64 (S0.sp : Int)]) ∧ Hid (StkAt wr wr.heap.size a1 k1 a2 k2 S0) ∧ Hid (Codes wr gc) ∧ Hid (Below w.heap.size w wr)
/-- What the choice of a place and a size leaves. -/
def LasCut (S1 : Sk) (b1 : Option Addr) (l1 : Nat) (b2 : Option Addr) (l2 : Nat) (f1 : Option Addr) (o1 : Nat) (f2 : Option Addr) (o2 : Nat) (X : Nat) (w : World) (g h : Nat) (va vb : Value) (wx : World) : Prop :=
  ∃ u n : Nat, u < 40 ∧ (n = 1 ∨ n = 2 ∨ n = 4 ∨ n = 8) ∧ va = .int .i64 (u : Int) ∧ vb = .int .i64 (n : Int) ∧ Row wx w.heap.size 39 [.int .u64 (lo X), .int .u64 (hi X)] ∧ Row wx g 29 [.slice b1 S1.bs.length l1, .slice b2 S1.bs.length l2, .int .i64 (S1.sp : Int)] ∧ StkAt wx wx.heap.size b1 l1 b2 l2 S1 ∧
    Row wx h 29 [.slice f1 S1.bs.length o1, .slice f2 S1.bs.length o2, .int .i64 (S1.sp : Int)] ∧ StkAt wx wx.heap.size f1 o1 f2 o2 S1 ∧ Below w.heap.size w wx

theorem pick4 {m : Nat} (h : (m : Int) < 4) : ∃ sz : Nat, (sz = 1 ∨ sz = 2 ∨ sz = 4 ∨ sz = 8) ∧ ([.int .i64 1, .int .i64 2, .int .i64 4, .int .i64 8] : List Value)[m]? = some (.int .i64 (sz : Int)) := by
  rcases (show m = 0 ∨ m = 1 ∨ m = 2 ∨ m = 3 by omega) with rfl | rfl | rfl | rfl
  · exact ⟨1, by omega, rfl⟩
  · exact ⟨2, by omega, rfl⟩
  · exact ⟨4, by omega, rfl⟩
  · exact ⟨8, by omega, rfl⟩

set_option maxRecDepth 100000 in
set_option maxHeartbeats 8000000 in
theorem las_walk (A : Option Addr) (n c : Nat) (zs : List Int) (X : Nat) (w : World) (hX : X < two128) (hA : Hid (A = none → c = 0)) (hn : Hid (zs.length = n)) (hnc : n ≤ c) (hm : n ≤ 9223372036854775807) (hs : Hid (Sees w w.heap.size A (cellsU8 zs))) (hz : Hid (∀ z ∈ zs, 0 ≤ z ∧ z ≤ 255)) :
    Calls Try.prog 4 #[.slice A n c, vv X] w fun e w' => e = .returned (.bool true) ∧ Below w.heap.size w w' := by
  obtain ⟨hE0, hSt, hE1, hL⟩ := las_start
  have cn := fun W => stknew_any 100 16 W
  obtain ⟨S0, hS0⟩ : ∃ S, newR 100 16 = S := ⟨_, rfl⟩
  simp only [hE0, hS0] at cn
  rw [hS0] at hE1 hL
  simp only [hS0] at hSt
  have cp := fun (a1 : Option Addr) (k1 : Nat) (a2 : Option Addr) (k2 : Nat) W HS => push_any (A1 := a1) (A2 := a2) (c1 := k1) (c2 := k2) (S := S0) 48 W HS
  obtain ⟨S1, hS1⟩ : ∃ S, pushR S0 48 = S := ⟨_, rfl⟩
  simp only [hE1, hS1] at cp
  rw [hS1] at hL
  have HL := hide hL
  have HSt := hide hSt
  clear hE0 hSt hE1 hL hS0 hS1
  obtain ⟨W0, hW0⟩ : ∃ W, w.alloc (.cells #[.int .u64 (lo X), .int .u64 (hi X)] 39) = W := ⟨_, rfl⟩
  have HW0 := hide hW0
  have RV0 := hide (show Row W0 (w.heap.size) 39 [.int .u64 (lo X), .int .u64 (hi X)] by rw [← hW0]; exact (Row.new w 39 [.int .u64 (lo X), .int .u64 (hi X)]))
  have B0 := hide (show Below w.heap.size w W0 by rw [← hW0]; exact below1 w _)
  have Z0 := hide (show W0.heap.size = w.heap.size + 1 by rw [← hW0]; simp)
  clear hW0
  go_enter Try.func4, Try.ntmps4
  go_upto_region 1 with (fail)
  rw [HW0.out]
  go_wp2_with fail
  refine (awake9_any _).mono ?_
  rintro e w1 ⟨rfl, hb1⟩
  have RV2 := hide (RV0.out.call hb1)
  clear RV0
  have B2 := hide (below_call B0.out hb1)
  clear B0
  clear hb1
  go_wp2_with fail
  have cnew := new_any A n c zs 60 w1 hA hn hnc hm (by omega) (hide ((hs.out.below B2.out).more B2.out.size)) hz
  rw [show ((60 : Nat) : Int) = 60 from rfl] at cnew
  have GC3 := hide B2.out.size
  go_fit (cnew)
  rintro e w3 ⟨rfl, hC3, hb3⟩
  obtain ⟨gc, hgc⟩ : ∃ g, w1.heap.size = g := ⟨_, rfl⟩
  rw [hgc] at hC3 GC3
  have HGC := hide hgc
  have RV4 := hide (RV2.out.call hb3)
  clear RV2
  have B4 := hide (below_call B2.out hb3)
  clear B2
  clear hb3
  have Cc3 := hide hC3
  clear hC3 cnew hgc
  rw [HGC.out]
  go_wp2_with fail
  go_fit (cn _)
  rintro e w5 ⟨a1, k1, a2, k2, rfl, hS5, hb5⟩
  have Ss5 := hide hS5
  clear hS5
  have RV6 := hide (RV4.out.call hb5)
  clear RV4
  have Cc6 := hide (Cc3.out.below hb5)
  clear Cc3
  have B6 := hide (below_call B4.out hb5)
  clear B4
  clear hb5
  go_upto_region 5 with (fail)
  have DV := hide (show w.heap.size < w5.heap.size from RV6.out.lt)
  obtain ⟨W7, hW7⟩ : ∃ W, w5.alloc (.cells #[.slice a1 S0.bs.length k1, .slice a2 S0.bs.length k2, .int .i64 (S0.sp : Int)] 29) = W := ⟨_, rfl⟩
  have HW7 := hide hW7
  have RV7 := hide (show Row W7 (w.heap.size) 39 [.int .u64 (lo X), .int .u64 (hi X)] by rw [← hW7]; exact RV6.out.alloc _)
  clear RV6
  have RS7 := hide (show Row W7 (w5.heap.size) 29 [.slice a1 S0.bs.length k1, .slice a2 S0.bs.length k2, .int .i64 (S0.sp : Int)] by rw [← hW7]; exact Row.new w5 _ _)
  have Ss7 := hide (show StkAt W7 W7.heap.size a1 k1 a2 k2 S0 by rw [← hW7]; exact Ss5.out.alloc _)
  clear Ss5
  have Cc7 := hide (show Codes W7 gc by rw [← hW7]; exact Cc6.out.alloc _)
  clear Cc6
  have L7 := hide (show w5.heap.size < W7.heap.size by rw [← hW7]; simp)
  have G7 := hide B6.out.size
  have B7 := hide (show Below w.heap.size w W7 by rw [← hW7]; exact B6.out.alloc B6.out.size _)
  clear hW7
  rw [HW7.out]
  go_wp2_with fail
  go_fit (next_any gc 5 _ Cc7 (by omega) (by omega))
  rintro e w8 ⟨v, rfl, v0, v1, hC8, hg8, -⟩
  have RV8 := hide (RV7.out.next Cc7.out (by decide) hg8)
  clear RV7
  have RS8 := hide (RS7.out.next Cc7.out (by decide) hg8)
  clear RS7
  have Ss8 := hide (Ss7.out.next Cc7.out hg8)
  clear Ss7
  have B8 := hide (below_grown B7.out hg8 GC3.out B7.out.size)
  clear B7
  have Cc8 := hide hC8
  clear Cc7 hC8 hg8
  go_wp2_with fail
  go_loopw [8] (fun i wr => (∃ q : Int, 0 ≤ q ∧ q < 5 ∧ i = .int .i64 q) ∧ LasRel S0 a1 k1 a2 k2 X w w5.heap.size gc wr) (fun i _ => (intOf i).toNat)
  case atStart => exact ⟨⟨v, v0, v1, rfl⟩, RV8, RS8, Ss8, Cc8, B8⟩
  case round =>
    obtain ⟨⟨q, q0, q5, rfl⟩, RV, RS, SS, CC, BB⟩ := hrel
    clear RV8 RS8 Ss8 Cc8 B8 v0 v1
    by_cases hlt : 0 < q
    · go_upto_region 8 with (fail)
      have RV9 := hide (RV.out.drew)
      have RS9 := hide (RS.out.drew)
      have Ss9 := hide (show StkAt wr.drew wr.drew.heap.size a1 k1 a2 k2 S0 from SS.out.drewN 1)
      have Cc9 := hide (CC.out.drew)
      have B9 := hide (below_draws BB.out 1)
      have fS0 := RS9.out.cell (k := 0) rfl
      have fS1 := RS9.out.cell (k := 1) rfl
      have fS2 := RS9.out.cell (k := 2) rfl
      have fA0 := (RS9.out.alloc (.cells #[.slice none 0 0, .slice none 0 0, .int .i64 0] 29)).cell (k := 0) rfl
      have fA1 := (RS9.out.alloc (.cells #[.slice none 0 0, .slice none 0 0, .int .i64 0] 29)).cell (k := 1) rfl
      have fA2 := (RS9.out.alloc (.cells #[.slice none 0 0, .slice none 0 0, .int .i64 0] 29)).cell (k := 2) rfl
      have fB0 := ((RS.out.alloc (.cells #[.slice none 0 0, .slice none 0 0, .int .i64 0] 29)).drew).cell (k := 0) rfl
      have fB1 := ((RS.out.alloc (.cells #[.slice none 0 0, .slice none 0 0, .int .i64 0] 29)).drew).cell (k := 1) rfl
      have fB2 := ((RS.out.alloc (.cells #[.slice none 0 0, .slice none 0 0, .int .i64 0] 29)).drew).cell (k := 2) rfl
      go_cut [9, 10] (fun va vb wx => (∃ g9 : Nat, va = .pointer (some ⟨g9, 0, none⟩)) ∧ vb = .int .i64 4 ∧ LasRel S0 a1 k1 a2 k2 X w w5.heap.size gc wx)
      case first =>
        go_region_law
          (first
            | (      go_simp;       go_at_call 9;       refine (next_any gc 40 wr.drew Cc9 (by omega) (by omega)).mono ?_;       rintro e w10 ⟨u, rfl, u0, u1, hC10, hg10, -⟩;       have RV10 := hide (RV9.out.next Cc9.out (by decide) hg10);       clear RV9;       have RS10 := hide (RS9.out.next Cc9.out (by decide) hg10);       clear RS9;       have Ss10 := hide (Ss9.out.next Cc9.out hg10);       clear Ss9;       have B10 := hide (below_grown B9.out hg10 GC3.out B9.out.size);       clear B9;       have Cc10 := hide hC10;       clear Cc9 hC10 hg10;       have fS0 := RS10.out.cell (k := 0) rfl;       have fS1 := RS10.out.cell (k := 1) rfl;       have fS2 := RS10.out.cell (k := 2) rfl;       have fA0 := (RS10.out.alloc (.cells #[.slice none 0 0, .slice none 0 0, .int .i64 0] 29)).cell (k := 0) rfl;       have fA1 := (RS10.out.alloc (.cells #[.slice none 0 0, .slice none 0 0, .int .i64 0] 29)).cell (k := 1) rfl;       have fA2 := (RS10.out.alloc (.cells #[.slice none 0 0, .slice none 0 0, .int .i64 0] 29)).cell (k := 2) rfl;       dsimp only)
            | (      go_simp;       go_at_call 9;       have LYn := hide (show w5.heap.size < wr.heap.size ∧ w.heap.size < wr.heap.size from ⟨RS9.out.lt, RV9.out.lt⟩);       refine (next_any gc 40 (wr.drew.alloc (.cells #[.slice none 0 0, .slice none 0 0, .int .i64 0] 29)) (hide (Cc9.out.alloc (.cells #[.slice none 0 0, .slice none 0 0, .int .i64 0] 29))) (by omega) (by omega)).mono ?_;       rintro e w10 ⟨u, rfl, u0, u1, hC10, hg10, -⟩;       have RV10 := hide ((hide (RV9.out.alloc (.cells #[.slice none 0 0, .slice none 0 0, .int .i64 0] 29))).out.next (hide (Cc9.out.alloc (.cells #[.slice none 0 0, .slice none 0 0, .int .i64 0] 29))).out (by decide) hg10);       have RS10 := hide ((hide (RS9.out.alloc (.cells #[.slice none 0 0, .slice none 0 0, .int .i64 0] 29))).out.next (hide (Cc9.out.alloc (.cells #[.slice none 0 0, .slice none 0 0, .int .i64 0] 29))).out (by decide) hg10);       have RYn10 := hide ((hide (show Row (wr.drew.alloc (.cells #[.slice none 0 0, .slice none 0 0, .int .i64 0] 29)) (wr.heap.size) 29 [.slice none 0 0, .slice none 0 0, .int .i64 0] from Row.new wr.drew 29 [.slice none 0 0, .slice none 0 0, .int .i64 0])).out.next (hide (Cc9.out.alloc (.cells #[.slice none 0 0, .slice none 0 0, .int .i64 0] 29))).out (by decide) hg10);       have Ss10 := hide ((hide (Ss9.out.alloc (.cells #[.slice none 0 0, .slice none 0 0, .int .i64 0] 29))).out.next (hide (Cc9.out.alloc (.cells #[.slice none 0 0, .slice none 0 0, .int .i64 0] 29))).out hg10);       have B10 := hide (below_grown (hide (B9.out.alloc B9.out.size (.cells #[.slice none 0 0, .slice none 0 0, .int .i64 0] 29))).out hg10 GC3.out (hide (B9.out.alloc B9.out.size (.cells #[.slice none 0 0, .slice none 0 0, .int .i64 0] 29))).out.size);       have Cc10 := hide hC10;       clear hC10 hg10;       have fS0 := RS10.out.cell (k := 0) rfl;       have fS1 := RS10.out.cell (k := 1) rfl;       have fS2 := RS10.out.cell (k := 2) rfl;       have fYn0 := RYn10.out.cell (k := 0) rfl;       have fYn1 := RYn10.out.cell (k := 1) rfl;       have fYn2 := RYn10.out.cell (k := 2) rfl;       have yYn0 := RYn10.out.free 0;       have yYn1 := RYn10.out.free 1;       have yYn2 := RYn10.out.free 2;       have fA0 := (RS10.out.alloc (.cells #[.slice none 0 0, .slice none 0 0, .int .i64 0] 29)).cell (k := 0) rfl;       have fA1 := (RS10.out.alloc (.cells #[.slice none 0 0, .slice none 0 0, .int .i64 0] 29)).cell (k := 1) rfl;       have fA2 := (RS10.out.alloc (.cells #[.slice none 0 0, .slice none 0 0, .int .i64 0] 29)).cell (k := 2) rfl;       dsimp only)
            | (      go_simp;       go_at_call 16;       refine (value_any gc w10 Cc10).mono ?_;       rintro e w11 ⟨Y, rfl, hY, hC11, hg11⟩;       have RV11 := hide (RV10.out.next Cc10.out (by decide) hg11);       clear RV10;       have RS11 := hide (RS10.out.next Cc10.out (by decide) hg11);       clear RS10;       have RYn11 := hide (RYn10.out.next Cc10.out (by decide) hg11);       clear RYn10;       have Ss11 := hide (Ss10.out.next Cc10.out hg11);       clear Ss10;       have B11 := hide (below_grown B10.out hg11 GC3.out B10.out.size);       clear B10;       have Cc11 := hide hC11;       clear Cc10 hC11 hg11;       have fS0 := RS11.out.cell (k := 0) rfl;       have fS1 := RS11.out.cell (k := 1) rfl;       have fS2 := RS11.out.cell (k := 2) rfl;       have fYn0 := RYn11.out.cell (k := 0) rfl;       have fYn1 := RYn11.out.cell (k := 1) rfl;       have fYn2 := RYn11.out.cell (k := 2) rfl;       have yYn0 := RYn11.out.free 0;       have yYn1 := RYn11.out.free 1;       have yYn2 := RYn11.out.free 2;       have fA0 := (RS11.out.alloc (.cells #[.slice none 0 0, .slice none 0 0, .int .i64 0] 29)).cell (k := 0) rfl;       have fA1 := (RS11.out.alloc (.cells #[.slice none 0 0, .slice none 0 0, .int .i64 0] 29)).cell (k := 1) rfl;       have fA2 := (RS11.out.alloc (.cells #[.slice none 0 0, .slice none 0 0, .int .i64 0] 29)).cell (k := 2) rfl;       dsimp only)
            | (      go_simp;       go_at_call 16;       refine (value_any gc w10 Cc10).mono ?_;       rintro e w11 ⟨Y, rfl, hY, hC11, hg11⟩;       have RV11 := hide (RV10.out.next Cc10.out (by decide) hg11);       clear RV10;       have RS11 := hide (RS10.out.next Cc10.out (by decide) hg11);       clear RS10;       have Ss11 := hide (Ss10.out.next Cc10.out hg11);       clear Ss10;       have B11 := hide (below_grown B10.out hg11 GC3.out B10.out.size);       clear B10;       have Cc11 := hide hC11;       clear Cc10 hC11 hg11;       have fS0 := RS11.out.cell (k := 0) rfl;       have fS1 := RS11.out.cell (k := 1) rfl;       have fS2 := RS11.out.cell (k := 2) rfl;       have fA0 := (RS11.out.alloc (.cells #[.slice none 0 0, .slice none 0 0, .int .i64 0] 29)).cell (k := 0) rfl;       have fA1 := (RS11.out.alloc (.cells #[.slice none 0 0, .slice none 0 0, .int .i64 0] 29)).cell (k := 1) rfl;       have fA2 := (RS11.out.alloc (.cells #[.slice none 0 0, .slice none 0 0, .int .i64 0] 29)).cell (k := 2) rfl;       dsimp only)
            | (      go_simp;       go_at_call 16;       have LYv := hide (show w5.heap.size < w10.heap.size ∧ w.heap.size < w10.heap.size from ⟨RS10.out.lt, RV10.out.lt⟩);       refine (value_any gc (w10.alloc (.cells #[.slice none 0 0, .slice none 0 0, .int .i64 0] 29)) (hide (Cc10.out.alloc (.cells #[.slice none 0 0, .slice none 0 0, .int .i64 0] 29)))).mono ?_;       rintro e w11 ⟨Y, rfl, hY, hC11, hg11⟩;       have RV11 := hide ((hide (RV10.out.alloc (.cells #[.slice none 0 0, .slice none 0 0, .int .i64 0] 29))).out.next (hide (Cc10.out.alloc (.cells #[.slice none 0 0, .slice none 0 0, .int .i64 0] 29))).out (by decide) hg11);       have RS11 := hide ((hide (RS10.out.alloc (.cells #[.slice none 0 0, .slice none 0 0, .int .i64 0] 29))).out.next (hide (Cc10.out.alloc (.cells #[.slice none 0 0, .slice none 0 0, .int .i64 0] 29))).out (by decide) hg11);       have RYv11 := hide ((hide (show Row (w10.alloc (.cells #[.slice none 0 0, .slice none 0 0, .int .i64 0] 29)) (w10.heap.size) 29 [.slice none 0 0, .slice none 0 0, .int .i64 0] from Row.new w10 29 [.slice none 0 0, .slice none 0 0, .int .i64 0])).out.next (hide (Cc10.out.alloc (.cells #[.slice none 0 0, .slice none 0 0, .int .i64 0] 29))).out (by decide) hg11);       have Ss11 := hide ((hide (Ss10.out.alloc (.cells #[.slice none 0 0, .slice none 0 0, .int .i64 0] 29))).out.next (hide (Cc10.out.alloc (.cells #[.slice none 0 0, .slice none 0 0, .int .i64 0] 29))).out hg11);       have B11 := hide (below_grown (hide (B10.out.alloc B10.out.size (.cells #[.slice none 0 0, .slice none 0 0, .int .i64 0] 29))).out hg11 GC3.out (hide (B10.out.alloc B10.out.size (.cells #[.slice none 0 0, .slice none 0 0, .int .i64 0] 29))).out.size);       have Cc11 := hide hC11;       clear hC11 hg11;       have fS0 := RS11.out.cell (k := 0) rfl;       have fS1 := RS11.out.cell (k := 1) rfl;       have fS2 := RS11.out.cell (k := 2) rfl;       have fYv0 := RYv11.out.cell (k := 0) rfl;       have fYv1 := RYv11.out.cell (k := 1) rfl;       have fYv2 := RYv11.out.cell (k := 2) rfl;       have yYv0 := RYv11.out.free 0;       have yYv1 := RYv11.out.free 1;       have yYv2 := RYv11.out.free 2;       have fA0 := (RS11.out.alloc (.cells #[.slice none 0 0, .slice none 0 0, .int .i64 0] 29)).cell (k := 0) rfl;       have fA1 := (RS11.out.alloc (.cells #[.slice none 0 0, .slice none 0 0, .int .i64 0] 29)).cell (k := 1) rfl;       have fA2 := (RS11.out.alloc (.cells #[.slice none 0 0, .slice none 0 0, .int .i64 0] 29)).cell (k := 2) rfl;       dsimp only)
            | (      go_simp;       go_at_call 15;       have cs := store_any (A1 := a1) (A2 := a2) (c1 := k1) (c2 := k2) (S := S0) u 8 Y hY w11 Ss11;       rw [(HSt.out u u0).1, (HSt.out u u0).2 Y] at cs;       refine cs.mono ?_;       rintro e w12 ⟨d1, m1, d2, m2, rfl, hD12, hb12⟩;       have HD := hide hD12;       have RV13 := hide (RV11.out.call hb12);       clear RV11;       have RS13 := hide (RS11.out.call hb12);       clear RS11;       have RYn13 := hide (RYn11.out.call hb12);       clear RYn11;       have Ss13 := hide (Ss11.out.call hb12);       clear Ss11;       have Cc13 := hide (Cc11.out.below hb12);       clear Cc11;       have B13 := hide (below_call B11.out hb12);       clear B11;       clear hb12;       have fS0 := RS13.out.cell (k := 0) rfl;       have fS1 := RS13.out.cell (k := 1) rfl;       have fS2 := RS13.out.cell (k := 2) rfl;       have fYn0 := RYn13.out.cell (k := 0) rfl;       have fYn1 := RYn13.out.cell (k := 1) rfl;       have fYn2 := RYn13.out.cell (k := 2) rfl;       have yYn0 := RYn13.out.free 0;       have yYn1 := RYn13.out.free 1;       have yYn2 := RYn13.out.free 2;       have fA0 := (RS13.out.alloc (.cells #[.slice none 0 0, .slice none 0 0, .int .i64 0] 29)).cell (k := 0) rfl;       have fA1 := (RS13.out.alloc (.cells #[.slice none 0 0, .slice none 0 0, .int .i64 0] 29)).cell (k := 1) rfl;       have fA2 := (RS13.out.alloc (.cells #[.slice none 0 0, .slice none 0 0, .int .i64 0] 29)).cell (k := 2) rfl;       dsimp only)
            | (      go_simp;       go_at_call 15;       have cs := store_any (A1 := a1) (A2 := a2) (c1 := k1) (c2 := k2) (S := S0) u 8 Y hY w11 Ss11;       rw [(HSt.out u u0).1, (HSt.out u u0).2 Y] at cs;       refine cs.mono ?_;       rintro e w12 ⟨d1, m1, d2, m2, rfl, hD12, hb12⟩;       have HD := hide hD12;       have RV13 := hide (RV11.out.call hb12);       clear RV11;       have RS13 := hide (RS11.out.call hb12);       clear RS11;       have RYv13 := hide (RYv11.out.call hb12);       clear RYv11;       have Ss13 := hide (Ss11.out.call hb12);       clear Ss11;       have Cc13 := hide (Cc11.out.below hb12);       clear Cc11;       have B13 := hide (below_call B11.out hb12);       clear B11;       clear hb12;       have fS0 := RS13.out.cell (k := 0) rfl;       have fS1 := RS13.out.cell (k := 1) rfl;       have fS2 := RS13.out.cell (k := 2) rfl;       have fYv0 := RYv13.out.cell (k := 0) rfl;       have fYv1 := RYv13.out.cell (k := 1) rfl;       have fYv2 := RYv13.out.cell (k := 2) rfl;       have yYv0 := RYv13.out.free 0;       have yYv1 := RYv13.out.free 1;       have yYv2 := RYv13.out.free 2;       have fA0 := (RS13.out.alloc (.cells #[.slice none 0 0, .slice none 0 0, .int .i64 0] 29)).cell (k := 0) rfl;       have fA1 := (RS13.out.alloc (.cells #[.slice none 0 0, .slice none 0 0, .int .i64 0] 29)).cell (k := 1) rfl;       have fA2 := (RS13.out.alloc (.cells #[.slice none 0 0, .slice none 0 0, .int .i64 0] 29)).cell (k := 2) rfl;       dsimp only)
            | (      go_simp;       go_at_call 15;       have cs := store_any (A1 := a1) (A2 := a2) (c1 := k1) (c2 := k2) (S := S0) u 8 Y hY w11 Ss11;       rw [(HSt.out u u0).1, (HSt.out u u0).2 Y] at cs;       refine cs.mono ?_;       rintro e w12 ⟨d1, m1, d2, m2, rfl, hD12, hb12⟩;       have HD := hide hD12;       have RV13 := hide (RV11.out.call hb12);       clear RV11;       have RS13 := hide (RS11.out.call hb12);       clear RS11;       have Ss13 := hide (Ss11.out.call hb12);       clear Ss11;       have Cc13 := hide (Cc11.out.below hb12);       clear Cc11;       have B13 := hide (below_call B11.out hb12);       clear B11;       clear hb12;       have fS0 := RS13.out.cell (k := 0) rfl;       have fS1 := RS13.out.cell (k := 1) rfl;       have fS2 := RS13.out.cell (k := 2) rfl;       have fA0 := (RS13.out.alloc (.cells #[.slice none 0 0, .slice none 0 0, .int .i64 0] 29)).cell (k := 0) rfl;       have fA1 := (RS13.out.alloc (.cells #[.slice none 0 0, .slice none 0 0, .int .i64 0] 29)).cell (k := 1) rfl;       have fA2 := (RS13.out.alloc (.cells #[.slice none 0 0, .slice none 0 0, .int .i64 0] 29)).cell (k := 2) rfl;       dsimp only)
            | (      go_simp;       go_at_call 15;       have LYs := hide (show w5.heap.size < w11.heap.size ∧ w.heap.size < w11.heap.size from ⟨RS11.out.lt, RV11.out.lt⟩);       have cs := store_any (A1 := a1) (A2 := a2) (c1 := k1) (c2 := k2) (S := S0) u 8 Y hY (w11.alloc (.cells #[.slice none 0 0, .slice none 0 0, .int .i64 0] 29)) (hide (Ss11.out.alloc (.cells #[.slice none 0 0, .slice none 0 0, .int .i64 0] 29)));       rw [(HSt.out u u0).1, (HSt.out u u0).2 Y] at cs;       refine cs.mono ?_;       rintro e w12 ⟨d1, m1, d2, m2, rfl, hD12, hb12⟩;       have HD := hide hD12;       have RV13 := hide ((hide (RV11.out.alloc (.cells #[.slice none 0 0, .slice none 0 0, .int .i64 0] 29))).out.call hb12);       have RS13 := hide ((hide (RS11.out.alloc (.cells #[.slice none 0 0, .slice none 0 0, .int .i64 0] 29))).out.call hb12);       have RYs13 := hide ((hide (show Row (w11.alloc (.cells #[.slice none 0 0, .slice none 0 0, .int .i64 0] 29)) (w11.heap.size) 29 [.slice none 0 0, .slice none 0 0, .int .i64 0] from Row.new w11 29 [.slice none 0 0, .slice none 0 0, .int .i64 0])).out.call hb12);       have Ss13 := hide ((hide (Ss11.out.alloc (.cells #[.slice none 0 0, .slice none 0 0, .int .i64 0] 29))).out.call hb12);       have Cc13 := hide ((hide (Cc11.out.alloc (.cells #[.slice none 0 0, .slice none 0 0, .int .i64 0] 29))).out.below hb12);       have B13 := hide (below_call (hide (B11.out.alloc B11.out.size (.cells #[.slice none 0 0, .slice none 0 0, .int .i64 0] 29))).out hb12);       clear hb12;       have fS0 := RS13.out.cell (k := 0) rfl;       have fS1 := RS13.out.cell (k := 1) rfl;       have fS2 := RS13.out.cell (k := 2) rfl;       have fYs0 := RYs13.out.cell (k := 0) rfl;       have fYs1 := RYs13.out.cell (k := 1) rfl;       have fYs2 := RYs13.out.cell (k := 2) rfl;       have yYs0 := RYs13.out.free 0;       have yYs1 := RYs13.out.free 1;       have yYs2 := RYs13.out.free 2;       have fA0 := (RS13.out.alloc (.cells #[.slice none 0 0, .slice none 0 0, .int .i64 0] 29)).cell (k := 0) rfl;       have fA1 := (RS13.out.alloc (.cells #[.slice none 0 0, .slice none 0 0, .int .i64 0] 29)).cell (k := 1) rfl;       have fA2 := (RS13.out.alloc (.cells #[.slice none 0 0, .slice none 0 0, .int .i64 0] 29)).cell (k := 2) rfl;       dsimp only))
        all_goals first
          | (have DY := hide LYn.out
             obtain ⟨W14, hW14⟩ : ∃ W, ((w12.setCell ⟨wr.heap.size, 0, none⟩ (.slice d1 S0.bs.length m1)).setCell ⟨wr.heap.size, 1, none⟩ (.slice d2 S0.bs.length m2)).setCell ⟨wr.heap.size, 2, none⟩ (.int .i64 (S0.sp : Int)) = W := ⟨_, rfl⟩
             have HW14 := hide hW14
             have RYn14 := hide (show Row W14 (wr.heap.size) 29 [.slice d1 S0.bs.length m1, .slice d2 S0.bs.length m2, .int .i64 (S0.sp : Int)] by rw [← hW14]; exact (((RYn13.out).set_ 0 _).set_ 1 _).set_ 2 _)
             have RV14 := hide (show Row W14 (w.heap.size) 39 [.int .u64 (lo X), .int .u64 (hi X)] by rw [← hW14]; exact (((RV13.out).far (p := ⟨wr.heap.size, 0, none⟩) (by have := DY.out; simp <;> omega) _).far (p := ⟨wr.heap.size, 1, none⟩) (by have := DY.out; simp <;> omega) _).far (p := ⟨wr.heap.size, 2, none⟩) (by have := DY.out; simp <;> omega) _)
             clear RV13
             have RS14 := hide (show Row W14 (w5.heap.size) 29 [.slice a1 S0.bs.length k1, .slice a2 S0.bs.length k2, .int .i64 (S0.sp : Int)] by rw [← hW14]; exact (((RS13.out).far (p := ⟨wr.heap.size, 0, none⟩) (by have := DY.out; simp <;> omega) _).far (p := ⟨wr.heap.size, 1, none⟩) (by have := DY.out; simp <;> omega) _).far (p := ⟨wr.heap.size, 2, none⟩) (by have := DY.out; simp <;> omega) _)
             clear RS13
             have Ss14 := hide (show StkAt W14 W14.heap.size a1 k1 a2 k2 S0 by rw [← hW14]; exact StkAt.put (StkAt.put (StkAt.put (Ss13.out) ((RYn13.out).cell (k := 0) rfl) rfl _) (((RYn13.out).set_ 0 _).cell (k := 1) rfl) rfl _) ((((RYn13.out).set_ 0 _).set_ 1 _).cell (k := 2) rfl) rfl _)
             clear Ss13
             have Cc14 := hide (show Codes W14 gc by rw [← hW14]; exact (((Cc13.out).put (RYn13.out) (by decide) ((RYn13.out).cell (k := 0) rfl) rfl _).put ((RYn13.out).set_ 0 _) (by decide) (((RYn13.out).set_ 0 _).cell (k := 1) rfl) rfl _).put (((RYn13.out).set_ 0 _).set_ 1 _) (by decide) ((((RYn13.out).set_ 0 _).set_ 1 _).cell (k := 2) rfl) rfl _)
             clear Cc13
             have B14 := hide (show Below w.heap.size w W14 by rw [← hW14]; exact below_put (below_put (below_put (B13.out) (by have := DY.out; omega)) (by have := DY.out; omega)) (by have := DY.out; omega))
             clear hW14 RYn13
             go_wp2_with fail
             rw [HW14.out]
             go_meet
             exact ⟨⟨_, rfl⟩, rfl, RV14, RS14, Ss14, Cc14, B14⟩)
          | (have DY := hide LYv.out
             obtain ⟨W14, hW14⟩ : ∃ W, ((w12.setCell ⟨w10.heap.size, 0, none⟩ (.slice d1 S0.bs.length m1)).setCell ⟨w10.heap.size, 1, none⟩ (.slice d2 S0.bs.length m2)).setCell ⟨w10.heap.size, 2, none⟩ (.int .i64 (S0.sp : Int)) = W := ⟨_, rfl⟩
             have HW14 := hide hW14
             have RYv14 := hide (show Row W14 (w10.heap.size) 29 [.slice d1 S0.bs.length m1, .slice d2 S0.bs.length m2, .int .i64 (S0.sp : Int)] by rw [← hW14]; exact (((RYv13.out).set_ 0 _).set_ 1 _).set_ 2 _)
             have RV14 := hide (show Row W14 (w.heap.size) 39 [.int .u64 (lo X), .int .u64 (hi X)] by rw [← hW14]; exact (((RV13.out).far (p := ⟨w10.heap.size, 0, none⟩) (by have := DY.out; simp <;> omega) _).far (p := ⟨w10.heap.size, 1, none⟩) (by have := DY.out; simp <;> omega) _).far (p := ⟨w10.heap.size, 2, none⟩) (by have := DY.out; simp <;> omega) _)
             clear RV13
             have RS14 := hide (show Row W14 (w5.heap.size) 29 [.slice a1 S0.bs.length k1, .slice a2 S0.bs.length k2, .int .i64 (S0.sp : Int)] by rw [← hW14]; exact (((RS13.out).far (p := ⟨w10.heap.size, 0, none⟩) (by have := DY.out; simp <;> omega) _).far (p := ⟨w10.heap.size, 1, none⟩) (by have := DY.out; simp <;> omega) _).far (p := ⟨w10.heap.size, 2, none⟩) (by have := DY.out; simp <;> omega) _)
             clear RS13
             have Ss14 := hide (show StkAt W14 W14.heap.size a1 k1 a2 k2 S0 by rw [← hW14]; exact StkAt.put (StkAt.put (StkAt.put (Ss13.out) ((RYv13.out).cell (k := 0) rfl) rfl _) (((RYv13.out).set_ 0 _).cell (k := 1) rfl) rfl _) ((((RYv13.out).set_ 0 _).set_ 1 _).cell (k := 2) rfl) rfl _)
             clear Ss13
             have Cc14 := hide (show Codes W14 gc by rw [← hW14]; exact (((Cc13.out).put (RYv13.out) (by decide) ((RYv13.out).cell (k := 0) rfl) rfl _).put ((RYv13.out).set_ 0 _) (by decide) (((RYv13.out).set_ 0 _).cell (k := 1) rfl) rfl _).put (((RYv13.out).set_ 0 _).set_ 1 _) (by decide) ((((RYv13.out).set_ 0 _).set_ 1 _).cell (k := 2) rfl) rfl _)
             clear Cc13
             have B14 := hide (show Below w.heap.size w W14 by rw [← hW14]; exact below_put (below_put (below_put (B13.out) (by have := DY.out; omega)) (by have := DY.out; omega)) (by have := DY.out; omega))
             clear hW14 RYv13
             go_wp2_with fail
             rw [HW14.out]
             go_meet
             exact ⟨⟨_, rfl⟩, rfl, RV14, RS14, Ss14, Cc14, B14⟩)
          | (have DY := hide LYs.out
             obtain ⟨W14, hW14⟩ : ∃ W, ((w12.setCell ⟨w11.heap.size, 0, none⟩ (.slice d1 S0.bs.length m1)).setCell ⟨w11.heap.size, 1, none⟩ (.slice d2 S0.bs.length m2)).setCell ⟨w11.heap.size, 2, none⟩ (.int .i64 (S0.sp : Int)) = W := ⟨_, rfl⟩
             have HW14 := hide hW14
             have RYs14 := hide (show Row W14 (w11.heap.size) 29 [.slice d1 S0.bs.length m1, .slice d2 S0.bs.length m2, .int .i64 (S0.sp : Int)] by rw [← hW14]; exact (((RYs13.out).set_ 0 _).set_ 1 _).set_ 2 _)
             have RV14 := hide (show Row W14 (w.heap.size) 39 [.int .u64 (lo X), .int .u64 (hi X)] by rw [← hW14]; exact (((RV13.out).far (p := ⟨w11.heap.size, 0, none⟩) (by have := DY.out; simp <;> omega) _).far (p := ⟨w11.heap.size, 1, none⟩) (by have := DY.out; simp <;> omega) _).far (p := ⟨w11.heap.size, 2, none⟩) (by have := DY.out; simp <;> omega) _)
             clear RV13
             have RS14 := hide (show Row W14 (w5.heap.size) 29 [.slice a1 S0.bs.length k1, .slice a2 S0.bs.length k2, .int .i64 (S0.sp : Int)] by rw [← hW14]; exact (((RS13.out).far (p := ⟨w11.heap.size, 0, none⟩) (by have := DY.out; simp <;> omega) _).far (p := ⟨w11.heap.size, 1, none⟩) (by have := DY.out; simp <;> omega) _).far (p := ⟨w11.heap.size, 2, none⟩) (by have := DY.out; simp <;> omega) _)
             clear RS13
             have Ss14 := hide (show StkAt W14 W14.heap.size a1 k1 a2 k2 S0 by rw [← hW14]; exact StkAt.put (StkAt.put (StkAt.put (Ss13.out) ((RYs13.out).cell (k := 0) rfl) rfl _) (((RYs13.out).set_ 0 _).cell (k := 1) rfl) rfl _) ((((RYs13.out).set_ 0 _).set_ 1 _).cell (k := 2) rfl) rfl _)
             clear Ss13
             have Cc14 := hide (show Codes W14 gc by rw [← hW14]; exact (((Cc13.out).put (RYs13.out) (by decide) ((RYs13.out).cell (k := 0) rfl) rfl _).put ((RYs13.out).set_ 0 _) (by decide) (((RYs13.out).set_ 0 _).cell (k := 1) rfl) rfl _).put (((RYs13.out).set_ 0 _).set_ 1 _) (by decide) ((((RYs13.out).set_ 0 _).set_ 1 _).cell (k := 2) rfl) rfl _)
             clear Cc13
             have B14 := hide (show Below w.heap.size w W14 by rw [← hW14]; exact below_put (below_put (below_put (B13.out) (by have := DY.out; omega)) (by have := DY.out; omega)) (by have := DY.out; omega))
             clear hW14 RYs13
             go_wp2_with fail
             rw [HW14.out]
             go_meet
             exact ⟨⟨_, rfl⟩, rfl, RV14, RS14, Ss14, Cc14, B14⟩)
          | (obtain ⟨W14, hW14⟩ : ∃ W, w12.alloc (.cells #[.slice d1 S0.bs.length m1, .slice d2 S0.bs.length m2, .int .i64 (S0.sp : Int)] 29) = W := ⟨_, rfl⟩
             have HW14 := hide hW14
             have RV14 := hide (show Row W14 (w.heap.size) 39 [.int .u64 (lo X), .int .u64 (hi X)] by rw [← hW14]; exact RV13.out.alloc _)
             clear RV13
             have RS14 := hide (show Row W14 (w5.heap.size) 29 [.slice a1 S0.bs.length k1, .slice a2 S0.bs.length k2, .int .i64 (S0.sp : Int)] by rw [← hW14]; exact RS13.out.alloc _)
             clear RS13
             have RYl14 := hide (show Row W14 (w12.heap.size) 29 [.slice d1 S0.bs.length m1, .slice d2 S0.bs.length m2, .int .i64 (S0.sp : Int)] by rw [← hW14]; exact Row.new w12 _ _)
             have Ss14 := hide (show StkAt W14 W14.heap.size a1 k1 a2 k2 S0 by rw [← hW14]; exact Ss13.out.alloc _)
             clear Ss13
             have Cc14 := hide (show Codes W14 gc by rw [← hW14]; exact Cc13.out.alloc _)
             clear Cc13
             have L14 := hide (show w12.heap.size < W14.heap.size by rw [← hW14]; simp)
             have G14 := hide B13.out.size
             have B14 := hide (show Below w.heap.size w W14 by rw [← hW14]; exact B13.out.alloc B13.out.size _)
             clear hW14
             go_wp2_with fail
             rw [HW14.out]
             go_meet
             exact ⟨⟨_, rfl⟩, rfl, RV14, RS14, Ss14, Cc14, B14⟩)
      case rest =>
        obtain ⟨⟨g9, rfl⟩, rfl, RV9, RS9, SS9, CC9, BB9⟩ := hcut
        go_wp2_with fail
        go_roundw
        case rel => exact ⟨⟨q - 1, by omega, by omega, by go_num⟩, RV9, RS9, SS9, CC9, BB9⟩
        case measure => simp [intOf]; omega
    · have fS0 := RS.out.cell (k := 0) rfl
      have fS1 := RS.out.cell (k := 1) rfl
      have fS2 := RS.out.cell (k := 2) rfl
      go_wp2_with fail
      go_fit (cp _ _ _ _ _ SS)
      rintro e w9 ⟨b1, l1, b2, l2, rfl, hS9, hb9⟩
      have Ss9 := hide hS9
      clear hS9
      have RV10 := hide (RV.out.call hb9)
      clear RV
      have RS10 := hide (RS.out.call hb9)
      clear RS
      have Cc10 := hide (CC.out.below hb9)
      clear CC
      have B10 := hide (below_call BB.out hb9)
      clear BB
      clear hb9
      clear fS0 fS1 fS2
      have fS0 := RS10.out.cell (k := 0) rfl
      have fS1 := RS10.out.cell (k := 1) rfl
      have fS2 := RS10.out.cell (k := 2) rfl
      have yS0 := RS10.out.free 0
      have yS1 := RS10.out.free 1
      have yS2 := RS10.out.free 2
      go_upto_region 12 with (fail)
      obtain ⟨W11, hW11⟩ : ∃ W, ((w9.setCell ⟨w5.heap.size, 0, none⟩ (.slice b1 S1.bs.length l1)).setCell ⟨w5.heap.size, 1, none⟩ (.slice b2 S1.bs.length l2)).setCell ⟨w5.heap.size, 2, none⟩ (.int .i64 (S1.sp : Int)) = W := ⟨_, rfl⟩
      have HW11 := hide hW11
      have RS11 := hide (show Row W11 (w5.heap.size) 29 [.slice b1 S1.bs.length l1, .slice b2 S1.bs.length l2, .int .i64 (S1.sp : Int)] by rw [← hW11]; exact (((RS10.out).set_ 0 _).set_ 1 _).set_ 2 _)
      have RV11 := hide (show Row W11 (w.heap.size) 39 [.int .u64 (lo X), .int .u64 (hi X)] by rw [← hW11]; exact (((RV10.out).far (p := ⟨w5.heap.size, 0, none⟩) (by have := DV.out; simp <;> omega) _).far (p := ⟨w5.heap.size, 1, none⟩) (by have := DV.out; simp <;> omega) _).far (p := ⟨w5.heap.size, 2, none⟩) (by have := DV.out; simp <;> omega) _)
      clear RV10
      have Ss11 := hide (show StkAt W11 W11.heap.size b1 l1 b2 l2 S1 by rw [← hW11]; exact StkAt.put (StkAt.put (StkAt.put (Ss9.out) ((RS10.out).cell (k := 0) rfl) rfl _) (((RS10.out).set_ 0 _).cell (k := 1) rfl) rfl _) ((((RS10.out).set_ 0 _).set_ 1 _).cell (k := 2) rfl) rfl _)
      clear Ss9
      have Cc11 := hide (show Codes W11 gc by rw [← hW11]; exact (((Cc10.out).put (RS10.out) (by decide) ((RS10.out).cell (k := 0) rfl) rfl _).put ((RS10.out).set_ 0 _) (by decide) (((RS10.out).set_ 0 _).cell (k := 1) rfl) rfl _).put (((RS10.out).set_ 0 _).set_ 1 _) (by decide) ((((RS10.out).set_ 0 _).set_ 1 _).cell (k := 2) rfl) rfl _)
      clear Cc10
      have B11 := hide (show Below w.heap.size w W11 by rw [← hW11]; exact below_put (below_put (below_put (B10.out) (by have := G7.out; omega)) (by have := G7.out; omega)) (by have := G7.out; omega))
      clear hW11 RS10
      rw [HW11.out]
      have hok := HL.out.ok
      have hmost := hide hok.most
      have cc := rcopy_any b1 S1.bs.length l1 b2 l2 (S1.sp : Int) S1.bs S1.us W11 (hide Ss11.out.k1) (hide Ss11.out.k2) Ss11.out.m1 Ss11.out.m2 hmost.out (hide rfl) (hide hok.len) (hide Ss11.out.s1) (hide Ss11.out.s2)
      clear fS0 fS1 fS2 yS0 yS1 yS2
      have fS0 := RS11.out.cell (k := 0) rfl
      have fS1 := RS11.out.cell (k := 1) rfl
      have fS2 := RS11.out.cell (k := 2) rfl
      go_wp2_with fail
      go_fit (cc)
      rintro e w12 ⟨f1, o1, f2, o2, rfl, p1, p2, hb12⟩
      have RV13 := hide (RV11.out.call hb12)
      clear RV11
      have RS13 := hide (RS11.out.call hb12)
      clear RS11
      have Ss13 := hide (Ss11.out.call hb12)
      clear Ss11
      have Cc13 := hide (Cc11.out.below hb12)
      clear Cc11
      have B13 := hide (below_call B11.out hb12)
      clear B11
      clear hb12
      have Sf12 := hide (StkOwn.put_ hok p1 p2)
      clear p1 p2 cc
      go_upto_region 13 with (fail)
      obtain ⟨W14, hW14⟩ : ∃ W, w12.alloc (.cells #[.slice f1 S1.bs.length o1, .slice f2 S1.bs.length o2, .int .i64 (S1.sp : Int)] 29) = W := ⟨_, rfl⟩
      have HW14 := hide hW14
      have RV14 := hide (show Row W14 (w.heap.size) 39 [.int .u64 (lo X), .int .u64 (hi X)] by rw [← hW14]; exact RV13.out.alloc _)
      clear RV13
      have RS14 := hide (show Row W14 (w5.heap.size) 29 [.slice b1 S1.bs.length l1, .slice b2 S1.bs.length l2, .int .i64 (S1.sp : Int)] by rw [← hW14]; exact RS13.out.alloc _)
      clear RS13
      have RF14 := hide (show Row W14 (w12.heap.size) 29 [.slice f1 S1.bs.length o1, .slice f2 S1.bs.length o2, .int .i64 (S1.sp : Int)] by rw [← hW14]; exact Row.new w12 _ _)
      have Ss14 := hide (show StkAt W14 W14.heap.size b1 l1 b2 l2 S1 by rw [← hW14]; exact Ss13.out.alloc _)
      clear Ss13
      have Sf14 := hide (show StkAt W14 W14.heap.size f1 o1 f2 o2 S1 by rw [← hW14]; exact Sf12.out.alloc _)
      clear Sf12
      have Cc14 := hide (show Codes W14 gc by rw [← hW14]; exact Cc13.out.alloc _)
      clear Cc13
      have L14 := hide (show w12.heap.size < W14.heap.size by rw [← hW14]; simp)
      have G14 := hide B13.out.size
      have B14 := hide (show Below w.heap.size w W14 by rw [← hW14]; exact B13.out.alloc B13.out.size _)
      clear hW14
      rw [HW14.out]
      clear fS0 fS1 fS2
      have RV15 := hide (RV14.out.drew)
      have RS15 := hide (RS14.out.drew)
      have RF15 := hide (RF14.out.drew)
      have Ss15 := hide (show StkAt W14.drew W14.drew.heap.size b1 l1 b2 l2 S1 from Ss14.out.drewN 1)
      have Sf15 := hide (show StkAt W14.drew W14.drew.heap.size f1 o1 f2 o2 S1 from Sf14.out.drewN 1)
      have Cc15 := hide (Cc14.out.drew)
      have B15 := hide (below_draws B14.out 1)
      go_cut [13, 14] (fun va vb wx => Hid (LasCut S1 b1 l1 b2 l2 f1 o1 f2 o2 X w w5.heap.size w12.heap.size va vb wx))
      case first =>
        go_region_law
          (first
            | (      go_simp;       go_at_call 9;       refine (next_any gc 4 w16 Cc16 (by omega) (by omega)).mono ?_;       rintro e w17 ⟨j, rfl, j0, j1, hC17, hg17, -⟩;       have RV17 := hide (RV16.out.next Cc16.out (by decide) hg17);       clear RV16;       have RS17 := hide (RS16.out.next Cc16.out (by decide) hg17);       clear RS16;       have RF17 := hide (RF16.out.next Cc16.out (by decide) hg17);       clear RF16;       have RYn17 := hide (RYn16.out.next Cc16.out (by decide) hg17);       clear RYn16;       have Ss17 := hide (Ss16.out.next Cc16.out hg17);       clear Ss16;       have Sf17 := hide (Sf16.out.next Cc16.out hg17);       clear Sf16;       have B17 := hide (below_grown B16.out hg17 GC3.out B16.out.size);       clear B16;       have Cc17 := hide hC17;       clear Cc16 hC17 hg17;       obtain ⟨m, rfl⟩ : ∃ m : Nat, j = (m : Int) := ⟨j.toNat, by omega⟩;       obtain ⟨sz, hsz, hcell⟩ : ∃ sz : Nat, (sz = 1 ∨ sz = 2 ∨ sz = 4 ∨ sz = 8) ∧ ([.int .i64 1, .int .i64 2, .int .i64 4, .int .i64 8] : List Value)[m]? = some (.int .i64 (sz : Int)) := pick4 (by omega);       have fl := RYn17.out.cell hcell;       clear hcell;       dsimp only)
            | (      go_simp;       go_at_call 9;       refine (next_any gc 4 (w16.alloc (.cells #[.int .i64 1, .int .i64 2, .int .i64 4, .int .i64 8] 3)) (hide (Cc16.out.alloc (.cells #[.int .i64 1, .int .i64 2, .int .i64 4, .int .i64 8] 3))) (by omega) (by omega)).mono ?_;       rintro e w17 ⟨j, rfl, j0, j1, hC17, hg17, -⟩;       have RV17 := hide ((hide (RV16.out.alloc (.cells #[.int .i64 1, .int .i64 2, .int .i64 4, .int .i64 8] 3))).out.next (hide (Cc16.out.alloc (.cells #[.int .i64 1, .int .i64 2, .int .i64 4, .int .i64 8] 3))).out (by decide) hg17);       have RS17 := hide ((hide (RS16.out.alloc (.cells #[.int .i64 1, .int .i64 2, .int .i64 4, .int .i64 8] 3))).out.next (hide (Cc16.out.alloc (.cells #[.int .i64 1, .int .i64 2, .int .i64 4, .int .i64 8] 3))).out (by decide) hg17);       have RF17 := hide ((hide (RF16.out.alloc (.cells #[.int .i64 1, .int .i64 2, .int .i64 4, .int .i64 8] 3))).out.next (hide (Cc16.out.alloc (.cells #[.int .i64 1, .int .i64 2, .int .i64 4, .int .i64 8] 3))).out (by decide) hg17);       have RYv17 := hide ((hide (show Row (w16.alloc (.cells #[.int .i64 1, .int .i64 2, .int .i64 4, .int .i64 8] 3)) (w16.heap.size) 3 [.int .i64 1, .int .i64 2, .int .i64 4, .int .i64 8] from Row.new w16 3 [.int .i64 1, .int .i64 2, .int .i64 4, .int .i64 8])).out.next (hide (Cc16.out.alloc (.cells #[.int .i64 1, .int .i64 2, .int .i64 4, .int .i64 8] 3))).out (by decide) hg17);       have Ss17 := hide ((hide (Ss16.out.alloc (.cells #[.int .i64 1, .int .i64 2, .int .i64 4, .int .i64 8] 3))).out.next (hide (Cc16.out.alloc (.cells #[.int .i64 1, .int .i64 2, .int .i64 4, .int .i64 8] 3))).out hg17);       have Sf17 := hide ((hide (Sf16.out.alloc (.cells #[.int .i64 1, .int .i64 2, .int .i64 4, .int .i64 8] 3))).out.next (hide (Cc16.out.alloc (.cells #[.int .i64 1, .int .i64 2, .int .i64 4, .int .i64 8] 3))).out hg17);       have B17 := hide (below_grown (hide (B16.out.alloc B16.out.size (.cells #[.int .i64 1, .int .i64 2, .int .i64 4, .int .i64 8] 3))).out hg17 GC3.out (hide (B16.out.alloc B16.out.size (.cells #[.int .i64 1, .int .i64 2, .int .i64 4, .int .i64 8] 3))).out.size);       have Cc17 := hide hC17;       clear hC17 hg17;       obtain ⟨m, rfl⟩ : ∃ m : Nat, j = (m : Int) := ⟨j.toNat, by omega⟩;       obtain ⟨sz, hsz, hcell⟩ : ∃ sz : Nat, (sz = 1 ∨ sz = 2 ∨ sz = 4 ∨ sz = 8) ∧ ([.int .i64 1, .int .i64 2, .int .i64 4, .int .i64 8] : List Value)[m]? = some (.int .i64 (sz : Int)) := pick4 (by omega);       have fl := RYv17.out.cell hcell;       clear hcell;       dsimp only)
            | (      go_simp;       go_at_call 9;       refine (next_any gc 4 w16 Cc16 (by omega) (by omega)).mono ?_;       rintro e w17 ⟨j, rfl, j0, j1, hC17, hg17, -⟩;       have RV17 := hide (RV16.out.next Cc16.out (by decide) hg17);       clear RV16;       have RS17 := hide (RS16.out.next Cc16.out (by decide) hg17);       clear RS16;       have RF17 := hide (RF16.out.next Cc16.out (by decide) hg17);       clear RF16;       have Ss17 := hide (Ss16.out.next Cc16.out hg17);       clear Ss16;       have Sf17 := hide (Sf16.out.next Cc16.out hg17);       clear Sf16;       have B17 := hide (below_grown B16.out hg17 GC3.out B16.out.size);       clear B16;       have Cc17 := hide hC17;       clear Cc16 hC17 hg17;       obtain ⟨m, rfl⟩ : ∃ m : Nat, j = (m : Int) := ⟨j.toNat, by omega⟩;       obtain ⟨sz, hsz, hcell⟩ : ∃ sz : Nat, (sz = 1 ∨ sz = 2 ∨ sz = 4 ∨ sz = 8) ∧ ([.int .i64 1, .int .i64 2, .int .i64 4, .int .i64 8] : List Value)[m]? = some (.int .i64 (sz : Int)) := pick4 (by omega);       have fl := (Row.new w17 3 [.int .i64 1, .int .i64 2, .int .i64 4, .int .i64 8]).cell hcell;       clear hcell;       dsimp only)
            | (      go_simp;       go_at_call 9;       refine (next_any gc 40 W14.drew Cc15 (by omega) (by omega)).mono ?_;       rintro e w16 ⟨u, rfl, u0, u1, hC16, hg16, -⟩;       have RV16 := hide (RV15.out.next Cc15.out (by decide) hg16);       clear RV15;       have RS16 := hide (RS15.out.next Cc15.out (by decide) hg16);       clear RS15;       have RF16 := hide (RF15.out.next Cc15.out (by decide) hg16);       clear RF15;       have Ss16 := hide (Ss15.out.next Cc15.out hg16);       clear Ss15;       have Sf16 := hide (Sf15.out.next Cc15.out hg16);       clear Sf15;       have B16 := hide (below_grown B15.out hg16 GC3.out B15.out.size);       clear B15;       have Cc16 := hide hC16;       clear Cc15 hC16 hg16;       dsimp only)
            | (      go_simp;       go_at_call 9;       refine (next_any gc 40 (W14.drew.alloc (.cells #[.int .i64 1, .int .i64 2, .int .i64 4, .int .i64 8] 3)) (hide (Cc15.out.alloc (.cells #[.int .i64 1, .int .i64 2, .int .i64 4, .int .i64 8] 3))) (by omega) (by omega)).mono ?_;       rintro e w16 ⟨u, rfl, u0, u1, hC16, hg16, -⟩;       have RV16 := hide ((hide (RV15.out.alloc (.cells #[.int .i64 1, .int .i64 2, .int .i64 4, .int .i64 8] 3))).out.next (hide (Cc15.out.alloc (.cells #[.int .i64 1, .int .i64 2, .int .i64 4, .int .i64 8] 3))).out (by decide) hg16);       have RS16 := hide ((hide (RS15.out.alloc (.cells #[.int .i64 1, .int .i64 2, .int .i64 4, .int .i64 8] 3))).out.next (hide (Cc15.out.alloc (.cells #[.int .i64 1, .int .i64 2, .int .i64 4, .int .i64 8] 3))).out (by decide) hg16);       have RF16 := hide ((hide (RF15.out.alloc (.cells #[.int .i64 1, .int .i64 2, .int .i64 4, .int .i64 8] 3))).out.next (hide (Cc15.out.alloc (.cells #[.int .i64 1, .int .i64 2, .int .i64 4, .int .i64 8] 3))).out (by decide) hg16);       have RYn16 := hide ((hide (show Row (W14.drew.alloc (.cells #[.int .i64 1, .int .i64 2, .int .i64 4, .int .i64 8] 3)) (W14.heap.size) 3 [.int .i64 1, .int .i64 2, .int .i64 4, .int .i64 8] from Row.new W14.drew 3 [.int .i64 1, .int .i64 2, .int .i64 4, .int .i64 8])).out.next (hide (Cc15.out.alloc (.cells #[.int .i64 1, .int .i64 2, .int .i64 4, .int .i64 8] 3))).out (by decide) hg16);       have Ss16 := hide ((hide (Ss15.out.alloc (.cells #[.int .i64 1, .int .i64 2, .int .i64 4, .int .i64 8] 3))).out.next (hide (Cc15.out.alloc (.cells #[.int .i64 1, .int .i64 2, .int .i64 4, .int .i64 8] 3))).out hg16);       have Sf16 := hide ((hide (Sf15.out.alloc (.cells #[.int .i64 1, .int .i64 2, .int .i64 4, .int .i64 8] 3))).out.next (hide (Cc15.out.alloc (.cells #[.int .i64 1, .int .i64 2, .int .i64 4, .int .i64 8] 3))).out hg16);       have B16 := hide (below_grown (hide (B15.out.alloc B15.out.size (.cells #[.int .i64 1, .int .i64 2, .int .i64 4, .int .i64 8] 3))).out hg16 GC3.out (hide (B15.out.alloc B15.out.size (.cells #[.int .i64 1, .int .i64 2, .int .i64 4, .int .i64 8] 3))).out.size);       have Cc16 := hide hC16;       clear hC16 hg16;       dsimp only))
        all_goals first
          | (go_wp2_with fail
             go_meet
             exact hide ⟨u.toNat, sz, by omega, hsz, by first | rfl | (rw [Int.toNat_of_nonneg (by assumption)]), rfl, RV17.out, RS17.out, Ss17.out, RF17.out, Sf17.out, B17.out⟩)
          | (go_wp2_with fail
             go_meet
             exact hide ⟨u.toNat, sz, by omega, hsz, by first | rfl | (rw [Int.toNat_of_nonneg (by assumption)]), rfl, RV17.out, RS17.out, Ss17.out, RF17.out, Sf17.out, B17.out⟩)
          | (go_wp2_with fail
             go_meet
             exact hide ⟨u.toNat, sz, by omega, hsz, by first | rfl | (rw [Int.toNat_of_nonneg (by assumption)]), rfl, (hide (RV17.out.alloc (.cells #[.int .i64 1, .int .i64 2, .int .i64 4, .int .i64 8] 3))).out, (hide (RS17.out.alloc (.cells #[.int .i64 1, .int .i64 2, .int .i64 4, .int .i64 8] 3))).out, (hide (Ss17.out.alloc (.cells #[.int .i64 1, .int .i64 2, .int .i64 4, .int .i64 8] 3))).out, (hide (RF17.out.alloc (.cells #[.int .i64 1, .int .i64 2, .int .i64 4, .int .i64 8] 3))).out, (hide (Sf17.out.alloc (.cells #[.int .i64 1, .int .i64 2, .int .i64 4, .int .i64 8] 3))).out, (hide (B17.out.alloc B17.out.size (.cells #[.int .i64 1, .int .i64 2, .int .i64 4, .int .i64 8] 3))).out⟩)
      case rest =>
        obtain ⟨u, sz, hu, hsz, rfl, rfl, rV, rS, ss, rF, sf, rB⟩ := hcut.out
        obtain ⟨hE, hlen, hE2, hB, hV, hsame, hTok⟩ := las_store HL.out u sz X hu hsz
        have cs := fun W HS => store_any (A1 := b1) (A2 := b2) (c1 := l1) (c2 := l2) (S := S1) (u : Int) (sz : Int) X hX W HS
        obtain ⟨T, hT⟩ : ∃ S, storeR S1 (u : Int) (sz : Int) X = S := ⟨_, rfl⟩
        simp only [hE, hT] at cs
        rw [hT] at hlen hE2 hB hV hTok
        simp only [hT] at hsame
        have cl := fun (a1 : Option Addr) (k1 : Nat) (a2 : Option Addr) (k2 : Nat) W HS => load_any (A1 := a1) (A2 := a2) (c1 := k1) (c2 := k2) (S := T) (u : Int) (sz : Int) (by unfold isI; omega) W HS
        unfold LoadPost at cl
        simp only [hE2, hB, hV] at cl
        have ct := fun W => rtrunc_any X (sz : Int) W hX
        obtain ⟨Tv, hTv⟩ : ∃ V, truncV X (sz : Int) = V := ⟨_, rfl⟩
        simp only [hTv] at cl ct
        have hneq := fun W => run_ne_same Tv Tv W rfl
        have Hsame := hide hsame
        have HTok := hide hTok
        have Hlen := hide hlen
        have Hsp := hide HL.out.sp
        have hsz8 : sz ≤ 8 := by omega
        have RV9 := hide rV
        have RS9 := hide rS
        have SS9 := hide ss
        have RF9 := hide rF
        have SF9 := hide sf
        have BB9 := hide rB
        clear hcut rV rS ss rF sf rB hE hE2 hB hV hsame hTok hlen hT hTv
        have fV0 := RV9.out.cell (k := 0) rfl
        have fV1 := RV9.out.cell (k := 1) rfl
        have fS0 := RS9.out.cell (k := 0) rfl
        have fS1 := RS9.out.cell (k := 1) rfl
        have fS2 := RS9.out.cell (k := 2) rfl
        go_wp2_with fail
        go_fit (cs _ SS9)
        rintro e w16 ⟨d1, m1, d2, m2, rfl, hS16, hb16⟩
        have St16 := hide hS16
        clear hS16
        have RV17 := hide (RV9.out.call hb16)
        clear RV9
        have RS17 := hide (RS9.out.call hb16)
        clear RS9
        have RF17 := hide (RF9.out.call hb16)
        clear RF9
        have Ss17 := hide (SS9.out.call hb16)
        clear SS9
        have Sf17 := hide (SF9.out.call hb16)
        clear SF9
        have B17 := hide (below_call BB9.out hb16)
        clear BB9
        clear hb16
        go_upto_region 15 with (fail)
        obtain ⟨W18, hW18⟩ : ∃ W, w16.alloc (.cells #[.slice d1 T.bs.length m1, .slice d2 T.bs.length m2, .int .i64 (T.sp : Int)] 29) = W := ⟨_, rfl⟩
        have HW18 := hide hW18
        have RV18 := hide (show Row W18 (w.heap.size) 39 [.int .u64 (lo X), .int .u64 (hi X)] by rw [← hW18]; exact RV17.out.alloc _)
        clear RV17
        have RS18 := hide (show Row W18 (w5.heap.size) 29 [.slice b1 S1.bs.length l1, .slice b2 S1.bs.length l2, .int .i64 (S1.sp : Int)] by rw [← hW18]; exact RS17.out.alloc _)
        clear RS17
        have RF18 := hide (show Row W18 (w12.heap.size) 29 [.slice f1 S1.bs.length o1, .slice f2 S1.bs.length o2, .int .i64 (S1.sp : Int)] by rw [← hW18]; exact RF17.out.alloc _)
        clear RF17
        have RT18 := hide (show Row W18 (w16.heap.size) 29 [.slice d1 T.bs.length m1, .slice d2 T.bs.length m2, .int .i64 (T.sp : Int)] by rw [← hW18]; exact Row.new w16 _ _)
        have Ss18 := hide (show StkAt W18 W18.heap.size b1 l1 b2 l2 S1 by rw [← hW18]; exact Ss17.out.alloc _)
        clear Ss17
        have Sf18 := hide (show StkAt W18 W18.heap.size f1 o1 f2 o2 S1 by rw [← hW18]; exact Sf17.out.alloc _)
        clear Sf17
        have St18 := hide (show StkAt W18 W18.heap.size d1 m1 d2 m2 T by rw [← hW18]; exact St16.out.alloc _)
        clear St16
        have L18 := hide (show w16.heap.size < W18.heap.size by rw [← hW18]; simp)
        have G18 := hide B17.out.size
        have B18 := hide (show Below w.heap.size w W18 by rw [← hW18]; exact B17.out.alloc B17.out.size _)
        clear hW18
        rw [HW18.out]
        clear fV0 fV1 fS0 fS1 fS2
        have fT0 := RT18.out.cell (k := 0) rfl
        have fT1 := RT18.out.cell (k := 1) rfl
        have fT2 := RT18.out.cell (k := 2) rfl
        go_wp2_with fail
        refine (cl _ _ _ _ _ St18).mono ?_
        rintro e w19 ⟨rfl, hb19⟩
        have RV20 := hide (RV18.out.call hb19)
        clear RV18
        have RS20 := hide (RS18.out.call hb19)
        clear RS18
        have RF20 := hide (RF18.out.call hb19)
        clear RF18
        have RT20 := hide (RT18.out.call hb19)
        clear RT18
        have Ss20 := hide (Ss18.out.call hb19)
        clear Ss18
        have Sf20 := hide (Sf18.out.call hb19)
        clear Sf18
        have St20 := hide (St18.out.call hb19)
        clear St18
        have B20 := hide (below_call B18.out hb19)
        clear B18
        clear hb19
        go_upto_region 16 with (fail)
        obtain ⟨W21, hW21⟩ : ∃ W, w19.alloc (.cells #[.int .u64 (lo Tv), .int .u64 (hi Tv)] 39) = W := ⟨_, rfl⟩
        have HW21 := hide hW21
        have RV21 := hide (show Row W21 (w.heap.size) 39 [.int .u64 (lo X), .int .u64 (hi X)] by rw [← hW21]; exact RV20.out.alloc _)
        clear RV20
        have RS21 := hide (show Row W21 (w5.heap.size) 29 [.slice b1 S1.bs.length l1, .slice b2 S1.bs.length l2, .int .i64 (S1.sp : Int)] by rw [← hW21]; exact RS20.out.alloc _)
        clear RS20
        have RF21 := hide (show Row W21 (w12.heap.size) 29 [.slice f1 S1.bs.length o1, .slice f2 S1.bs.length o2, .int .i64 (S1.sp : Int)] by rw [← hW21]; exact RF20.out.alloc _)
        clear RF20
        have RT21 := hide (show Row W21 (w16.heap.size) 29 [.slice d1 T.bs.length m1, .slice d2 T.bs.length m2, .int .i64 (T.sp : Int)] by rw [← hW21]; exact RT20.out.alloc _)
        clear RT20
        have RL21 := hide (show Row W21 (w19.heap.size) 39 [.int .u64 (lo Tv), .int .u64 (hi Tv)] by rw [← hW21]; exact Row.new w19 _ _)
        have Ss21 := hide (show StkAt W21 W21.heap.size b1 l1 b2 l2 S1 by rw [← hW21]; exact Ss20.out.alloc _)
        clear Ss20
        have Sf21 := hide (show StkAt W21 W21.heap.size f1 o1 f2 o2 S1 by rw [← hW21]; exact Sf20.out.alloc _)
        clear Sf20
        have St21 := hide (show StkAt W21 W21.heap.size d1 m1 d2 m2 T by rw [← hW21]; exact St20.out.alloc _)
        clear St20
        have L21 := hide (show w19.heap.size < W21.heap.size by rw [← hW21]; simp)
        have G21 := hide B20.out.size
        have B21 := hide (show Below w.heap.size w W21 by rw [← hW21]; exact B20.out.alloc B20.out.size _)
        clear hW21
        rw [HW21.out]
        clear fT0 fT1 fT2
        have kV0 := fun p : After W21 => after_cell (RV21.out.cell (k := 0) rfl) p
        have kV1 := fun p : After W21 => after_cell (RV21.out.cell (k := 1) rfl) p
        have kL0 := fun p : After W21 => after_cell (RL21.out.cell (k := 0) rfl) p
        have kL1 := fun p : After W21 => after_cell (RL21.out.cell (k := 1) rfl) p
        have kS0 := fun p : After W21 => after_cell (RS21.out.cell (k := 0) rfl) p
        have kS1 := fun p : After W21 => after_cell (RS21.out.cell (k := 1) rfl) p
        have kS2 := fun p : After W21 => after_cell (RS21.out.cell (k := 2) rfl) p
        have kF0 := fun p : After W21 => after_cell (RF21.out.cell (k := 0) rfl) p
        have kF1 := fun p : After W21 => after_cell (RF21.out.cell (k := 1) rfl) p
        have kF2 := fun p : After W21 => after_cell (RF21.out.cell (k := 2) rfl) p
        have kT0 := fun p : After W21 => after_cell (RT21.out.cell (k := 0) rfl) p
        have kT1 := fun p : After W21 => after_cell (RT21.out.cell (k := 1) rfl) p
        have kT2 := fun p : After W21 => after_cell (RT21.out.cell (k := 2) rfl) p
        have hlen := Hlen.out
        have CS := hide (fun p : After W21 => rsame_stk p.w (hide (Ss21.out.call p.b)) (hide (Sf21.out.call p.b)))
        refine wp_region_after (by kernel_rfl) (by kernel_rfl) ?_
        repeat (go_big_quiet_step ((first
          | (go_at_call 20; with_reducible exact after_of (ct _))
          | (go_at_call 21; with_reducible exact after_of (CS.out _)))))
        refine wpQuiet_nil ?_
        intro _ hw'
        obtain ⟨p1, hw''⟩ := hw'
        subst hw''
        obtain ⟨wz, hwz⟩ : ∃ wz, p1.w = wz := ⟨_, rfl⟩
        have pb := p1.b
        rw [hwz] at pb ⊢
        clear hwz
        clear kV0 kV1 kL0 kL1 kS0 kS1 kS2 kF0 kF1 kF2 kT0 kT1 kT2 CS cs cl ct hneq
        have RS22 := hide (RS21.out.call pb)
        clear RS21
        have RT22 := hide (RT21.out.call pb)
        clear RT21
        have Ss22 := hide (Ss21.out.call pb)
        clear Ss21
        have St22 := hide (St21.out.call pb)
        clear St21
        have B22 := hide (below_call B21.out pb)
        clear B21
        clear pb
        have fS0 := RS22.out.cell (k := 0) rfl
        have fS1 := RS22.out.cell (k := 1) rfl
        have fS2 := RS22.out.cell (k := 2) rfl
        have fT0 := RT22.out.cell (k := 0) rfl
        have fT1 := RT22.out.cell (k := 1) rfl
        have fT2 := RT22.out.cell (k := 2) rfl
        have hsp := Hsp.out
        go_wp2_with fail
        clear fS0 fS1 fS2 fT0 fT1 fT2
        have BZ := hide (Below.refl wz.heap.size wz)
        go_loopw [20] (fun i wr => ∃ k : Nat, k ≤ 100 ∧ i = .int .i64 k ∧ Hid (Below wz.heap.size wz wr)) (fun i _ => 100 - (intOf i).toNat)
        case atStart => exact ⟨0, Nat.zero_le _, rfl, BZ⟩
        case round =>
          obtain ⟨i, hi, rfl, hbz⟩ := hrel
          have hbw := hbz.out
          have RS23 := hide (RS22.out.call hbw)
          clear RS22
          have RT23 := hide (RT22.out.call hbw)
          clear RT22
          have Ss23 := hide (Ss22.out.call hbw)
          clear Ss22
          have St23 := hide (St22.out.call hbw)
          clear St22
          have B23 := hide (below_call B22.out hbw)
          clear B22
          clear hbw
          have fS0 := RS23.out.cell (k := 0) rfl
          have fS1 := RS23.out.cell (k := 1) rfl
          have fS2 := RS23.out.cell (k := 2) rfl
          by_cases hlt : i < 100
          · by_cases hA1 : (48 : Int) + (u : Int) ≤ (i : Int)
            · by_cases hA2 : (i : Int) < 48 + (u : Int) + (sz : Int)
              · go_upto_region 22 with (fail)
                refine wp_region_after (by kernel_rfl) (by kernel_rfl) ?_
                repeat (go_big_quiet_step (fail))
                refine wpQuiet_nil ?_
                intro _ hw'
                obtain ⟨p1, hw''⟩ := hw'
                subst hw''
                have HB9 := hide (below_call hbz.out p1.b)
                go_wp2_with fail
                go_roundw
                case rel => exact ⟨i + 1, by omega, by go_num, HB9⟩
                case measure => simp [intOf]; omega
              · obtain ⟨q1, q2⟩ := Hsame.out i hlt (by omega)
                have l1' := HL.out.len
                obtain ⟨y1, hy1⟩ : ∃ y, S1.bs[i]? = some y := ⟨_, List.getElem?_eq_getElem (show i < S1.bs.length by omega)⟩
                obtain ⟨y2, hy2⟩ : ∃ y, S1.us[i]? = some y := ⟨_, List.getElem?_eq_getElem (show i < S1.us.length by rw [HL.out.ok.len]; omega)⟩
                rw [hy1] at q1
                rw [hy2] at q2
                have ib := fun (l : List Int) (h : l[i]? = some y1) => (show (cellsU8 l)[i]? = some (.int .u8 y1) by simp [cellsU8, List.getElem?_map, h])
                obtain ⟨_, _, rfl, _, j1⟩ := St23.out.s1 i _ (ib _ q1)
                obtain ⟨_, _, rfl, _, j2⟩ := St23.out.s2 i _ (cellsB_at q2)
                obtain ⟨_, _, rfl, _, j3⟩ := Ss23.out.s1 i _ (ib _ hy1)
                obtain ⟨_, _, rfl, _, j4⟩ := Ss23.out.s2 i _ (cellsB_at hy2)
                clear ib q1 q2 hy1 hy2
                have kS0 := fun p : After wr => after_cell (RS23.out.cell (k := 0) rfl) p
                have kS1 := fun p : After wr => after_cell (RS23.out.cell (k := 1) rfl) p
                have kS2 := fun p : After wr => after_cell (RS23.out.cell (k := 2) rfl) p
                have kT0 := fun p : After wr => after_cell (RT23.out.cell (k := 0) rfl) p
                have kT1 := fun p : After wr => after_cell (RT23.out.cell (k := 1) rfl) p
                have kT2 := fun p : After wr => after_cell (RT23.out.cell (k := 2) rfl) p
                have m1' := fun p : After wr => after_cell j1 p
                have m2' := fun p : After wr => after_cell j2 p
                have m3' := fun p : After wr => after_cell j3 p
                have m4' := fun p : After wr => after_cell j4 p
                have hi0 : (0 : Int) ≤ (i : Int) := by omega
                have hi1 : (i : Int) < 100 := by omega
                clear j1 j2 j3 j4
                go_upto_region 22 with (fail)
                refine wp_region_after (by kernel_rfl) (by kernel_rfl) ?_
                repeat (go_big_quiet_step (fail))
                refine wpQuiet_nil ?_
                intro _ hw'
                obtain ⟨p1, hw''⟩ := hw'
                subst hw''
                have HB9 := hide (below_call hbz.out p1.b)
                go_wp2_with fail
                go_roundw
                case rel => exact ⟨i + 1, by omega, by go_num, HB9⟩
                case measure => simp [intOf]; omega
            · obtain ⟨q1, q2⟩ := Hsame.out i hlt (by omega)
              have l1' := HL.out.len
              obtain ⟨y1, hy1⟩ : ∃ y, S1.bs[i]? = some y := ⟨_, List.getElem?_eq_getElem (show i < S1.bs.length by omega)⟩
              obtain ⟨y2, hy2⟩ : ∃ y, S1.us[i]? = some y := ⟨_, List.getElem?_eq_getElem (show i < S1.us.length by rw [HL.out.ok.len]; omega)⟩
              rw [hy1] at q1
              rw [hy2] at q2
              have ib := fun (l : List Int) (h : l[i]? = some y1) => (show (cellsU8 l)[i]? = some (.int .u8 y1) by simp [cellsU8, List.getElem?_map, h])
              obtain ⟨_, _, rfl, _, j1⟩ := St23.out.s1 i _ (ib _ q1)
              obtain ⟨_, _, rfl, _, j2⟩ := St23.out.s2 i _ (cellsB_at q2)
              obtain ⟨_, _, rfl, _, j3⟩ := Ss23.out.s1 i _ (ib _ hy1)
              obtain ⟨_, _, rfl, _, j4⟩ := Ss23.out.s2 i _ (cellsB_at hy2)
              clear ib q1 q2 hy1 hy2
              have kS0 := fun p : After wr => after_cell (RS23.out.cell (k := 0) rfl) p
              have kS1 := fun p : After wr => after_cell (RS23.out.cell (k := 1) rfl) p
              have kS2 := fun p : After wr => after_cell (RS23.out.cell (k := 2) rfl) p
              have kT0 := fun p : After wr => after_cell (RT23.out.cell (k := 0) rfl) p
              have kT1 := fun p : After wr => after_cell (RT23.out.cell (k := 1) rfl) p
              have kT2 := fun p : After wr => after_cell (RT23.out.cell (k := 2) rfl) p
              have m1' := fun p : After wr => after_cell j1 p
              have m2' := fun p : After wr => after_cell j2 p
              have m3' := fun p : After wr => after_cell j3 p
              have m4' := fun p : After wr => after_cell j4 p
              have hi0 : (0 : Int) ≤ (i : Int) := by omega
              have hi1 : (i : Int) < 100 := by omega
              clear j1 j2 j3 j4
              go_upto_region 22 with (fail)
              refine wp_region_after (by kernel_rfl) (by kernel_rfl) ?_
              repeat (go_big_quiet_step (fail))
              refine wpQuiet_nil ?_
              intro _ hw'
              obtain ⟨p1, hw''⟩ := hw'
              subst hw''
              have HB9 := hide (below_call hbz.out p1.b)
              go_wp2_with fail
              go_roundw
              case rel => exact ⟨i + 1, by omega, by go_num, HB9⟩
              case measure => simp [intOf]; omega
          · go_wp2_with fail
            go_ret
            exact ⟨rfl, B23.out⟩
end Go.Proofs.Ytipjeihfhnilcaa
end

section
/-
  StackLoadAfterStore: for every input the law returns true, and each argument reads behind the call as it did before. No condition: every input that the row speaks of.
-/
namespace Go.Proofs.Ytipjeihfhnilcaa
open Go.ChangeShapes Go.WideShapes Go.ChangeAt Go.RowKit

namespace rowStackLoadAfterStore
theorem own_knob : ownKnob Try.prog.godebug = none := by kernel_rfl
theorem laid_out : laidOutB Try.prog = true := by kernel_rfl
theorem cells_u8 : Try.prog.cellsOf 5 = 1 := by kernel_rfl
set_option maxRecDepth 100000 in
theorem contract (H : Type) (enc : TypeId × Value → H) (W : World) (base : Nat) (args : Array Value) (ds gs : List (DataW H)) (before : List MemPlace)
    (hval : ∀ (j : Nat) t v, Try.f4.params[j]? = some t → args[j]? = some v → Value.okWide Try.prog W .any base t v)
    (hW : DataW.Whole enc Try.prog Try.f4.params.toList Rows.stackLoadAfterStoreSpec.vars false W args.toList ds gs before) :
    Calls Try.prog 4 args W fun e W' => ∃ v, e = .returned v ∧ Rows.stackLoadAfterStoreSpec.post enc Try.prog Try.f4 false true false false W args v W' := by
  have hW' := hW
  obtain ⟨p, q, hA, hV, rfl, hfz, hnd⟩ := hW
  have hA : DataW.TrodAll enc Try.prog W 0 (fun _ => true) true Try.f4.params.toList args.toList ds p := hA
  rw [Try.params4] at hA hval
  obtain ⟨v0, vs0, d0, ds0, p0, q0, hargs, rfl, rfl, h0, r0⟩ := trodAll_cons hA
  obtain ⟨v1, vs1, d1, ds1, p1, q1, rfl, rfl, rfl, h1, r1⟩ := trodAll_cons r0
  obtain ⟨rfl, rfl, rfl⟩ := trodAll_nil r1
  obtain rfl : args = #[v0, v1] := by cases args; simp_all
  obtain ⟨A0, n0, c0, zs0, rfl, hA0, hn0, hm0, hs0, hz0, hc0⟩ := open_u8s Try.underlying22 Try.underlying5 cells_u8 (hval 0 22 v0 rfl rfl) h0
  obtain ⟨V1, rfl, H1⟩ := open_vv (hval 1 39 v1 rfl rfl) h1
  refine (las_walk A0 n0 c0 zs0 V1 W H1 hA0 hn0 hc0 hm0 hs0 hz0).mono fun e W' ⟨he, hB⟩ => ⟨_, he, ?_⟩
  exact law_post laid_out (by decide +kernel) rfl rfl Try.underlying4 rfl hW' hB

set_option maxRecDepth 100000 in
theorem lifted (os : Os) (started : os.Started) (H : Type) (enc : TypeId × Value → H) :
    ReturnsInHanded {} Try.checked os 4 .any (Rows.stackLoadAfterStoreSpec.pre6 enc Try.prog Try.f4 Rows.stackLoadAfterStoreRow.domain false) (Rows.stackLoadAfterStoreSpec.post enc Try.prog Try.f4 false true false false) := by
  refine returnsInHanded_of_change (C := Try.checked) own_knob started (by kernel_rfl) Try.func4
    (ChangeSpec.witness6 (enc := enc) (C := Try.checked) false ⟨#[], #[.slice none 0 0, .agg #[.int .u64 0, .int .u64 0]], []⟩ 8 (by kernel_rfl) (by kernel_rfl) (by kernel_rfl) (by kernel_rfl)) ?_
  intro W base args ds gs before hval hW _ _
  exact contract H enc W base args ds gs before hval hW

theorem proved : Rows.StackLoadAfterStoreSaid :=
  OpenClaim.holds_of_wide 4 Try.f4 rfl rfl rfl rfl rfl rfl rfl ⟨rfl, rfl, rfl, rfl, rfl⟩ rfl rfl rfl rfl rfl (by kernel_rfl) Try.func4 (by kernel_rfl)
    (of_decide_eq_true (by kernel_rfl)) (by unfold Func.isWrapper; first | (rw [if_pos (by decide +kernel)]; kernel_rfl) | (rw [if_neg (by decide +kernel)]; exact ⟨rfl, rfl⟩))
    (fun os started H enc _ => lifted os started H enc)
end rowStackLoadAfterStore
end Go.Proofs.Ytipjeihfhnilcaa
end
