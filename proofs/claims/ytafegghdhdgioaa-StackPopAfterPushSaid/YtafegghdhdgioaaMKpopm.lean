import Derived.Test.YtafegghdhdgioaaMKundm
import Derived.Test.YtafegghdhdgioaaMKdraw
import Derived.Test.YtafegghdhdgioaaMSame
import Derived.Test.YtafegghdhdgioaaMLaw
import Derived.Deep.DeepFit
import Derived.Deep.RegionLaw
import Derived.Deep.DeepCutAuto
import Derived.BigQuiet
import Derived.Outline
set_option linter.unusedVariables false
set_option linter.unusedSimpArgs false
section
/-
  Plain mathematics of the law on frames: the stack at each round of its loop. No function of the program is named here.
-/
namespace Go.Proofs.Ytafegghdhdgioaa
open Go.RowKit

theorem push_ok {S : Sk} {n : Nat} (h : n ≤ S.sp) : pushE S (n : Int) = 0 ∧ pushR S (n : Int) = pushS S n := by
  have h1 : pushE S (n : Int) = 0 := by unfold pushE; rw [if_neg (by omega), if_neg (by omega)]
  exact ⟨h1, by unfold pushR; rw [if_pos h1, Int.toNat_natCast]⟩
theorem pop_ok {S : Sk} {n : Nat} (h : S.sp + n ≤ S.bs.length) : popE S (n : Int) = 0 ∧ popR S (n : Int) = popS S n := by
  have h1 : popE S (n : Int) = 0 := by unfold popE; rw [if_neg (by omega)]
  exact ⟨h1, by unfold popR; rw [if_pos h1, Int.toNat_natCast]⟩
theorem push_us {S : Sk} {n j : Nat} (hok : S.Ok) (h : n ≤ S.sp) : (pushS S n).us[j]? = if j < S.sp - n then S.us[j]? else if j < S.sp then some false else S.us[j]? := by
  show (splice S.us (S.sp - n) (List.replicate n false))[j]? = _
  have := hok.len
  have := hok.sp
  rw [splice_at _ _ _ (by simp; omega)]
  simp only [List.length_replicate, List.getElem?_replicate]
  by_cases h1 : j < S.sp - n
  · rw [if_pos h1, if_pos h1]
  · rw [if_neg h1, if_neg h1]
    by_cases h2 : j < S.sp
    · rw [if_pos (by omega), if_pos h2, if_pos (by omega)]
    · rw [if_neg (by omega), if_neg h2]
theorem push_drop {S : Sk} {n q : Nat} (hok : S.Ok) (h : n ≤ S.sp) (hq : S.sp ≤ q) : (pushS S n).us.drop q = S.us.drop q := by
  have := hok.len
  have := hok.sp
  exact splice_behind _ _ _ _ (by simp; omega) (by simp; omega)
theorem store_drop {S : Sk} {a n X q : Nat} (hok : S.Ok) (h : a + n ≤ S.bs.length) (hq : a + n ≤ q) : (storeS S a n X).bs.drop q = S.bs.drop q ∧ (storeS S a n X).us.drop q = S.us.drop q := by
  have := hok.len
  constructor
  · exact splice_behind _ _ _ _ (by rw [bytesV_length]; omega) (by rw [bytesV_length]; omega)
  · exact splice_behind _ _ _ _ (by simp [bytesV_length]; omega) (by simp [bytesV_length]; omega)

/-- The stack under the frame. -/
structure PopS (S : Sk) : Prop where
  ok : S.Ok
  len : S.bs.length = 128
  sp : S.sp = 96
  yes : S.us[104]? = some true
  no : S.us[96]? = some false
theorem pops_start (V : Nat) : newE 128 16 = 0 ∧ pushE (newR 128 16) 32 = 0 ∧ fitE (pushR (newR 128 16) 32) 8 8 = 0 ∧ PopS (storeR (pushR (newR 128 16) 32) 8 8 V) := by
  have e1 : newR 128 16 = newS 128 128 := by
    unfold newR
    rw [if_pos (by decide)]
    rfl
  have k0 : (newS 128 128).Ok := newS_ok (by omega) (by omega)
  obtain ⟨p1, p2⟩ := push_ok (S := newS 128 128) (n := 32) (by show 32 ≤ 128; omega)
  rw [show ((32 : Nat) : Int) = 32 from rfl] at p1 p2
  have k1 : (pushS (newS 128 128) 32).Ok := k0.push (by show 32 ≤ 128; omega)
  have l1 : (pushS (newS 128 128) 32).bs.length = 128 := by decide +kernel
  have s1 : (pushS (newS 128 128) 32).sp = 96 := by decide +kernel
  have hf : fitB (pushS (newS 128 128) 32) ((8 : Nat) : Int) ((8 : Nat) : Int) = true := fit_ok (by decide) (by rw [l1, s1]; omega)
  obtain ⟨f1, f2⟩ := store_yes (X := V) hf
  rw [show ((8 : Nat) : Int) = 8 from rfl] at f1 f2
  rw [e1, p2, f1, f2, s1]
  have hl : 96 + 8 + 8 ≤ (pushS (newS 128 128) 32).bs.length := by rw [l1]; omega
  refine ⟨by decide +kernel, p1, rfl, k1.store hl, (put_len (by rw [bytesV_length]; exact hl)).trans l1, s1, ?_, ?_⟩
  · rw [store_us k1 hl, if_neg (by omega), if_pos (by omega)]
  · rw [store_us k1 hl, if_pos (by omega)]
    have : (pushS (newS 128 128) 32).us = List.replicate 128 false := by decide +kernel
    rw [this, List.getElem?_replicate, if_pos (by omega)]

/-- The frame on it: none of its bytes is used. -/
structure PopI (n : Nat) (S T : Sk) : Prop where
  ok : T.Ok
  len : T.bs.length = 128
  sp : T.sp = 96 - n
  un : ∀ j, j < n → T.us[96 - n + j]? = some false
  bs : T.bs.drop 96 = S.bs.drop 96
  us : T.us.drop 96 = S.us.drop 96
theorem popi_push {n : Nat} {S U : Sk} (hn : n ≤ 96) (ok : U.Ok) (len : U.bs.length = 128) (sp : U.sp = 96) (bs : U.bs.drop 96 = S.bs.drop 96) (us : U.us.drop 96 = S.us.drop 96) : pushE U (n : Int) = 0 ∧ PopI n S (pushR U (n : Int)) := by
  obtain ⟨h1, h2⟩ := push_ok (S := U) (n := n) (by omega)
  refine ⟨h1, ?_⟩
  rw [h2]
  refine ⟨ok.push (by omega), len, by show U.sp - n = _; omega, fun j hj => ?_, bs, ?_⟩
  · rw [push_us ok (by omega), if_neg (by omega), if_pos (by omega)]
  · rw [push_drop ok (by omega) (by omega)]; exact us
theorem popi_start {n : Nat} {S : Sk} (h : PopS S) (hn : n ≤ 96) : pushE S (n : Int) = 0 ∧ PopI n S (pushR S (n : Int)) := popi_push hn h.ok h.len h.sp rfl rfl
theorem popi_load {n k : Nat} {S T : Sk} (h : PopI n S T) (hk : k < n) (hn : n ≤ 96) : fitE T (k : Int) 1 = 0 ∧ loadB T (k : Int) 1 = false ∧ loadV T (k : Int) 1 = 0 := by
  have hf : fitB T (k : Int) ((1 : Nat) : Int) = true := fit_ok (by decide) (by rw [h.len, h.sp]; omega)
  refine load_undef hf ?_
  cases e : usedB T (T.sp + k) 1 with
  | false => rfl
  | true =>
    have := (used_iff (by rw [h.ok.len, h.len, h.sp]; omega)).1 e 0 (by omega)
    rw [h.sp, Nat.add_zero, h.un k hk] at this
    simp at this
theorem popi_step {n k V : Nat} {S T : Sk} (h : PopI n S T) (hk : k + 8 ≤ n) (hn : n ≤ 96) : fitE T (k : Int) 8 = 0 ∧ popE (storeR T (k : Int) 8 V) (n : Int) = 0 ∧ pushE (popR (storeR T (k : Int) 8 V) (n : Int)) (n : Int) = 0 ∧ PopI n S (pushR (popR (storeR T (k : Int) 8 V) (n : Int)) (n : Int)) := by
  have hf : fitB T (k : Int) ((8 : Nat) : Int) = true := fit_ok (by decide) (by rw [h.len, h.sp]; omega)
  obtain ⟨f1, f2⟩ := store_yes (X := V) hf
  rw [show ((8 : Nat) : Int) = 8 from rfl] at f1 f2
  rw [f1, f2, h.sp]
  have hl : 96 - n + k + 8 ≤ T.bs.length := by rw [h.len]; omega
  have k1 := h.ok.store (X := V) hl
  have l1 : (storeS T (96 - n + k) 8 V).bs.length = 128 := (put_len (by rw [bytesV_length]; exact hl)).trans h.len
  have s1 : (storeS T (96 - n + k) 8 V).sp = 96 - n := h.sp
  obtain ⟨d1, d2⟩ := store_drop (X := V) h.ok hl (q := 96) (by omega)
  obtain ⟨p1, p2⟩ := pop_ok (S := storeS T (96 - n + k) 8 V) (n := n) (by rw [l1, s1]; omega)
  rw [p1, p2]
  have q := popi_push (S := S) (U := popS (storeS T (96 - n + k) 8 V) n) hn (k1.pop (by rw [l1, s1]; omega)) l1 (by show (storeS T (96 - n + k) 8 V).sp + n = 96; rw [s1]; omega) (d1.trans h.bs) (d2.trans h.us)
  exact ⟨rfl, rfl, q.1, q.2⟩
/-- The frame taken away again. -/
structure PopE (S U : Sk) : Prop where
  ok : U.Ok
  len : U.bs.length = 128
  sp : U.sp = 96
  bs : U.bs.drop 96 = S.bs.drop 96
  yes : U.us[104]? = some true
  no : U.us[96]? = some false
theorem popi_end {n : Nat} {S T : Sk} (hS : PopS S) (h : PopI n S T) (hn : n ≤ 96) : popE T (n : Int) = 0 ∧ PopE S (popR T (n : Int)) := by
  obtain ⟨p1, p2⟩ := pop_ok (S := T) (n := n) (by rw [h.len, h.sp]; omega)
  refine ⟨p1, ?_⟩
  rw [p2]
  have hat : ∀ j, T.us[96 + j]? = S.us[96 + j]? := fun j => by rw [← List.getElem?_drop, ← List.getElem?_drop, h.us]
  exact ⟨h.ok.pop (by rw [h.len, h.sp]; omega), h.len, by show T.sp + n = 96; rw [h.sp]; omega, h.bs, (hat 8).trans hS.yes, (hat 0).trans hS.no⟩
end Go.Proofs.Ytafegghdhdgioaa
end

section
/-
  The law on frames, walked: it returns true. Conditions: those of the types.
-/
namespace Go.Proofs.Ytafegghdhdgioaa
open Go.RowKit
attribute [local go_sem ↓] Go.wp_at_zero Go.wp_at_succ

/-- Two stacks in their boxes, beside a list of choices. -/
def Dsc2 (S : Nat → Sk) (S2 : Sk) (a1 : Option Addr) (k1 : Nat) (a2 : Option Addr) (k2 : Nat) (w : World) (gs g gc : Nat) (wx : World) : Prop :=
  ∃ (V : Nat) (d1 : Option Addr) (m1 : Nat) (d2 : Option Addr) (m2 : Nat), V < two128 ∧ Row wx g 25 [.slice d1 (S V).bs.length m1, .slice d2 (S V).bs.length m2, .int .i64 ((S V).sp : Int)] ∧ StkAt wx wx.heap.size d1 m1 d2 m2 (S V) ∧ Row wx gs 25 [.slice a1 S2.bs.length k1, .slice a2 S2.bs.length k2, .int .i64 (S2.sp : Int)] ∧ StkAt wx wx.heap.size a1 k1 a2 k2 S2 ∧ Codes wx gc ∧ Below w.heap.size w wx
/-- What holds at the head of the loop. -/
def PopRel (N : Nat) (S2 : Sk) (a1 : Option Addr) (k1 : Nat) (a2 : Option Addr) (k2 : Nat) (w : World) (gs g gc : Nat) (i : Value) (wr : World) : Prop :=
  ∃ (k : Nat) (T : Sk) (d1 : Option Addr) (m1 : Nat) (d2 : Option Addr) (m2 : Nat), k ≤ N ∧ i = .int .i64 (k : Int) ∧ Hid (PopI N S2 T) ∧ Hid (Row wr g 25 [.slice d1 T.bs.length m1, .slice d2 T.bs.length m2, .int .i64 (T.sp : Int)]) ∧ Hid (StkAt wr wr.heap.size d1 m1 d2 m2 T) ∧
    Hid (Row wr gs 25 [.slice a1 S2.bs.length k1, .slice a2 S2.bs.length k2, .int .i64 (S2.sp : Int)]) ∧ Hid (StkAt wr wr.heap.size a1 k1 a2 k2 S2) ∧ Hid (Codes wr gc) ∧ Hid (Below w.heap.size w wr)
/-- A stack in its box, beside a list of choices. -/
def Dsc (S : Nat → Sk) (w : World) (g gc : Nat) (wx : World) : Prop :=
  ∃ (V : Nat) (d1 : Option Addr) (m1 : Nat) (d2 : Option Addr) (m2 : Nat), V < two128 ∧ Row wx g 25 [.slice d1 (S V).bs.length m1, .slice d2 (S V).bs.length m2, .int .i64 ((S V).sp : Int)] ∧ StkAt wx wx.heap.size d1 m1 d2 m2 (S V) ∧ Codes wx gc ∧ Below w.heap.size w wx

set_option maxRecDepth 100000 in
set_option maxHeartbeats 8000000 in
theorem pop_walk (A : Option Addr) (n c : Nat) (zs : List Int) (z : Int) (w : World) (z0 : 0 ≤ z) (z1 : z ≤ 255) (hA : Hid (A = none → c = 0)) (hn : Hid (zs.length = n)) (hnc : n ≤ c) (hm : n ≤ 9223372036854775807) (hs : Hid (Sees w w.heap.size A (cellsU8 zs))) (hz : Hid (∀ z ∈ zs, 0 ≤ z ∧ z ≤ 255)) :
    Calls Try.prog 6 #[.slice A n c, .int .u8 z] w fun e w' => e = .returned (.bool true) ∧ Below w.heap.size w w' := by
  obtain ⟨hE0, hE1, hE2, _⟩ := pops_start 0
  have hPS := fun V => (pops_start V).2.2.2
  have cn := fun W => stknew_any 128 16 W
  obtain ⟨S0, hS0⟩ : ∃ S, newR 128 16 = S := ⟨_, rfl⟩
  simp only [hE0, hS0] at cn
  rw [hS0] at hE1 hE2
  simp only [hS0] at hPS
  obtain ⟨S1, hS1⟩ : ∃ S, pushR S0 32 = S := ⟨_, rfl⟩
  have cp := fun (a1 : Option Addr) (k1 : Nat) (a2 : Option Addr) (k2 : Nat) W HS => push_any (A1 := a1) (A2 := a2) (c1 := k1) (c2 := k2) (S := S0) 32 W HS
  simp only [hE1, hS1] at cp
  rw [hS1] at hE2
  simp only [hS1] at hPS
  have cs := fun (a1 : Option Addr) (k1 : Nat) (a2 : Option Addr) (k2 : Nat) (V : Nat) hV W HS => store_any (A1 := a1) (A2 := a2) (c1 := k1) (c2 := k2) (S := S1) 8 8 V hV W HS
  simp only [hE2] at cs
  have HPS := hide hPS
  clear hE0 hE1 hE2 hS0 hS1 hPS
  have B0 := hide (Below.refl w.heap.size w)
  go_enter Try.func6, Try.ntmps6
  go_wp2_with fail
  refine (awake9_any _).mono ?_
  rintro e w1 ⟨rfl, hb1⟩
  have B2 := hide (below_call B0.out hb1)
  clear B0
  clear hb1
  go_wp2_with fail
  have cnew := new_any A n c zs 100 w1 hA hn hnc hm (by omega) (hide ((hs.out.below B2.out).more B2.out.size)) hz
  rw [show ((100 : Nat) : Int) = 100 from rfl] at cnew
  have GC3 := hide B2.out.size
  go_fit (cnew)
  rintro e w3 ⟨rfl, hC3, hb3⟩
  obtain ⟨gc, hgc⟩ : ∃ g, w1.heap.size = g := ⟨_, rfl⟩
  rw [hgc] at hC3 GC3
  have HGC := hide hgc
  have B4 := hide (below_call B2.out hb3)
  clear B2
  clear hb3
  have Cc3 := hide hC3
  clear hC3 cnew hgc
  rw [HGC.out]
  go_wp2_with fail
  go_fit (cn _)
  rintro e w5 ⟨a1, k1, a2, k2, rfl, hS5, hb5⟩
  have Ss5 := hide hS5
  clear hS5
  have Cc6 := hide (Cc3.out.below hb5)
  clear Cc3
  have B6 := hide (below_call B4.out hb5)
  clear B4
  clear hb5
  go_upto_region 5 with (fail)
  obtain ⟨W7, hW7⟩ : ∃ W, w5.alloc (.cells #[.slice a1 S0.bs.length k1, .slice a2 S0.bs.length k2, .int .i64 (S0.sp : Int)] 25) = W := ⟨_, rfl⟩
  have HW7 := hide hW7
  have RS7 := hide (show Row W7 (w5.heap.size) 25 [.slice a1 S0.bs.length k1, .slice a2 S0.bs.length k2, .int .i64 (S0.sp : Int)] by rw [← hW7]; exact Row.new w5 _ _)
  have Ss7 := hide (show StkAt W7 W7.heap.size a1 k1 a2 k2 S0 by rw [← hW7]; exact Ss5.out.alloc _)
  clear Ss5
  have Cc7 := hide (show Codes W7 gc by rw [← hW7]; exact Cc6.out.alloc _)
  clear Cc6
  have L7 := hide (show w5.heap.size < W7.heap.size by rw [← hW7]; simp)
  have G7 := hide B6.out.size
  have B7 := hide (show Below w.heap.size w W7 by rw [← hW7]; exact B6.out.alloc B6.out.size _)
  clear hW7
  rw [HW7.out]
  have fS0 := RS7.out.cell (k := 0) rfl
  have fS1 := RS7.out.cell (k := 1) rfl
  have fS2 := RS7.out.cell (k := 2) rfl
  go_wp2_with fail
  go_fit (cp _ _ _ _ _ Ss7)
  rintro e w8 ⟨b1, l1, b2, l2, rfl, hS8, hb8⟩
  have Ss8 := hide hS8
  clear hS8
  have RS9 := hide (RS7.out.call hb8)
  clear RS7
  have Cc9 := hide (Cc7.out.below hb8)
  clear Cc7
  have B9 := hide (below_call B7.out hb8)
  clear B7
  clear hb8
  clear fS0 fS1 fS2
  have fS0 := RS9.out.cell (k := 0) rfl
  have fS1 := RS9.out.cell (k := 1) rfl
  have fS2 := RS9.out.cell (k := 2) rfl
  have yS0 := RS9.out.free 0
  have yS1 := RS9.out.free 1
  have yS2 := RS9.out.free 2
  go_upto_region 6 with (fail)
  obtain ⟨W10, hW10⟩ : ∃ W, ((w8.setCell ⟨w5.heap.size, 0, none⟩ (.slice b1 S1.bs.length l1)).setCell ⟨w5.heap.size, 1, none⟩ (.slice b2 S1.bs.length l2)).setCell ⟨w5.heap.size, 2, none⟩ (.int .i64 (S1.sp : Int)) = W := ⟨_, rfl⟩
  have HW10 := hide hW10
  have RS10 := hide (show Row W10 (w5.heap.size) 25 [.slice b1 S1.bs.length l1, .slice b2 S1.bs.length l2, .int .i64 (S1.sp : Int)] by rw [← hW10]; exact (((RS9.out).set_ 0 _).set_ 1 _).set_ 2 _)
  have Ss10 := hide (show StkAt W10 W10.heap.size b1 l1 b2 l2 S1 by rw [← hW10]; exact StkAt.put (StkAt.put (StkAt.put (Ss8.out) ((RS9.out).cell (k := 0) rfl) rfl _) (((RS9.out).set_ 0 _).cell (k := 1) rfl) rfl _) ((((RS9.out).set_ 0 _).set_ 1 _).cell (k := 2) rfl) rfl _)
  clear Ss8
  have Cc10 := hide (show Codes W10 gc by rw [← hW10]; exact (((Cc9.out).put (RS9.out) (by decide) ((RS9.out).cell (k := 0) rfl) rfl _).put ((RS9.out).set_ 0 _) (by decide) (((RS9.out).set_ 0 _).cell (k := 1) rfl) rfl _).put (((RS9.out).set_ 0 _).set_ 1 _) (by decide) ((((RS9.out).set_ 0 _).set_ 1 _).cell (k := 2) rfl) rfl _)
  clear Cc9
  have B10 := hide (show Below w.heap.size w W10 by rw [← hW10]; exact below_put (below_put (below_put (B9.out) (by have := G7.out; omega)) (by have := G7.out; omega)) (by have := G7.out; omega))
  clear hW10 RS9
  rw [HW10.out]
  clear fS0 fS1 fS2 yS0 yS1 yS2
  have RS11 := hide (RS10.out.drew)
  have Ss11 := hide (show StkAt W10.drew W10.drew.heap.size b1 l1 b2 l2 S1 from Ss10.out.drewN 1)
  have Cc11 := hide (Cc10.out.drew)
  have B11 := hide (below_draws B10.out 1)
  have fS0 := RS11.out.cell (k := 0) rfl
  have fS1 := RS11.out.cell (k := 1) rfl
  have fS2 := RS11.out.cell (k := 2) rfl
  go_cut [9] (fun v wx => v = .int .i64 0 ∧ Hid (Dsc (storeR S1 8 8) w w5.heap.size gc wx))
  case first =>
    go_region_law
      (first
        | (  go_simp;   go_at_call 19;   refine (value_any gc _ Cc11).mono ?_;   rintro e w12 ⟨V, rfl, hV, hC12, hg12⟩;   have RS12 := hide (RS11.out.next Cc11.out (by decide) hg12);   clear RS11;   have Ss12 := hide (Ss11.out.next Cc11.out hg12);   clear Ss11;   have B12 := hide (below_grown B11.out hg12 GC3.out B11.out.size);   clear B11;   have Cc12 := hide hC12;   clear Cc11 hC12 hg12;   have fS0 := RS12.out.cell (k := 0) rfl;   have fS1 := RS12.out.cell (k := 1) rfl;   have fS2 := RS12.out.cell (k := 2) rfl;   dsimp only)
        | (  go_simp;   go_at_call 18;   refine (cs _ _ _ _ V hV _ Ss12).mono ?_;   rintro e w13 ⟨d1, m1, d2, m2, rfl, hS13, hb13⟩;   have Ss13 := hide hS13;   clear hS13;   have RS14 := hide (RS12.out.call hb13);   clear RS12;   have Cc14 := hide (Cc12.out.below hb13);   clear Cc12;   have B14 := hide (below_call B12.out hb13);   clear B12;   clear hb13;   have fS0 := RS14.out.cell (k := 0) rfl;   have fS1 := RS14.out.cell (k := 1) rfl;   have fS2 := RS14.out.cell (k := 2) rfl;   have yS0 := RS14.out.free 0;   have yS1 := RS14.out.free 1;   have yS2 := RS14.out.free 2;   dsimp only))
    all_goals
      obtain ⟨W15, hW15⟩ : ∃ W, ((w13.setCell ⟨w5.heap.size, 0, none⟩ (.slice d1 (storeR S1 8 8 V).bs.length m1)).setCell ⟨w5.heap.size, 1, none⟩ (.slice d2 (storeR S1 8 8 V).bs.length m2)).setCell ⟨w5.heap.size, 2, none⟩ (.int .i64 ((storeR S1 8 8 V).sp : Int)) = W := ⟨_, rfl⟩
      have HW15 := hide hW15
      have RS15 := hide (show Row W15 (w5.heap.size) 25 [.slice d1 (storeR S1 8 8 V).bs.length m1, .slice d2 (storeR S1 8 8 V).bs.length m2, .int .i64 ((storeR S1 8 8 V).sp : Int)] by rw [← hW15]; exact (((RS14.out).set_ 0 _).set_ 1 _).set_ 2 _)
      have Ss15 := hide (show StkAt W15 W15.heap.size d1 m1 d2 m2 (storeR S1 8 8 V) by rw [← hW15]; exact StkAt.put (StkAt.put (StkAt.put (Ss13.out) ((RS14.out).cell (k := 0) rfl) rfl _) (((RS14.out).set_ 0 _).cell (k := 1) rfl) rfl _) ((((RS14.out).set_ 0 _).set_ 1 _).cell (k := 2) rfl) rfl _)
      clear Ss13
      have Cc15 := hide (show Codes W15 gc by rw [← hW15]; exact (((Cc14.out).put (RS14.out) (by decide) ((RS14.out).cell (k := 0) rfl) rfl _).put ((RS14.out).set_ 0 _) (by decide) (((RS14.out).set_ 0 _).cell (k := 1) rfl) rfl _).put (((RS14.out).set_ 0 _).set_ 1 _) (by decide) ((((RS14.out).set_ 0 _).set_ 1 _).cell (k := 2) rfl) rfl _)
      clear Cc14
      have B15 := hide (show Below w.heap.size w W15 by rw [← hW15]; exact below_put (below_put (below_put (B14.out) (by have := G7.out; omega)) (by have := G7.out; omega)) (by have := G7.out; omega))
      clear hW15 RS14
      have HD := hide (show Dsc (storeR S1 8 8) w w5.heap.size gc W15 from ⟨V, d1, m1, d2, m2, hV, RS15.out, Ss15.out, Cc15.out, B15.out⟩)
      go_wp2_with fail
      rw [HW15.out]
      go_meet
      exact ⟨rfl, HD⟩
  case rest =>
    obtain ⟨rfl, hD⟩ := hcut
    obtain ⟨V, d1, m1, d2, m2, hV, rS, rs, rC, rB⟩ := hD.out
    obtain ⟨S2, hS2⟩ : ∃ S, storeR S1 8 8 V = S := ⟨_, rfl⟩
    have hP := HPS.out V
    rw [hS2] at rS rs hP
    have RS := hide rS
    have SS := hide rs
    have CC := hide rC
    have BB := hide rB
    have HP := hide hP
    clear hD rS rs rC rB hP hS2 cn cp cs HPS
    obtain ⟨p, rfl⟩ : ∃ p : Nat, z = (p : Int) := ⟨z.toNat, by omega⟩
    obtain ⟨q, hq⟩ : ∃ q, p % 6 = q := ⟨_, rfl⟩
    have hq6 : q < 6 := by omega
    have hqt : Int.tmod (p : Int) 6 = (q : Int) := by rw [show (6 : Int) = ((6 : Nat) : Int) from rfl, ← Int.ofNat_tmod, hq]
    obtain ⟨N, hN⟩ : ∃ N, 16 * q = N := ⟨_, rfl⟩
    have hNi : 16 * (q : Int) = (N : Int) := by omega
    have hN96 : N ≤ 96 := by omega
    clear hq hN
    obtain ⟨hE, hI⟩ := popi_start HP.out hN96
    have cp := fun W HS => push_any (A1 := d1) (A2 := d2) (c1 := m1) (c2 := m2) (S := S2) (N : Int) W HS
    obtain ⟨T0, hT0⟩ : ∃ S, pushR S2 (N : Int) = S := ⟨_, rfl⟩
    simp only [hE, hT0] at cp
    rw [hT0] at hI
    have HI := hide hI
    clear hE hI hT0
    have fS0 := RS.out.cell (k := 0) rfl
    have fS1 := RS.out.cell (k := 1) rfl
    have fS2 := RS.out.cell (k := 2) rfl
    go_wp2_with fail
    go_fit (cp _ SS)
    rintro e w201 ⟨e1, n1, e2, n2, rfl, hS201, hb201⟩
    have St201 := hide hS201
    clear hS201
    have RS202 := hide (RS.out.call hb201)
    clear RS
    have Ss202 := hide (SS.out.call hb201)
    clear SS
    have Cc202 := hide (CC.out.below hb201)
    clear CC
    have B202 := hide (below_call BB.out hb201)
    clear BB
    clear hb201
    go_upto_region 9 with (fail)
    have DS := hide (show w5.heap.size < w201.heap.size from RS202.out.lt)
    obtain ⟨W203, hW203⟩ : ∃ W, w201.alloc (.cells #[.slice e1 T0.bs.length n1, .slice e2 T0.bs.length n2, .int .i64 (T0.sp : Int)] 25) = W := ⟨_, rfl⟩
    have HW203 := hide hW203
    have RS203 := hide (show Row W203 (w5.heap.size) 25 [.slice d1 S2.bs.length m1, .slice d2 S2.bs.length m2, .int .i64 (S2.sp : Int)] by rw [← hW203]; exact RS202.out.alloc _)
    clear RS202
    have RT203 := hide (show Row W203 (w201.heap.size) 25 [.slice e1 T0.bs.length n1, .slice e2 T0.bs.length n2, .int .i64 (T0.sp : Int)] by rw [← hW203]; exact Row.new w201 _ _)
    have Ss203 := hide (show StkAt W203 W203.heap.size d1 m1 d2 m2 S2 by rw [← hW203]; exact Ss202.out.alloc _)
    clear Ss202
    have St203 := hide (show StkAt W203 W203.heap.size e1 n1 e2 n2 T0 by rw [← hW203]; exact St201.out.alloc _)
    clear St201
    have Cc203 := hide (show Codes W203 gc by rw [← hW203]; exact Cc202.out.alloc _)
    clear Cc202
    have L203 := hide (show w201.heap.size < W203.heap.size by rw [← hW203]; simp)
    have G203 := hide B202.out.size
    have B203 := hide (show Below w.heap.size w W203 by rw [← hW203]; exact B202.out.alloc B202.out.size _)
    clear hW203
    rw [HW203.out]
    have DT := hide (show w5.heap.size < w201.heap.size from DS.out)
    go_wp2_with fail
    go_loopw [13] (fun i wr => PopRel N S2 d1 m1 d2 m2 w w5.heap.size w201.heap.size gc i wr) (fun i _ => N - (intOf i).toNat)
    case atStart => exact ⟨0, T0, e1, n1, e2, n2, by omega, rfl, HI, RT203, St203, RS203, Ss203, Cc203, B203⟩
    case round =>
      obtain ⟨k, T, f1, o1, f2, o2, hk, rfl, HJ, RT, ST, RS, SS, CC, BB⟩ := hrel
      clear RT203 St203 RS203 Ss203 Cc203 B203 HI
      by_cases hlt : k < N
      · have hdk : decide ((k : Int) < (N : Int)) = true := by simp; omega
        obtain ⟨lE, lB, lV⟩ := popi_load HJ.out hlt hN96
        have cl := fun W HS => load_any (A1 := f1) (A2 := f2) (c1 := o1) (c2 := o2) (S := T) (k : Int) 1 (by unfold isI; omega) W HS
        unfold LoadPost at cl
        simp only [lE, lB, lV] at cl
        clear lE lB lV
        have fT0 := RT.out.cell (k := 0) rfl
        have fT1 := RT.out.cell (k := 1) rfl
        have fT2 := RT.out.cell (k := 2) rfl
        go_wp2_with fail
        refine (cl _ ST).mono ?_
        rintro e w204 ⟨rfl, hb204⟩
        have RS205 := hide (RS.out.call hb204)
        clear RS
        have RT205 := hide (RT.out.call hb204)
        clear RT
        have Ss205 := hide (SS.out.call hb204)
        clear SS
        have St205 := hide (ST.out.call hb204)
        clear ST
        have Cc205 := hide (CC.out.below hb204)
        clear CC
        have B205 := hide (below_call BB.out hb204)
        clear BB
        clear hb204
        go_upto_region 15 with (fail)
        obtain ⟨W206, hW206⟩ : ∃ W, w204.alloc (.cells #[.int .u64 (lo 0), .int .u64 (hi 0)] 42) = W := ⟨_, rfl⟩
        have HW206 := hide hW206
        have RS206 := hide (show Row W206 (w5.heap.size) 25 [.slice d1 S2.bs.length m1, .slice d2 S2.bs.length m2, .int .i64 (S2.sp : Int)] by rw [← hW206]; exact RS205.out.alloc _)
        clear RS205
        have RT206 := hide (show Row W206 (w201.heap.size) 25 [.slice f1 T.bs.length o1, .slice f2 T.bs.length o2, .int .i64 (T.sp : Int)] by rw [← hW206]; exact RT205.out.alloc _)
        clear RT205
        have RL206 := hide (show Row W206 (w204.heap.size) 42 [.int .u64 (lo 0), .int .u64 (hi 0)] by rw [← hW206]; exact Row.new w204 _ _)
        have Ss206 := hide (show StkAt W206 W206.heap.size d1 m1 d2 m2 S2 by rw [← hW206]; exact Ss205.out.alloc _)
        clear Ss205
        have St206 := hide (show StkAt W206 W206.heap.size f1 o1 f2 o2 T by rw [← hW206]; exact St205.out.alloc _)
        clear St205
        have Cc206 := hide (show Codes W206 gc by rw [← hW206]; exact Cc205.out.alloc _)
        clear Cc205
        have L206 := hide (show w204.heap.size < W206.heap.size by rw [← hW206]; simp)
        have G206 := hide B205.out.size
        have B206 := hide (show Below w.heap.size w W206 by rw [← hW206]; exact B205.out.alloc B205.out.size _)
        clear hW206
        rw [HW206.out]
        clear cl fT0 fT1 fT2
        by_cases h8 : (k : Int) + 8 ≤ (N : Int)
        · have HST := fun (V : Nat) => popi_step (V := V) HJ.out (show k + 8 ≤ N by omega) hN96
          have cs := fun (V : Nat) hV W HS => store_any (A1 := f1) (A2 := f2) (c1 := o1) (c2 := o2) (S := T) (k : Int) 8 V hV W HS
          simp only [(HST 0).1] at cs
          have HH := hide HST
          clear HST
          go_upto_region 18 with (fail)
          have RS207 := hide (RS206.out.drew)
          have RT207 := hide (RT206.out.drew)
          have Ss207 := hide (show StkAt W206.drew W206.drew.heap.size d1 m1 d2 m2 S2 from Ss206.out.drewN 1)
          have St207 := hide (show StkAt W206.drew W206.drew.heap.size f1 o1 f2 o2 T from St206.out.drewN 1)
          have Cc207 := hide (Cc206.out.drew)
          have B207 := hide (below_draws B206.out 1)
          have fT0 := RT207.out.cell (k := 0) rfl
          have fT1 := RT207.out.cell (k := 1) rfl
          have fT2 := RT207.out.cell (k := 2) rfl
          go_cut [] (fun wx => Hid (Dsc2 (storeR T (k : Int) 8) S2 d1 m1 d2 m2 w w5.heap.size w201.heap.size gc wx))
          case first =>
            go_region_law
              (first
                | (          go_simp;           go_at_call 19;           refine (value_any gc _ Cc207).mono ?_;           rintro e w208 ⟨V, rfl, hV, hC208, hg208⟩;           have RS208 := hide (RS207.out.next Cc207.out (by decide) hg208);           clear RS207;           have RT208 := hide (RT207.out.next Cc207.out (by decide) hg208);           clear RT207;           have Ss208 := hide (Ss207.out.next Cc207.out hg208);           clear Ss207;           have St208 := hide (St207.out.next Cc207.out hg208);           clear St207;           have B208 := hide (below_grown B207.out hg208 GC3.out B207.out.size);           clear B207;           have Cc208 := hide hC208;           clear Cc207 hC208 hg208;           have fT0 := RT208.out.cell (k := 0) rfl;           have fT1 := RT208.out.cell (k := 1) rfl;           have fT2 := RT208.out.cell (k := 2) rfl;           dsimp only)
                | (          go_simp;           go_at_call 18;           refine (cs V hV _ St208).mono ?_;           rintro e w209 ⟨g1, p1, g2, p2, rfl, hS209, hb209⟩;           have St209 := hide hS209;           clear hS209;           have RS210 := hide (RS208.out.call hb209);           clear RS208;           have RT210 := hide (RT208.out.call hb209);           clear RT208;           have Ss210 := hide (Ss208.out.call hb209);           clear Ss208;           have Cc210 := hide (Cc208.out.below hb209);           clear Cc208;           have B210 := hide (below_call B208.out hb209);           clear B208;           clear hb209;           have fT0 := RT210.out.cell (k := 0) rfl;           have fT1 := RT210.out.cell (k := 1) rfl;           have fT2 := RT210.out.cell (k := 2) rfl;           have yT0 := RT210.out.free 0;           have yT1 := RT210.out.free 1;           have yT2 := RT210.out.free 2;           dsimp only))
            all_goals
              obtain ⟨W211, hW211⟩ : ∃ W, ((w209.setCell ⟨w201.heap.size, 0, none⟩ (.slice g1 (storeR T (k : Int) 8 V).bs.length p1)).setCell ⟨w201.heap.size, 1, none⟩ (.slice g2 (storeR T (k : Int) 8 V).bs.length p2)).setCell ⟨w201.heap.size, 2, none⟩ (.int .i64 ((storeR T (k : Int) 8 V).sp : Int)) = W := ⟨_, rfl⟩
              have HW211 := hide hW211
              have RT211 := hide (show Row W211 (w201.heap.size) 25 [.slice g1 (storeR T (k : Int) 8 V).bs.length p1, .slice g2 (storeR T (k : Int) 8 V).bs.length p2, .int .i64 ((storeR T (k : Int) 8 V).sp : Int)] by rw [← hW211]; exact (((RT210.out).set_ 0 _).set_ 1 _).set_ 2 _)
              have RS211 := hide (show Row W211 (w5.heap.size) 25 [.slice d1 S2.bs.length m1, .slice d2 S2.bs.length m2, .int .i64 (S2.sp : Int)] by rw [← hW211]; exact (((RS210.out).far (p := ⟨w201.heap.size, 0, none⟩) (by have := DT.out; simp <;> omega) _).far (p := ⟨w201.heap.size, 1, none⟩) (by have := DT.out; simp <;> omega) _).far (p := ⟨w201.heap.size, 2, none⟩) (by have := DT.out; simp <;> omega) _)
              clear RS210
              have Ss211 := hide (show StkAt W211 W211.heap.size d1 m1 d2 m2 S2 by rw [← hW211]; exact StkAt.put (StkAt.put (StkAt.put (Ss210.out) ((RT210.out).cell (k := 0) rfl) rfl _) (((RT210.out).set_ 0 _).cell (k := 1) rfl) rfl _) ((((RT210.out).set_ 0 _).set_ 1 _).cell (k := 2) rfl) rfl _)
              clear Ss210
              have St211 := hide (show StkAt W211 W211.heap.size g1 p1 g2 p2 (storeR T (k : Int) 8 V) by rw [← hW211]; exact StkAt.put (StkAt.put (StkAt.put (St209.out) ((RT210.out).cell (k := 0) rfl) rfl _) (((RT210.out).set_ 0 _).cell (k := 1) rfl) rfl _) ((((RT210.out).set_ 0 _).set_ 1 _).cell (k := 2) rfl) rfl _)
              clear St209
              have Cc211 := hide (show Codes W211 gc by rw [← hW211]; exact (((Cc210.out).put (RT210.out) (by decide) ((RT210.out).cell (k := 0) rfl) rfl _).put ((RT210.out).set_ 0 _) (by decide) (((RT210.out).set_ 0 _).cell (k := 1) rfl) rfl _).put (((RT210.out).set_ 0 _).set_ 1 _) (by decide) ((((RT210.out).set_ 0 _).set_ 1 _).cell (k := 2) rfl) rfl _)
              clear Cc210
              have B211 := hide (show Below w.heap.size w W211 by rw [← hW211]; exact below_put (below_put (below_put (B210.out) (by have := G203.out; omega)) (by have := G203.out; omega)) (by have := G203.out; omega))
              clear hW211 RT210
              have HD := hide (show Dsc2 (storeR T (k : Int) 8) S2 d1 m1 d2 m2 w w5.heap.size w201.heap.size gc W211 from ⟨V, g1, p1, g2, p2, hV, RT211.out, St211.out, RS211.out, Ss211.out, Cc211.out, B211.out⟩)
              go_wp2_with fail
              rw [HW211.out]
              go_meet
              exact HD
          case rest =>
            obtain ⟨V, g1, p1, g2, p2, hV, rT, rt, rS, rs, rC, rB⟩ := hcut.out
            obtain ⟨hE1, hE2, hE3, hJ⟩ := HH.out V
            obtain ⟨T1, hT1⟩ : ∃ S, storeR T (k : Int) 8 V = S := ⟨_, rfl⟩
            rw [hT1] at rT rt hE2 hE3 hJ
            obtain ⟨T2, hT2⟩ : ∃ S, popR T1 (N : Int) = S := ⟨_, rfl⟩
            rw [hT2] at hE3 hJ
            obtain ⟨T3, hT3⟩ : ∃ S, pushR T2 (N : Int) = S := ⟨_, rfl⟩
            rw [hT3] at hJ
            have cpo := fun W HS => pop_any (A1 := g1) (A2 := g2) (c1 := p1) (c2 := p2) (S := T1) (N : Int) W HS
            simp only [hE2, hT2] at cpo
            have cpu := fun (a1 : Option Addr) (k1 : Nat) (a2 : Option Addr) (k2 : Nat) W HS => push_any (A1 := a1) (A2 := a2) (c1 := k1) (c2 := k2) (S := T2) (N : Int) W HS
            simp only [hE3, hT3] at cpu
            obtain ⟨lE, lB, lV⟩ := popi_load hJ hlt hN96
            have cl := fun (a1 : Option Addr) (k1 : Nat) (a2 : Option Addr) (k2 : Nat) W HS => load_any (A1 := a1) (A2 := a2) (c1 := k1) (c2 := k2) (S := T3) (k : Int) 1 (by unfold isI; omega) W HS
            unfold LoadPost at cl
            simp only [lE, lB, lV] at cl
            clear lE lB lV hE1 hE2 hE3 hT1 hT2 hT3
            have RT9 := hide rT
            have ST9 := hide rt
            have RS9 := hide rS
            have SS9 := hide rs
            have CC9 := hide rC
            have BB9 := hide rB
            have HJ9 := hide hJ
            clear rT rt rS rs rC rB hJ hcut
            have fT0 := RT9.out.cell (k := 0) rfl
            have fT1 := RT9.out.cell (k := 1) rfl
            have fT2 := RT9.out.cell (k := 2) rfl
            go_wp2_with fail
            go_fit (cpo _ ST9)
            rintro e w208 ⟨x1, y1, x2, y2, rfl, hS208, hb208⟩
            have Su208 := hide hS208
            clear hS208
            have RS209 := hide (RS9.out.call hb208)
            clear RS9
            have RT209 := hide (RT9.out.call hb208)
            clear RT9
            have Ss209 := hide (SS9.out.call hb208)
            clear SS9
            have St209 := hide (ST9.out.call hb208)
            clear ST9
            have Cc209 := hide (CC9.out.below hb208)
            clear CC9
            have B209 := hide (below_call BB9.out hb208)
            clear BB9
            clear hb208
            go_upto_region 20 with (fail)
            obtain ⟨W210, hW210⟩ : ∃ W, w208.alloc (.cells #[.slice x1 T2.bs.length y1, .slice x2 T2.bs.length y2, .int .i64 (T2.sp : Int)] 25) = W := ⟨_, rfl⟩
            have HW210 := hide hW210
            have RS210 := hide (show Row W210 (w5.heap.size) 25 [.slice d1 S2.bs.length m1, .slice d2 S2.bs.length m2, .int .i64 (S2.sp : Int)] by rw [← hW210]; exact RS209.out.alloc _)
            clear RS209
            have RT210 := hide (show Row W210 (w201.heap.size) 25 [.slice g1 T1.bs.length p1, .slice g2 T1.bs.length p2, .int .i64 (T1.sp : Int)] by rw [← hW210]; exact RT209.out.alloc _)
            clear RT209
            have RU210 := hide (show Row W210 (w208.heap.size) 25 [.slice x1 T2.bs.length y1, .slice x2 T2.bs.length y2, .int .i64 (T2.sp : Int)] by rw [← hW210]; exact Row.new w208 _ _)
            have Ss210 := hide (show StkAt W210 W210.heap.size d1 m1 d2 m2 S2 by rw [← hW210]; exact Ss209.out.alloc _)
            clear Ss209
            have St210 := hide (show StkAt W210 W210.heap.size g1 p1 g2 p2 T1 by rw [← hW210]; exact St209.out.alloc _)
            clear St209
            have Su210 := hide (show StkAt W210 W210.heap.size x1 y1 x2 y2 T2 by rw [← hW210]; exact Su208.out.alloc _)
            clear Su208
            have Cc210 := hide (show Codes W210 gc by rw [← hW210]; exact Cc209.out.alloc _)
            clear Cc209
            have L210 := hide (show w208.heap.size < W210.heap.size by rw [← hW210]; simp)
            have G210 := hide B209.out.size
            have B210 := hide (show Below w.heap.size w W210 by rw [← hW210]; exact B209.out.alloc B209.out.size _)
            clear hW210
            rw [HW210.out]
            clear fT0 fT1 fT2
            have fU0 := RU210.out.cell (k := 0) rfl
            have fU1 := RU210.out.cell (k := 1) rfl
            have fU2 := RU210.out.cell (k := 2) rfl
            go_wp2_with fail
            go_fit (cpu _ _ _ _ _ Su210)
            rintro e w211 ⟨r1, s1, r2, s2, rfl, hS211, hb211⟩
            have Sv211 := hide hS211
            clear hS211
            have RS212 := hide (RS210.out.call hb211)
            clear RS210
            have RT212 := hide (RT210.out.call hb211)
            clear RT210
            have RU212 := hide (RU210.out.call hb211)
            clear RU210
            have Ss212 := hide (Ss210.out.call hb211)
            clear Ss210
            have St212 := hide (St210.out.call hb211)
            clear St210
            have Su212 := hide (Su210.out.call hb211)
            clear Su210
            have Cc212 := hide (Cc210.out.below hb211)
            clear Cc210
            have B212 := hide (below_call B210.out hb211)
            clear B210
            clear hb211
            go_upto_region 21 with (fail)
            obtain ⟨W213, hW213⟩ : ∃ W, w211.alloc (.cells #[.slice r1 T3.bs.length s1, .slice r2 T3.bs.length s2, .int .i64 (T3.sp : Int)] 25) = W := ⟨_, rfl⟩
            have HW213 := hide hW213
            have RS213 := hide (show Row W213 (w5.heap.size) 25 [.slice d1 S2.bs.length m1, .slice d2 S2.bs.length m2, .int .i64 (S2.sp : Int)] by rw [← hW213]; exact RS212.out.alloc _)
            clear RS212
            have RT213 := hide (show Row W213 (w201.heap.size) 25 [.slice g1 T1.bs.length p1, .slice g2 T1.bs.length p2, .int .i64 (T1.sp : Int)] by rw [← hW213]; exact RT212.out.alloc _)
            clear RT212
            have RU213 := hide (show Row W213 (w208.heap.size) 25 [.slice x1 T2.bs.length y1, .slice x2 T2.bs.length y2, .int .i64 (T2.sp : Int)] by rw [← hW213]; exact RU212.out.alloc _)
            clear RU212
            have RV213 := hide (show Row W213 (w211.heap.size) 25 [.slice r1 T3.bs.length s1, .slice r2 T3.bs.length s2, .int .i64 (T3.sp : Int)] by rw [← hW213]; exact Row.new w211 _ _)
            have Ss213 := hide (show StkAt W213 W213.heap.size d1 m1 d2 m2 S2 by rw [← hW213]; exact Ss212.out.alloc _)
            clear Ss212
            have St213 := hide (show StkAt W213 W213.heap.size g1 p1 g2 p2 T1 by rw [← hW213]; exact St212.out.alloc _)
            clear St212
            have Su213 := hide (show StkAt W213 W213.heap.size x1 y1 x2 y2 T2 by rw [← hW213]; exact Su212.out.alloc _)
            clear Su212
            have Sv213 := hide (show StkAt W213 W213.heap.size r1 s1 r2 s2 T3 by rw [← hW213]; exact Sv211.out.alloc _)
            clear Sv211
            have Cc213 := hide (show Codes W213 gc by rw [← hW213]; exact Cc212.out.alloc _)
            clear Cc212
            have L213 := hide (show w211.heap.size < W213.heap.size by rw [← hW213]; simp)
            have G213 := hide B212.out.size
            have B213 := hide (show Below w.heap.size w W213 by rw [← hW213]; exact B212.out.alloc B212.out.size _)
            clear hW213
            rw [HW213.out]
            clear fU0 fU1 fU2
            have fV0 := RV213.out.cell (k := 0) rfl
            have fV1 := RV213.out.cell (k := 1) rfl
            have fV2 := RV213.out.cell (k := 2) rfl
            go_wp2_with fail
            refine (cl _ _ _ _ _ Sv213).mono ?_
            rintro e w214 ⟨rfl, hb214⟩
            have RS215 := hide (RS213.out.call hb214)
            clear RS213
            have RT215 := hide (RT213.out.call hb214)
            clear RT213
            have RU215 := hide (RU213.out.call hb214)
            clear RU213
            have RV215 := hide (RV213.out.call hb214)
            clear RV213
            have Ss215 := hide (Ss213.out.call hb214)
            clear Ss213
            have St215 := hide (St213.out.call hb214)
            clear St213
            have Su215 := hide (Su213.out.call hb214)
            clear Su213
            have Sv215 := hide (Sv213.out.call hb214)
            clear Sv213
            have Cc215 := hide (Cc213.out.below hb214)
            clear Cc213
            have B215 := hide (below_call B213.out hb214)
            clear B213
            clear hb214
            go_upto_region 24 with (fail)
            obtain ⟨W216, hW216⟩ : ∃ W, w214.alloc (.cells #[.int .u64 (lo 0), .int .u64 (hi 0)] 42) = W := ⟨_, rfl⟩
            have HW216 := hide hW216
            have RS216 := hide (show Row W216 (w5.heap.size) 25 [.slice d1 S2.bs.length m1, .slice d2 S2.bs.length m2, .int .i64 (S2.sp : Int)] by rw [← hW216]; exact RS215.out.alloc _)
            clear RS215
            have RT216 := hide (show Row W216 (w201.heap.size) 25 [.slice g1 T1.bs.length p1, .slice g2 T1.bs.length p2, .int .i64 (T1.sp : Int)] by rw [← hW216]; exact RT215.out.alloc _)
            clear RT215
            have RU216 := hide (show Row W216 (w208.heap.size) 25 [.slice x1 T2.bs.length y1, .slice x2 T2.bs.length y2, .int .i64 (T2.sp : Int)] by rw [← hW216]; exact RU215.out.alloc _)
            clear RU215
            have RV216 := hide (show Row W216 (w211.heap.size) 25 [.slice r1 T3.bs.length s1, .slice r2 T3.bs.length s2, .int .i64 (T3.sp : Int)] by rw [← hW216]; exact RV215.out.alloc _)
            clear RV215
            have RL216 := hide (show Row W216 (w214.heap.size) 42 [.int .u64 (lo 0), .int .u64 (hi 0)] by rw [← hW216]; exact Row.new w214 _ _)
            have Ss216 := hide (show StkAt W216 W216.heap.size d1 m1 d2 m2 S2 by rw [← hW216]; exact Ss215.out.alloc _)
            clear Ss215
            have St216 := hide (show StkAt W216 W216.heap.size g1 p1 g2 p2 T1 by rw [← hW216]; exact St215.out.alloc _)
            clear St215
            have Su216 := hide (show StkAt W216 W216.heap.size x1 y1 x2 y2 T2 by rw [← hW216]; exact Su215.out.alloc _)
            clear Su215
            have Sv216 := hide (show StkAt W216 W216.heap.size r1 s1 r2 s2 T3 by rw [← hW216]; exact Sv215.out.alloc _)
            clear Sv215
            have Cc216 := hide (show Codes W216 gc by rw [← hW216]; exact Cc215.out.alloc _)
            clear Cc215
            have L216 := hide (show w214.heap.size < W216.heap.size by rw [← hW216]; simp)
            have G216 := hide B215.out.size
            have B216 := hide (show Below w.heap.size w W216 by rw [← hW216]; exact B215.out.alloc B215.out.size _)
            clear hW216
            rw [HW216.out]
            clear fV0 fV1 fV2
            have fV0 := RV216.out.cell (k := 0) rfl
            have fV1 := RV216.out.cell (k := 1) rfl
            have fV2 := RV216.out.cell (k := 2) rfl
            have fT0 := RT216.out.cell (k := 0) rfl
            have fT1 := RT216.out.cell (k := 1) rfl
            have fT2 := RT216.out.cell (k := 2) rfl
            have yT0 := RT216.out.free 0
            have yT1 := RT216.out.free 1
            have yT2 := RT216.out.free 2
            go_wp2_with fail
            obtain ⟨W217, hW217⟩ : ∃ W, ((W216.setCell ⟨w201.heap.size, 0, none⟩ (.slice r1 T3.bs.length s1)).setCell ⟨w201.heap.size, 1, none⟩ (.slice r2 T3.bs.length s2)).setCell ⟨w201.heap.size, 2, none⟩ (.int .i64 (T3.sp : Int)) = W := ⟨_, rfl⟩
            have HW217 := hide hW217
            have RT217 := hide (show Row W217 (w201.heap.size) 25 [.slice r1 T3.bs.length s1, .slice r2 T3.bs.length s2, .int .i64 (T3.sp : Int)] by rw [← hW217]; exact (((RT216.out).set_ 0 _).set_ 1 _).set_ 2 _)
            have RS217 := hide (show Row W217 (w5.heap.size) 25 [.slice d1 S2.bs.length m1, .slice d2 S2.bs.length m2, .int .i64 (S2.sp : Int)] by rw [← hW217]; exact (((RS216.out).far (p := ⟨w201.heap.size, 0, none⟩) (by have := DT.out; simp <;> omega) _).far (p := ⟨w201.heap.size, 1, none⟩) (by have := DT.out; simp <;> omega) _).far (p := ⟨w201.heap.size, 2, none⟩) (by have := DT.out; simp <;> omega) _)
            clear RS216
            have Ss217 := hide (show StkAt W217 W217.heap.size d1 m1 d2 m2 S2 by rw [← hW217]; exact StkAt.put (StkAt.put (StkAt.put (Ss216.out) ((RT216.out).cell (k := 0) rfl) rfl _) (((RT216.out).set_ 0 _).cell (k := 1) rfl) rfl _) ((((RT216.out).set_ 0 _).set_ 1 _).cell (k := 2) rfl) rfl _)
            clear Ss216
            have Sv217 := hide (show StkAt W217 W217.heap.size r1 s1 r2 s2 T3 by rw [← hW217]; exact StkAt.put (StkAt.put (StkAt.put (Sv216.out) ((RT216.out).cell (k := 0) rfl) rfl _) (((RT216.out).set_ 0 _).cell (k := 1) rfl) rfl _) ((((RT216.out).set_ 0 _).set_ 1 _).cell (k := 2) rfl) rfl _)
            clear Sv216
            have Cc217 := hide (show Codes W217 gc by rw [← hW217]; exact (((Cc216.out).put (RT216.out) (by decide) ((RT216.out).cell (k := 0) rfl) rfl _).put ((RT216.out).set_ 0 _) (by decide) (((RT216.out).set_ 0 _).cell (k := 1) rfl) rfl _).put (((RT216.out).set_ 0 _).set_ 1 _) (by decide) ((((RT216.out).set_ 0 _).set_ 1 _).cell (k := 2) rfl) rfl _)
            clear Cc216
            have B217 := hide (show Below w.heap.size w W217 by rw [← hW217]; exact below_put (below_put (below_put (B216.out) (by have := G203.out; omega)) (by have := G203.out; omega)) (by have := G203.out; omega))
            clear hW217 RT216
            rw [HW217.out]
            go_roundw
            case rel => exact ⟨k + 1, T3, r1, s1, r2, s2, by omega, by go_num, HJ9, RT217, Sv217, RS217, Ss217, Cc217, B217⟩
            case measure => simp [intOf]; omega
        · go_wp2_with fail
          go_roundw
          case rel => exact ⟨k + 1, T, f1, o1, f2, o2, by omega, by go_num, HJ, RT206, St206, RS206, Ss206, Cc206, B206⟩
          case measure => simp [intOf]; omega
      · obtain rfl : k = N := by omega
        obtain ⟨hE, hF⟩ := popi_end HP.out HJ.out hN96
        have cpo := fun W HS => pop_any (A1 := f1) (A2 := f2) (c1 := o1) (c2 := o2) (S := T) (k : Int) W HS
        obtain ⟨U, hU⟩ : ∃ S, popR T (k : Int) = S := ⟨_, rfl⟩
        simp only [hE, hU] at cpo
        rw [hU] at hF
        have HF := hide hF
        clear hE hU hF
        have fT0 := RT.out.cell (k := 0) rfl
        have fT1 := RT.out.cell (k := 1) rfl
        have fT2 := RT.out.cell (k := 2) rfl
        go_wp2_with fail
        go_fit (cpo _ ST)
        rintro e w204 ⟨x1, y1, x2, y2, rfl, hS204, hb204⟩
        have Su204 := hide hS204
        clear hS204
        have RS205 := hide (RS.out.call hb204)
        clear RS
        have RT205 := hide (RT.out.call hb204)
        clear RT
        have Ss205 := hide (SS.out.call hb204)
        clear SS
        have St205 := hide (ST.out.call hb204)
        clear ST
        have Cc205 := hide (CC.out.below hb204)
        clear CC
        have B205 := hide (below_call BB.out hb204)
        clear BB
        clear hb204
        go_upto_region 28 with (fail)
        obtain ⟨W206, hW206⟩ : ∃ W, w204.alloc (.cells #[.slice x1 U.bs.length y1, .slice x2 U.bs.length y2, .int .i64 (U.sp : Int)] 25) = W := ⟨_, rfl⟩
        have HW206 := hide hW206
        have RS206 := hide (show Row W206 (w5.heap.size) 25 [.slice d1 S2.bs.length m1, .slice d2 S2.bs.length m2, .int .i64 (S2.sp : Int)] by rw [← hW206]; exact RS205.out.alloc _)
        clear RS205
        have RT206 := hide (show Row W206 (w201.heap.size) 25 [.slice f1 T.bs.length o1, .slice f2 T.bs.length o2, .int .i64 (T.sp : Int)] by rw [← hW206]; exact RT205.out.alloc _)
        clear RT205
        have RU206 := hide (show Row W206 (w204.heap.size) 25 [.slice x1 U.bs.length y1, .slice x2 U.bs.length y2, .int .i64 (U.sp : Int)] by rw [← hW206]; exact Row.new w204 _ _)
        have Ss206 := hide (show StkAt W206 W206.heap.size d1 m1 d2 m2 S2 by rw [← hW206]; exact Ss205.out.alloc _)
        clear Ss205
        have St206 := hide (show StkAt W206 W206.heap.size f1 o1 f2 o2 T by rw [← hW206]; exact St205.out.alloc _)
        clear St205
        have Su206 := hide (show StkAt W206 W206.heap.size x1 y1 x2 y2 U by rw [← hW206]; exact Su204.out.alloc _)
        clear Su204
        have Cc206 := hide (show Codes W206 gc by rw [← hW206]; exact Cc205.out.alloc _)
        clear Cc205
        have L206 := hide (show w204.heap.size < W206.heap.size by rw [← hW206]; simp)
        have G206 := hide B205.out.size
        have B206 := hide (show Below w.heap.size w W206 by rw [← hW206]; exact B205.out.alloc B205.out.size _)
        clear hW206
        rw [HW206.out]
        clear fT0 fT1 fT2
        have fU0 := RU206.out.cell (k := 0) rfl
        have fU1 := RU206.out.cell (k := 1) rfl
        have fU2 := RU206.out.cell (k := 2) rfl
        have fS0 := RS206.out.cell (k := 0) rfl
        have fS1 := RS206.out.cell (k := 1) rfl
        have fS2 := RS206.out.cell (k := 2) rfl
        have q1 := HF.out.sp
        have q2 := HP.out.sp
        have q3 := HF.out.len
        have q4 := HP.out.len
        go_upto_region 30 with (fail)
        clear fU0 fU1 fU2 fS0 fS1 fS2
        obtain ⟨⟨ub, uo, hx1, _⟩, ub2, uo2, hx2, _⟩ := Su206.out.place (by omega)
        obtain ⟨⟨sb, so, hd1, _⟩, sb2, so2, hd2, _⟩ := Ss206.out.place (by omega)
        subst hx1 hx2 hd1 hd2
        have hcy := Su206.out.m1
        have hcm := Ss206.out.m1
        rw [q3] at hcy
        rw [q4] at hcm
        have hcy2 := Su206.out.m2
        rw [q3] at hcy2
        have ny : ¬ (y1 = 96) := by omega
        have nm : ¬ (m1 = 96) := by omega
        have hlz := hide (show (S2.bs.drop 96).length = 32 by rw [List.length_drop, q4])
        have hsu : Sees W206 W206.heap.size (some ⟨ub, uo + 96, none⟩) (cellsU8 (S2.bs.drop 96)) := by have := Su206.out.s1.drop 96; rw [Option.map_some, WideShapes.add_plain] at this; unfold cellsU8 at this ⊢; rw [← List.map_drop, HF.out.bs] at this; exact this
        have hss : Sees W206 W206.heap.size (some ⟨sb, so + 96, none⟩) (cellsU8 (S2.bs.drop 96)) := by have := Ss206.out.s1.drop 96; rw [Option.map_some, WideShapes.add_plain] at this; unfold cellsU8 at this ⊢; rw [← List.map_drop] at this; exact this
        have cS : ∀ p : After W206, Calls Try.prog 25 #[.slice (some ⟨ub, uo + 96, none⟩) 32 (y1 - 96), .slice (some ⟨sb, so + 96, none⟩) 32 (m1 - 96)] p.w fun e w' => e = .returned (.bool true) ∧ Below p.w.heap.size p.w w' := fun p => (same_any _ _ 32 _ 32 _ (S2.bs.drop 96) W206.heap.size p.w hlz (hide rfl) (by omega) (hsu.below p.b) (hss.below p.b)).mono (fun _ _ h => ⟨h.1, by obtain ⟨j, hj⟩ := h.2; rw [hj]; exact below_draws (Below.refl _ _) _⟩)
        have CS := hide cS
        have ku0 : ∀ p : After W206, p.w.cell? ⟨w204.heap.size, 0, none⟩ = some (.slice (some ⟨ub, uo, none⟩) 128 y1) := fun p => after_cell (by have := RU206.out.cell (k := 0) rfl; first | exact this | (rw [q3] at this; exact this)) p
        have ku1 : ∀ p : After W206, p.w.cell? ⟨w204.heap.size, 1, none⟩ = some (.slice (some ⟨ub2, uo2, none⟩) 128 y2) := fun p => after_cell (by have := RU206.out.cell (k := 1) rfl; first | exact this | (rw [q3] at this; exact this)) p
        have ku2 : ∀ p : After W206, p.w.cell? ⟨w204.heap.size, 2, none⟩ = some (.int .i64 96) := fun p => after_cell (by have := RU206.out.cell (k := 2) rfl; first | exact this | (rw [q1] at this; exact this)) p
        have ks0 : ∀ p : After W206, p.w.cell? ⟨w5.heap.size, 0, none⟩ = some (.slice (some ⟨sb, so, none⟩) 128 m1) := fun p => after_cell (by have := RS206.out.cell (k := 0) rfl; first | exact this | (rw [q4] at this; exact this)) p
        have ks1 : ∀ p : After W206, p.w.cell? ⟨w5.heap.size, 1, none⟩ = some (.slice (some ⟨sb2, so2, none⟩) 128 m2) := fun p => after_cell (by have := RS206.out.cell (k := 1) rfl; first | exact this | (rw [q4] at this; exact this)) p
        have ks2 : ∀ p : After W206, p.w.cell? ⟨w5.heap.size, 2, none⟩ = some (.int .i64 96) := fun p => after_cell (by have := RS206.out.cell (k := 2) rfl; first | exact this | (rw [q2] at this; exact this)) p
        have ky : ∀ p : After W206, p.w.cell? ⟨ub2, uo2 + 104, none⟩ = some (.bool true) := fun p => after_cell (by obtain ⟨b, o, e, _, h⟩ := Su206.out.s2 104 _ (cellsB_at HF.out.yes); injection e with e; injection e with e1 e2; subst e1 e2; exact h) p
        have kn : ∀ p : After W206, p.w.cell? ⟨ub2, uo2 + 96, none⟩ = some (.bool false) := fun p => after_cell (by obtain ⟨b, o, e, _, h⟩ := Su206.out.s2 96 _ (cellsB_at HF.out.no); injection e with e; injection e with e1 e2; subst e1 e2; exact h) p
        clear q1 q2 q3 q4 hsu hss cS
        refine wp_region_after (by kernel_rfl) (by kernel_rfl) ?_
        repeat (go_big_quiet_step ((first
          | (go_at_call 25; with_reducible exact after_of (CS.out _)))))
        refine wpQuiet_nil ?_
        intro _ hw'
        obtain ⟨p1, hw''⟩ := hw'
        subst hw''
        go_wp2_with fail
        go_ret
        exact ⟨rfl, below_call B206.out p1.b⟩
end Go.Proofs.Ytafegghdhdgioaa
end

section
/-
  StackPopAfterPush: for every input the law returns true, and each argument reads behind the call as it did before. No condition: every input that the row speaks of.
-/
namespace Go.Proofs.Ytafegghdhdgioaa
open Go.ChangeShapes Go.WideShapes Go.ChangeAt Go.RowKit

namespace rowStackPopAfterPush
theorem own_knob : ownKnob Try.prog.godebug = none := by kernel_rfl
theorem laid_out : laidOutB Try.prog = true := by kernel_rfl
theorem cells_u8 : Try.prog.cellsOf 5 = 1 := by kernel_rfl
theorem contract (H : Type) (enc : TypeId × Value → H) (W : World) (base : Nat) (args : Array Value) (ds gs : List (DataW H)) (before : List MemPlace)
    (hval : ∀ (j : Nat) t v, Try.f6.params[j]? = some t → args[j]? = some v → Value.okWide Try.prog W .any base t v)
    (hW : DataW.Whole enc Try.prog Try.f6.params.toList Rows.stackPopAfterPushSpec.vars false W args.toList ds gs before) :
    Calls Try.prog 6 args W fun e W' => ∃ v, e = .returned v ∧ Rows.stackPopAfterPushSpec.post enc Try.prog Try.f6 false true false false W args v W' := by
  have hW' := hW
  obtain ⟨p, q, hA, hV, rfl, hfz, hnd⟩ := hW
  have hA : DataW.TrodAll enc Try.prog W 0 (fun _ => true) true Try.f6.params.toList args.toList ds p := hA
  rw [Try.params6] at hA hval
  obtain ⟨v0, vs0, d0, ds0, p0, q0, hargs, rfl, rfl, h0, r0⟩ := trodAll_cons hA
  obtain ⟨v1, vs1, d1, ds1, p1, q1, rfl, rfl, rfl, h1, r1⟩ := trodAll_cons r0
  obtain ⟨rfl, rfl, rfl⟩ := trodAll_nil r1
  obtain rfl : args = #[v0, v1] := by cases args; simp_all
  obtain ⟨A0, n0, c0, zs0, rfl, hA0, hn0, hm0, hs0, hz0, hc0⟩ := open_u8s Try.underlying22 Try.underlying5 cells_u8 (hval 0 22 v0 rfl rfl) h0
  obtain ⟨a1, rfl, _, _, w1⟩ := open_int Try.underlying5 (hval 1 5 v1 rfl rfl) h1
  have b1 := bounds_u8 w1
  refine (pop_walk A0 n0 c0 zs0 a1 W b1.1 b1.2 hA0 hn0 hc0 hm0 hs0 hz0).mono fun e W' ⟨he, hB⟩ => ⟨_, he, ?_⟩
  exact law_post laid_out (by decide +kernel) rfl rfl Try.underlying4 rfl hW' hB

set_option maxRecDepth 100000 in
theorem lifted (os : Os) (started : os.Started) (H : Type) (enc : TypeId × Value → H) :
    ReturnsInHanded {} Try.checked os 6 .any (Rows.stackPopAfterPushSpec.pre6 enc Try.prog Try.f6 Rows.stackPopAfterPushRow.domain false) (Rows.stackPopAfterPushSpec.post enc Try.prog Try.f6 false true false false) := by
  refine returnsInHanded_of_change (C := Try.checked) own_knob started (by kernel_rfl) Try.func6
    (ChangeSpec.witness6 (enc := enc) (C := Try.checked) false ⟨#[], #[.slice none 0 0, .int .u8 0], []⟩ 8 (by kernel_rfl) (by kernel_rfl) (by kernel_rfl) (by kernel_rfl)) ?_
  intro W base args ds gs before hval hW _ _
  exact contract H enc W base args ds gs before hval hW

theorem proved : Rows.StackPopAfterPushSaid :=
  OpenClaim.holds_of_wide 6 Try.f6 rfl rfl rfl rfl rfl rfl rfl ⟨rfl, rfl, rfl, rfl, rfl⟩ rfl rfl rfl rfl rfl (by kernel_rfl) Try.func6 (by kernel_rfl)
    (of_decide_eq_true (by kernel_rfl)) (by unfold Func.isWrapper; first | (rw [if_pos (by decide +kernel)]; kernel_rfl) | (rw [if_neg (by decide +kernel)]; exact ⟨rfl, rfl⟩))
    (fun os started H enc _ => lifted os started H enc)
end rowStackPopAfterPush
end Go.Proofs.Ytafegghdhdgioaa
end
