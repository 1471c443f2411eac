import Derived.Test.YtafegghdhdgioaaMKlawm
import Derived.Test.YtafegghdhdgioaaMKld
import Derived.Test.YtafegghdhdgioaaMLaw
import Derived.Test.YtafegghdhdgioaaMVopen
import Derived.Deep.DeepFit
set_option linter.unusedVariables false
set_option linter.unusedSimpArgs false
section
/-
  Plain mathematics of the law on a byte that is not used: the stack at each round of its loop, and what load and move give. No function of the program is named here.
-/
namespace Go.Proofs.Ytafegghdhdgioaa
open Go.RowKit

/-- Of the first eight bytes those below i but k are used. -/
structure UndI (k i : Nat) (S : Sk) : Prop where
  ok : S.Ok
  len : S.bs.length = 64
  sp : S.sp = 0
  used : ∀ j, j < 8 → S.us[j]? = some (decide (j < i ∧ j ≠ k))
theorem fit_ok {S : Sk} {a n : Nat} (hs : szB (n : Int) = true) (h : S.sp + a + n ≤ S.bs.length) : fitB S (a : Int) (n : Int) = true := fitB_iff.2 ⟨hs, by omega, by omega⟩
theorem und_start (k : Nat) : UndI k 0 (pushR (newR 64 16) 64) := by
  have e1 : (newR 64 16) = newS 64 64 := by
    unfold newR
    rw [if_pos (by decide)]
    rfl
  have e2 : pushR (newS 64 64) 64 = pushS (newS 64 64) 64 := by
    unfold pushR
    rw [if_pos (by decide)]
    rfl
  have e3 : (pushS (newS 64 64) 64).us = List.replicate 64 false := by decide
  rw [e1, e2]
  refine ⟨(newS_ok (by omega) (by omega)).push (by show 64 ≤ 64; omega), by decide, by decide, fun j hj => ?_⟩
  rw [e3, List.getElem?_replicate, if_pos (by omega)]
  simp
theorem store_us {S : Sk} {a n X j : Nat} (hok : S.Ok) (h : a + n ≤ S.bs.length) : (storeS S a n X).us[j]? = if j < a then S.us[j]? else if j < a + n then some true else S.us[j]? := by
  show (splice S.us a (List.replicate (bytesV X n).length true))[j]? = _
  have := hok.len
  rw [bytesV_length, splice_at _ _ _ (by simp; omega)]
  simp only [List.length_replicate, List.getElem?_replicate]
  by_cases h1 : j < a
  · rw [if_pos h1, if_pos h1]
  · rw [if_neg h1, if_neg h1]
    by_cases h2 : j < a + n
    · rw [if_pos h2, if_pos h2, if_pos (by omega)]
    · rw [if_neg h2, if_neg h2]
theorem und_store {k q i X : Nat} {S : Sk} (h : UndI k q S) (hi : i < 8) : fitE S (i : Int) 1 = 0 ∧ (storeR S (i : Int) 1 X).bs.length = 64 ∧ (storeR S (i : Int) 1 X).sp = 0 ∧ (storeR S (i : Int) 1 X).Ok ∧ ∀ j, j < 8 → (storeR S (i : Int) 1 X).us[j]? = if j = i then some true else S.us[j]? := by
  have hf : fitB S (i : Int) ((1 : Nat) : Int) = true := fit_ok (by decide) (by rw [h.len, h.sp]; omega)
  obtain ⟨h1, h2⟩ := store_yes (X := X) hf
  rw [show ((1 : Nat) : Int) = 1 from rfl] at h1 h2
  rw [h1, h2, h.sp, Nat.zero_add]
  have hl : i + 1 ≤ S.bs.length := by rw [h.len]; omega
  refine ⟨rfl, ?_, h.sp, h.ok.store hl, fun j hj => ?_⟩
  · exact (put_len (by rw [bytesV_length]; exact hl)).trans h.len
  · rw [store_us h.ok hl]
    by_cases e : j = i
    · subst e; rw [if_neg (by omega), if_pos (by omega), if_pos rfl]
    · rw [if_neg e]
      by_cases e1 : j < i
      · rw [if_pos e1]
      · rw [if_neg e1, if_neg (by omega)]
theorem und_next {k i X : Nat} {S : Sk} (h : UndI k i S) (hi : i < 8) (hk : i ≠ k) : UndI k (i + 1) (storeR S (i : Int) 1 X) := by
  obtain ⟨_, h2, h3, h4, h5⟩ := und_store (X := X) h hi
  refine ⟨h4, h2, h3, fun j hj => ?_⟩
  rw [h5 j hj]
  by_cases e : j = i
  · subst e; rw [if_pos rfl]; simp [hk]
  · rw [if_neg e, h.used j hj]
    congr 1
    rw [decide_eq_decide]
    omega
theorem und_skip {k : Nat} {S : Sk} (h : UndI k k S) : UndI k (k + 1) S :=
  ⟨h.ok, h.len, h.sp, fun j hj => by rw [h.used j hj]; congr 1; rw [decide_eq_decide]; omega⟩
theorem und_end {k : Nat} {S : Sk} (h : UndI k 8 S) (hk : k < 8) : fitB S 0 8 = true ∧ usedB S (S.sp + 0) 8 = false := by
  refine ⟨?_, ?_⟩
  · have := fit_ok (S := S) (a := 0) (n := 8) (by decide) (by rw [h.len, h.sp]; omega)
    exact this
  · rw [h.sp]
    cases e : usedB S (0 + 0) 8 with
    | false => rfl
    | true =>
      have := (used_iff (by rw [h.ok.len, h.len]; omega)).1 e k hk
      simp only [Nat.zero_add] at this
      rw [h.used k hk] at this
      simp at this
theorem und_load {k : Nat} {S : Sk} (h : UndI k 8 S) (hk : k < 8) : fitE S 0 8 = 0 ∧ loadB S 0 8 = false ∧ loadV S 0 8 = 0 := by
  obtain ⟨h1, h2⟩ := und_end h hk
  exact load_undef (off := 0) (n := 8) h1 h2
theorem und_move {k d : Nat} {S : Sk} (h : UndI k 8 S) (hk : k < 8) (hd : d ≤ 55) : moveE S (d : Int) 0 8 = 0 ∧ moveB S (d : Int) 0 8 = false ∧ moveR S (d : Int) 0 8 = S := by
  obtain ⟨h1, h2⟩ := und_end h hk
  exact move_undef (o := 0) (m := 8) (fit_ok (n := 8) (by decide) (by rw [h.len, h.sp]; omega)) h1 h2
theorem und_full {k X : Nat} {S : Sk} (h : UndI k 8 S) (hk : k < 8) : fitE S (k : Int) 1 = 0 ∧ fitE (storeR S (k : Int) 1 X) 0 8 = 0 ∧ loadB (storeR S (k : Int) 1 X) 0 8 = true := by
  obtain ⟨h1, h2, h3, h4, h5⟩ := und_store (X := X) h hk
  have hf : fitB (storeR S (k : Int) 1 X) ((0 : Nat) : Int) ((8 : Nat) : Int) = true := fit_ok (by decide) (by rw [h2, h3]; omega)
  have hu : usedB (storeR S (k : Int) 1 X) ((storeR S (k : Int) 1 X).sp + 0) 8 = true := by
    rw [h3]
    refine (used_iff (by rw [h4.len, h2]; omega)).2 fun j hj => ?_
    simp only [Nat.zero_add]
    rw [h5 j hj]
    by_cases e : j = k
    · rw [if_pos e]
    · rw [if_neg e, h.used j hj]
      simp [hj, e]
  have := load_yes hf hu
  exact ⟨h1, this.1, this.2.1⟩
end Go.Proofs.Ytafegghdhdgioaa
end

section
/-
  The law on a byte that is not used, walked: it returns true. Conditions: those of the types.
-/
namespace Go.Proofs.Ytafegghdhdgioaa
open Go.RowKit
attribute [local go_sem ↓] Go.wp_at_zero Go.wp_at_succ

/-- What holds at the head of the loop. -/
def UndRel (k X : Nat) (w : World) (g : Nat) (i : Value) (wr : World) : Prop :=
  ∃ (q : Nat) (S : Sk) (a1 : Option Addr) (k1 : Nat) (a2 : Option Addr) (k2 : Nat), q ≤ 8 ∧ i = .int .i64 (q : Int) ∧ Hid (UndI k q S) ∧ Hid (Row wr w.heap.size 42 [.int .u64 (lo X), .int .u64 (hi X)]) ∧
    Hid (Row wr g 25 [.slice a1 S.bs.length k1, .slice a2 S.bs.length k2, .int .i64 (S.sp : Int)]) ∧ Hid (StkAt wr wr.heap.size a1 k1 a2 k2 S) ∧ Hid (Below w.heap.size w wr)

set_option maxRecDepth 100000 in
set_option maxHeartbeats 4000000 in
theorem undbyte_walk (a h : Int) (X : Nat) (w : World) (ha0 : 0 ≤ a) (ha1 : a ≤ 255) (hh0 : 0 ≤ h) (hh1 : h ≤ 255) (hX : X < two128) :
    Calls Try.prog 7 #[.int .u8 a, .int .u8 h, vv X] w fun e w' => e = .returned (.bool true) ∧ Below w.heap.size w w' := by
  obtain ⟨p, rfl⟩ : ∃ p : Nat, a = (p : Int) := ⟨a.toNat, by omega⟩
  obtain ⟨q0, rfl⟩ : ∃ q : Nat, h = (q : Int) := ⟨h.toNat, by omega⟩
  have hU := und_start (q0 % 8)
  have cn := fun W => stknew_any 64 16 W
  have hE : newE 64 16 = 0 := by decide
  have hE2 : pushE (newR 64 16) 64 = 0 := by decide
  obtain ⟨S0, hS0⟩ : ∃ S, newR 64 16 = S := ⟨_, rfl⟩
  rw [hS0] at hU hE2
  obtain ⟨S1, hS1⟩ : ∃ S, pushR S0 64 = S := ⟨_, rfl⟩
  rw [hS1] at hU
  simp only [hE, hS0] at cn
  have cp := fun (a1 : Option Addr) (k1 : Nat) (a2 : Option Addr) (k2 : Nat) W HS => push_any (A1 := a1) (A2 := a2) (c1 := k1) (c2 := k2) (S := S0) 64 W HS
  simp only [hE2, hS1] at cp
  have HU := hide hU
  clear hU hE hE2 hS0 hS1
  have hkk := hide (show q0 % 8 < 8 by omega)
  obtain ⟨k, hk⟩ : ∃ k, q0 % 8 = k := ⟨_, rfl⟩
  have Hk := hide hk
  have hkt : Int.tmod (q0 : Int) 8 = (k : Int) := by rw [show (8 : Int) = ((8 : Nat) : Int) from rfl, ← Int.ofNat_tmod, hk]
  obtain ⟨d, hd⟩ : ∃ d, p % 48 = d := ⟨_, rfl⟩
  have hd48 : d < 48 := by omega
  have hdt : Int.tmod (p : Int) 48 = (d : Int) := by rw [show (48 : Int) = ((48 : Nat) : Int) from rfl, ← Int.ofNat_tmod, hd]
  rw [hk] at HU hkk
  have hk8 : k < 8 := hkk.out
  clear hk hd hkk
  obtain ⟨W0, hW0⟩ : ∃ W, w.alloc (.cells #[.int .u64 (lo X), .int .u64 (hi X)] 42) = W := ⟨_, rfl⟩
  have HW0 := hide hW0
  have RV0 := hide (show Row W0 (w.heap.size) 42 [.int .u64 (lo X), .int .u64 (hi X)] by rw [← hW0]; exact (Row.new w 42 [.int .u64 (lo X), .int .u64 (hi X)]))
  have B0 := hide (show Below w.heap.size w W0 by rw [← hW0]; exact below1 w _)
  have Z0 := hide (show W0.heap.size = w.heap.size + 1 by rw [← hW0]; simp)
  clear hW0
  go_enter Try.func7, Try.ntmps7
  go_upto_region 1 with (fail)
  rw [HW0.out]
  go_wp2_with fail
  refine (awake9_any _).mono ?_
  rintro e w1 ⟨rfl, hb1⟩
  have RV2 := hide (RV0.out.call hb1)
  clear RV0
  have B2 := hide (below_call B0.out hb1)
  clear B0
  clear hb1
  go_wp2_with fail
  go_fit (cn _)
  rintro e w3 ⟨a1, k1, a2, k2, rfl, hS3, hb3⟩
  have Ss3 := hide hS3
  clear hS3
  have RV4 := hide (RV2.out.call hb3)
  clear RV2
  have B4 := hide (below_call B2.out hb3)
  clear B2
  clear hb3
  go_upto_region 4 with (fail)
  have DV := hide (show w.heap.size < w3.heap.size from RV4.out.lt)
  obtain ⟨W5, hW5⟩ : ∃ W, w3.alloc (.cells #[.slice a1 S0.bs.length k1, .slice a2 S0.bs.length k2, .int .i64 (S0.sp : Int)] 25) = W := ⟨_, rfl⟩
  have HW5 := hide hW5
  have RV5 := hide (show Row W5 (w.heap.size) 42 [.int .u64 (lo X), .int .u64 (hi X)] by rw [← hW5]; exact RV4.out.alloc _)
  clear RV4
  have RS5 := hide (show Row W5 (w3.heap.size) 25 [.slice a1 S0.bs.length k1, .slice a2 S0.bs.length k2, .int .i64 (S0.sp : Int)] by rw [← hW5]; exact Row.new w3 _ _)
  have Ss5 := hide (show StkAt W5 W5.heap.size a1 k1 a2 k2 S0 by rw [← hW5]; exact Ss3.out.alloc _)
  clear Ss3
  have L5 := hide (show w3.heap.size < W5.heap.size by rw [← hW5]; simp)
  have G5 := hide B4.out.size
  have B5 := hide (show Below w.heap.size w W5 by rw [← hW5]; exact B4.out.alloc B4.out.size _)
  clear hW5
  rw [HW5.out]
  have fS0 := RS5.out.cell (k := 0) rfl
  have fS1 := RS5.out.cell (k := 1) rfl
  have fS2 := RS5.out.cell (k := 2) rfl
  go_wp2_with fail
  go_fit (cp _ _ _ _ _ Ss5)
  rintro e w6 ⟨b1, l1, b2, l2, rfl, hS6, hb6⟩
  have Ss6 := hide hS6
  clear hS6
  have RV7 := hide (RV5.out.call hb6)
  clear RV5
  have RS7 := hide (RS5.out.call hb6)
  clear RS5
  have B7 := hide (below_call B5.out hb6)
  clear B5
  clear hb6
  clear fS0 fS1 fS2
  have fS0 := RS7.out.cell (k := 0) rfl
  have fS1 := RS7.out.cell (k := 1) rfl
  have fS2 := RS7.out.cell (k := 2) rfl
  have yS0 := RS7.out.free 0
  have yS1 := RS7.out.free 1
  have yS2 := RS7.out.free 2
  go_upto_region 5 with (fail)
  obtain ⟨W8, hW8⟩ : ∃ W, ((w6.setCell ⟨w3.heap.size, 0, none⟩ (.slice b1 S1.bs.length l1)).setCell ⟨w3.heap.size, 1, none⟩ (.slice b2 S1.bs.length l2)).setCell ⟨w3.heap.size, 2, none⟩ (.int .i64 (S1.sp : Int)) = W := ⟨_, rfl⟩
  have HW8 := hide hW8
  have RS8 := hide (show Row W8 (w3.heap.size) 25 [.slice b1 S1.bs.length l1, .slice b2 S1.bs.length l2, .int .i64 (S1.sp : Int)] by rw [← hW8]; exact (((RS7.out).set_ 0 _).set_ 1 _).set_ 2 _)
  have RV8 := hide (show Row W8 (w.heap.size) 42 [.int .u64 (lo X), .int .u64 (hi X)] by rw [← hW8]; exact (((RV7.out).far (p := ⟨w3.heap.size, 0, none⟩) (by have := DV.out; simp <;> omega) _).far (p := ⟨w3.heap.size, 1, none⟩) (by have := DV.out; simp <;> omega) _).far (p := ⟨w3.heap.size, 2, none⟩) (by have := DV.out; simp <;> omega) _)
  clear RV7
  have Ss8 := hide (show StkAt W8 W8.heap.size b1 l1 b2 l2 S1 by rw [← hW8]; exact StkAt.put (StkAt.put (StkAt.put (Ss6.out) ((RS7.out).cell (k := 0) rfl) rfl _) (((RS7.out).set_ 0 _).cell (k := 1) rfl) rfl _) ((((RS7.out).set_ 0 _).set_ 1 _).cell (k := 2) rfl) rfl _)
  clear Ss6
  have B8 := hide (show Below w.heap.size w W8 by rw [← hW8]; exact below_put (below_put (below_put (B7.out) (by have := G5.out; omega)) (by have := G5.out; omega)) (by have := G5.out; omega))
  clear hW8 RS7
  rw [HW8.out]
  clear fS0 fS1 fS2 yS0 yS1 yS2
  have hcv : IntKind.i64.wrap (q0 : Int) = (q0 : Int) := by rw [IntKind.wrap_i64]; omega
  have hcp : IntKind.i64.wrap (p : Int) = (p : Int) := by rw [IntKind.wrap_i64]; omega
  go_wp2_with fail
  go_loopw [9, 11] (fun e i wr => e = .int .i64 0 ∧ UndRel k X w w3.heap.size i wr) (fun e i _ => 8 - (intOf i).toNat)
  case atStart => exact ⟨rfl, 0, S1, b1, l1, b2, l2, by omega, rfl, HU, RV8, RS8, Ss8, B8⟩
  case round =>
    obtain ⟨rfl, q, S, a1, k1, a2, k2, hq, rfl, HI, RV, RS, SS, BB⟩ := hrel
    clear RV8 RS8 Ss8 B8 HU
    by_cases hlt : q < 8
    · by_cases hqk : q = k
      · subst hqk
        have HN := hide (und_skip HI.out)
        go_wp2_with fail
        exact ⟨⟨rfl, q + 1, S, a1, k1, a2, k2, by omega, by go_num, HN, RV, RS, SS, BB⟩, by simp [intOf]; omega⟩
      · have HN := hide (und_next (X := X) HI.out hlt hqk)
        have hbq : ((q : Int) == (k : Int)) = false := by simp; omega
        have cs := store_any (q : Int) 1 X hX wr SS
        rw [(und_store (X := X) HI.out hlt).1] at cs
        obtain ⟨S2, hS2⟩ : ∃ T, storeR S (q : Int) 1 X = T := ⟨_, rfl⟩
        rw [hS2] at cs HN
        clear hS2
        have fV0 := RV.out.cell (k := 0) rfl
        have fV1 := RV.out.cell (k := 1) rfl
        have fS0 := RS.out.cell (k := 0) rfl
        have fS1 := RS.out.cell (k := 1) rfl
        have fS2 := RS.out.cell (k := 2) rfl
        go_wp2_with fail
        go_fit (cs)
        rintro e w9 ⟨d1, m1, d2, m2, rfl, hS9, hb9⟩
        have Ss9 := hide hS9
        clear hS9
        have RV10 := hide (RV.out.call hb9)
        clear RV
        have RS10 := hide (RS.out.call hb9)
        clear RS
        have B10 := hide (below_call BB.out hb9)
        clear BB
        clear hb9
        clear fV0 fV1 fS0 fS1 fS2
        have fS0 := RS10.out.cell (k := 0) rfl
        have fS1 := RS10.out.cell (k := 1) rfl
        have fS2 := RS10.out.cell (k := 2) rfl
        have yS0 := RS10.out.free 0
        have yS1 := RS10.out.free 1
        have yS2 := RS10.out.free 2
        obtain ⟨W11, hW11⟩ : ∃ W, ((w9.setCell ⟨w3.heap.size, 0, none⟩ (.slice d1 S2.bs.length m1)).setCell ⟨w3.heap.size, 1, none⟩ (.slice d2 S2.bs.length m2)).setCell ⟨w3.heap.size, 2, none⟩ (.int .i64 (S2.sp : Int)) = W := ⟨_, rfl⟩
        have HW11 := hide hW11
        have RS11 := hide (show Row W11 (w3.heap.size) 25 [.slice d1 S2.bs.length m1, .slice d2 S2.bs.length m2, .int .i64 (S2.sp : Int)] by rw [← hW11]; exact (((RS10.out).set_ 0 _).set_ 1 _).set_ 2 _)
        have RV11 := hide (show Row W11 (w.heap.size) 42 [.int .u64 (lo X), .int .u64 (hi X)] by rw [← hW11]; exact (((RV10.out).far (p := ⟨w3.heap.size, 0, none⟩) (by have := DV.out; simp <;> omega) _).far (p := ⟨w3.heap.size, 1, none⟩) (by have := DV.out; simp <;> omega) _).far (p := ⟨w3.heap.size, 2, none⟩) (by have := DV.out; simp <;> omega) _)
        clear RV10
        have Ss11 := hide (show StkAt W11 W11.heap.size d1 m1 d2 m2 S2 by rw [← hW11]; exact StkAt.put (StkAt.put (StkAt.put (Ss9.out) ((RS10.out).cell (k := 0) rfl) rfl _) (((RS10.out).set_ 0 _).cell (k := 1) rfl) rfl _) ((((RS10.out).set_ 0 _).set_ 1 _).cell (k := 2) rfl) rfl _)
        clear Ss9
        have B11 := hide (show Below w.heap.size w W11 by rw [← hW11]; exact below_put (below_put (below_put (B10.out) (by have := G5.out; omega)) (by have := G5.out; omega)) (by have := G5.out; omega))
        clear hW11 RS10
        go_wp2_with fail
        rw [HW11.out]
        exact ⟨⟨rfl, q + 1, S2, d1, m1, d2, m2, by omega, by go_num, HN, RV11, RS11, Ss11, B11⟩, by simp [intOf]; omega⟩
    · obtain rfl : q = 8 := by omega
      obtain ⟨lE, lB, lV⟩ := und_load HI.out hk8
      obtain ⟨mE, mB, mR⟩ := und_move (d := 8 + d) HI.out hk8 (by omega)
      rw [show ((8 + d : Nat) : Int) = 8 + (d : Int) by omega] at mE mB mR
      obtain ⟨fE, gE, gB⟩ := und_full (X := X) HI.out hk8
      have cl := fun W HS => load_any (A1 := a1) (A2 := a2) (c1 := k1) (c2 := k2) (S := S) 0 8 (by unfold isI; omega) W HS
      unfold LoadPost at cl
      simp only [lE, lB, lV] at cl
      have cm := fun W HS => move_any (A1 := a1) (A2 := a2) (c1 := k1) (c2 := k2) (S := S) (8 + (d : Int)) 0 8 W HS
      simp only [mE, mB, mR] at cm
      have cs := fun W HS => store_any (A1 := a1) (A2 := a2) (c1 := k1) (c2 := k2) (S := S) (k : Int) 1 X hX W HS
      simp only [fE] at cs
      obtain ⟨S2, hS2⟩ : ∃ T, storeR S (k : Int) 1 X = T := ⟨_, rfl⟩
      rw [hS2] at gE gB
      simp only [hS2] at cs
      have cl2 := fun (d1 : Option Addr) (m1 : Nat) (d2 : Option Addr) (m2 : Nat) W HS => load_any (A1 := d1) (A2 := d2) (c1 := m1) (c2 := m2) (S := S2) 0 8 (by unfold isI; omega) W HS
      unfold LoadPost at cl2
      simp only [gE, gB] at cl2
      obtain ⟨V2, hV2⟩ : ∃ V, loadV S2 0 8 = V := ⟨_, rfl⟩
      simp only [hV2] at cl2
      clear lE lB lV mE mB mR fE gE gB hS2 hV2
      have fV0 := RV.out.cell (k := 0) rfl
      have fV1 := RV.out.cell (k := 1) rfl
      have fS0 := RS.out.cell (k := 0) rfl
      have fS1 := RS.out.cell (k := 1) rfl
      have fS2 := RS.out.cell (k := 2) rfl
      go_upto_region 12 with (fail)
      go_wp2_with fail
      refine (cl _ SS).mono ?_
      rintro e w9 ⟨rfl, hb9⟩
      have RV10 := hide (RV.out.call hb9)
      clear RV
      have RS10 := hide (RS.out.call hb9)
      clear RS
      have Ss10 := hide (SS.out.call hb9)
      clear SS
      have B10 := hide (below_call BB.out hb9)
      clear BB
      clear hb9
      go_upto_region 13 with (fail)
      obtain ⟨W11, hW11⟩ : ∃ W, w9.alloc (.cells #[.int .u64 (lo 0), .int .u64 (hi 0)] 42) = W := ⟨_, rfl⟩
      have HW11 := hide hW11
      have RV11 := hide (show Row W11 (w.heap.size) 42 [.int .u64 (lo X), .int .u64 (hi X)] by rw [← hW11]; exact RV10.out.alloc _)
      clear RV10
      have RS11 := hide (show Row W11 (w3.heap.size) 25 [.slice a1 S.bs.length k1, .slice a2 S.bs.length k2, .int .i64 (S.sp : Int)] by rw [← hW11]; exact RS10.out.alloc _)
      clear RS10
      have RL11 := hide (show Row W11 (w9.heap.size) 42 [.int .u64 (lo 0), .int .u64 (hi 0)] by rw [← hW11]; exact Row.new w9 _ _)
      have Ss11 := hide (show StkAt W11 W11.heap.size a1 k1 a2 k2 S by rw [← hW11]; exact Ss10.out.alloc _)
      clear Ss10
      have L11 := hide (show w9.heap.size < W11.heap.size by rw [← hW11]; simp)
      have G11 := hide B10.out.size
      have B11 := hide (show Below w.heap.size w W11 by rw [← hW11]; exact B10.out.alloc B10.out.size _)
      clear hW11
      rw [HW11.out]
      clear fV0 fV1 fS0 fS1 fS2
      have fV0 := RV11.out.cell (k := 0) rfl
      have fV1 := RV11.out.cell (k := 1) rfl
      have fS0 := RS11.out.cell (k := 0) rfl
      have fS1 := RS11.out.cell (k := 1) rfl
      have fS2 := RS11.out.cell (k := 2) rfl
      go_wp2_with fail
      go_fit (cm _ Ss11)
      rintro e w12 ⟨e1, n1, e2, n2, rfl, hS12, hb12⟩
      have St12 := hide hS12
      clear hS12
      have RV13 := hide (RV11.out.call hb12)
      clear RV11
      have RS13 := hide (RS11.out.call hb12)
      clear RS11
      have Ss13 := hide (Ss11.out.call hb12)
      clear Ss11
      have B13 := hide (below_call B11.out hb12)
      clear B11
      clear hb12
      go_upto_region 14 with (fail)
      obtain ⟨W14, hW14⟩ : ∃ W, w12.alloc (.cells #[.slice e1 S.bs.length n1, .slice e2 S.bs.length n2, .int .i64 (S.sp : Int)] 25) = W := ⟨_, rfl⟩
      have HW14 := hide hW14
      have RV14 := hide (show Row W14 (w.heap.size) 42 [.int .u64 (lo X), .int .u64 (hi X)] by rw [← hW14]; exact RV13.out.alloc _)
      clear RV13
      have RS14 := hide (show Row W14 (w3.heap.size) 25 [.slice a1 S.bs.length k1, .slice a2 S.bs.length k2, .int .i64 (S.sp : Int)] by rw [← hW14]; exact RS13.out.alloc _)
      clear RS13
      have RT14 := hide (show Row W14 (w12.heap.size) 25 [.slice e1 S.bs.length n1, .slice e2 S.bs.length n2, .int .i64 (S.sp : Int)] by rw [← hW14]; exact Row.new w12 _ _)
      have Ss14 := hide (show StkAt W14 W14.heap.size a1 k1 a2 k2 S by rw [← hW14]; exact Ss13.out.alloc _)
      clear Ss13
      have St14 := hide (show StkAt W14 W14.heap.size e1 n1 e2 n2 S by rw [← hW14]; exact St12.out.alloc _)
      clear St12
      have L14 := hide (show w12.heap.size < W14.heap.size by rw [← hW14]; simp)
      have G14 := hide B13.out.size
      have B14 := hide (show Below w.heap.size w W14 by rw [← hW14]; exact B13.out.alloc B13.out.size _)
      clear hW14
      rw [HW14.out]
      clear fV0 fV1 fS0 fS1 fS2
      have fV0 := RV14.out.cell (k := 0) rfl
      have fV1 := RV14.out.cell (k := 1) rfl
      have fS0 := RS14.out.cell (k := 0) rfl
      have fS1 := RS14.out.cell (k := 1) rfl
      have fS2 := RS14.out.cell (k := 2) rfl
      go_wp2_with fail
      go_fit (cs _ Ss14)
      rintro e w15 ⟨d1, m1, d2, m2, rfl, hS15, hb15⟩
      have Sf15 := hide hS15
      clear hS15
      have RV16 := hide (RV14.out.call hb15)
      clear RV14
      have RS16 := hide (RS14.out.call hb15)
      clear RS14
      have RT16 := hide (RT14.out.call hb15)
      clear RT14
      have Ss16 := hide (Ss14.out.call hb15)
      clear Ss14
      have St16 := hide (St14.out.call hb15)
      clear St14
      have B16 := hide (below_call B14.out hb15)
      clear B14
      clear hb15
      go_upto_region 15 with (fail)
      obtain ⟨W17, hW17⟩ : ∃ W, w15.alloc (.cells #[.slice d1 S2.bs.length m1, .slice d2 S2.bs.length m2, .int .i64 (S2.sp : Int)] 25) = W := ⟨_, rfl⟩
      have HW17 := hide hW17
      have RV17 := hide (show Row W17 (w.heap.size) 42 [.int .u64 (lo X), .int .u64 (hi X)] by rw [← hW17]; exact RV16.out.alloc _)
      clear RV16
      have RS17 := hide (show Row W17 (w3.heap.size) 25 [.slice a1 S.bs.length k1, .slice a2 S.bs.length k2, .int .i64 (S.sp : Int)] by rw [← hW17]; exact RS16.out.alloc _)
      clear RS16
      have RT17 := hide (show Row W17 (w12.heap.size) 25 [.slice e1 S.bs.length n1, .slice e2 S.bs.length n2, .int .i64 (S.sp : Int)] by rw [← hW17]; exact RT16.out.alloc _)
      clear RT16
      have RF17 := hide (show Row W17 (w15.heap.size) 25 [.slice d1 S2.bs.length m1, .slice d2 S2.bs.length m2, .int .i64 (S2.sp : Int)] by rw [← hW17]; exact Row.new w15 _ _)
      have Ss17 := hide (show StkAt W17 W17.heap.size a1 k1 a2 k2 S by rw [← hW17]; exact Ss16.out.alloc _)
      clear Ss16
      have St17 := hide (show StkAt W17 W17.heap.size e1 n1 e2 n2 S by rw [← hW17]; exact St16.out.alloc _)
      clear St16
      have Sf17 := hide (show StkAt W17 W17.heap.size d1 m1 d2 m2 S2 by rw [← hW17]; exact Sf15.out.alloc _)
      clear Sf15
      have L17 := hide (show w15.heap.size < W17.heap.size by rw [← hW17]; simp)
      have G17 := hide B16.out.size
      have B17 := hide (show Below w.heap.size w W17 by rw [← hW17]; exact B16.out.alloc B16.out.size _)
      clear hW17
      rw [HW17.out]
      clear fV0 fV1 fS0 fS1 fS2
      have fF0 := RF17.out.cell (k := 0) rfl
      have fF1 := RF17.out.cell (k := 1) rfl
      have fF2 := RF17.out.cell (k := 2) rfl
      go_wp2_with fail
      refine (cl2 _ _ _ _ _ Sf17).mono ?_
      rintro e w18 ⟨rfl, hb18⟩
      have RV19 := hide (RV17.out.call hb18)
      clear RV17
      have RS19 := hide (RS17.out.call hb18)
      clear RS17
      have RT19 := hide (RT17.out.call hb18)
      clear RT17
      have RF19 := hide (RF17.out.call hb18)
      clear RF17
      have Ss19 := hide (Ss17.out.call hb18)
      clear Ss17
      have St19 := hide (St17.out.call hb18)
      clear St17
      have Sf19 := hide (Sf17.out.call hb18)
      clear Sf17
      have B19 := hide (below_call B17.out hb18)
      clear B17
      clear hb18
      go_upto_region 16 with (fail)
      obtain ⟨W20, hW20⟩ : ∃ W, w18.alloc (.cells #[.int .u64 (lo V2), .int .u64 (hi V2)] 42) = W := ⟨_, rfl⟩
      have HW20 := hide hW20
      have RV20 := hide (show Row W20 (w.heap.size) 42 [.int .u64 (lo X), .int .u64 (hi X)] by rw [← hW20]; exact RV19.out.alloc _)
      clear RV19
      have RS20 := hide (show Row W20 (w3.heap.size) 25 [.slice a1 S.bs.length k1, .slice a2 S.bs.length k2, .int .i64 (S.sp : Int)] by rw [← hW20]; exact RS19.out.alloc _)
      clear RS19
      have RT20 := hide (show Row W20 (w12.heap.size) 25 [.slice e1 S.bs.length n1, .slice e2 S.bs.length n2, .int .i64 (S.sp : Int)] by rw [← hW20]; exact RT19.out.alloc _)
      clear RT19
      have RF20 := hide (show Row W20 (w15.heap.size) 25 [.slice d1 S2.bs.length m1, .slice d2 S2.bs.length m2, .int .i64 (S2.sp : Int)] by rw [← hW20]; exact RF19.out.alloc _)
      clear RF19
      have RM20 := hide (show Row W20 (w18.heap.size) 42 [.int .u64 (lo V2), .int .u64 (hi V2)] by rw [← hW20]; exact Row.new w18 _ _)
      have Ss20 := hide (show StkAt W20 W20.heap.size a1 k1 a2 k2 S by rw [← hW20]; exact Ss19.out.alloc _)
      clear Ss19
      have St20 := hide (show StkAt W20 W20.heap.size e1 n1 e2 n2 S by rw [← hW20]; exact St19.out.alloc _)
      clear St19
      have Sf20 := hide (show StkAt W20 W20.heap.size d1 m1 d2 m2 S2 by rw [← hW20]; exact Sf19.out.alloc _)
      clear Sf19
      have L20 := hide (show w18.heap.size < W20.heap.size by rw [← hW20]; simp)
      have G20 := hide B19.out.size
      have B20 := hide (show Below w.heap.size w W20 by rw [← hW20]; exact B19.out.alloc B19.out.size _)
      clear hW20
      rw [HW20.out]
      clear fF0 fF1 fF2
      have fS0 := RS20.out.cell (k := 0) rfl
      have fS1 := RS20.out.cell (k := 1) rfl
      have fS2 := RS20.out.cell (k := 2) rfl
      have fT0 := RT20.out.cell (k := 0) rfl
      have fT1 := RT20.out.cell (k := 1) rfl
      have fT2 := RT20.out.cell (k := 2) rfl
      go_wp2_with fail
      refine (rsame_stk _ Ss20 St20).mono ?_
      rintro e w21 ⟨rfl, hb21⟩
      have RV22 := hide (RV20.out.call hb21)
      clear RV20
      have RS22 := hide (RS20.out.call hb21)
      clear RS20
      have RT22 := hide (RT20.out.call hb21)
      clear RT20
      have RF22 := hide (RF20.out.call hb21)
      clear RF20
      have Ss22 := hide (Ss20.out.call hb21)
      clear Ss20
      have St22 := hide (St20.out.call hb21)
      clear St20
      have Sf22 := hide (Sf20.out.call hb21)
      clear Sf20
      have B22 := hide (below_call B20.out hb21)
      clear B20
      clear hb21
      go_wp2_with fail
      go_ret
      exact ⟨rfl, B22.out⟩
end Go.Proofs.Ytafegghdhdgioaa
end

section
/-
  StackUndefByte: for every input the law returns true, and each argument reads behind the call as it did before. No condition: every input that the row speaks of.
-/
namespace Go.Proofs.Ytafegghdhdgioaa
open Go.ChangeShapes Go.WideShapes Go.ChangeAt Go.RowKit

namespace rowStackUndefByte
theorem own_knob : ownKnob Try.prog.godebug = none := by kernel_rfl
theorem laid_out : laidOutB Try.prog = true := by kernel_rfl
theorem contract (H : Type) (enc : TypeId × Value → H) (W : World) (base : Nat) (args : Array Value) (ds gs : List (DataW H)) (before : List MemPlace)
    (hval : ∀ (j : Nat) t v, Try.f7.params[j]? = some t → args[j]? = some v → Value.okWide Try.prog W .any base t v)
    (hW : DataW.Whole enc Try.prog Try.f7.params.toList Rows.stackUndefByteSpec.vars false W args.toList ds gs before) :
    Calls Try.prog 7 args W fun e W' => ∃ v, e = .returned v ∧ Rows.stackUndefByteSpec.post enc Try.prog Try.f7 false true false false W args v W' := by
  have hW' := hW
  obtain ⟨p, q, hA, hV, rfl, hfz, hnd⟩ := hW
  have hA : DataW.TrodAll enc Try.prog W 0 (fun _ => true) true Try.f7.params.toList args.toList ds p := hA
  rw [Try.params7] at hA hval
  obtain ⟨v0, vs0, d0, ds0, p0, q0, hargs, rfl, rfl, h0, r0⟩ := trodAll_cons hA
  obtain ⟨v1, vs1, d1, ds1, p1, q1, rfl, rfl, rfl, h1, r1⟩ := trodAll_cons r0
  obtain ⟨v2, vs2, d2, ds2, p2, q2, rfl, rfl, rfl, h2, r2⟩ := trodAll_cons r1
  obtain ⟨rfl, rfl, rfl⟩ := trodAll_nil r2
  obtain rfl : args = #[v0, v1, v2] := by cases args; simp_all
  obtain ⟨a0, rfl, _, _, w0⟩ := open_int Try.underlying5 (hval 0 5 v0 rfl rfl) h0
  have b0 := bounds_u8 w0
  obtain ⟨a1, rfl, _, _, w1⟩ := open_int Try.underlying5 (hval 1 5 v1 rfl rfl) h1
  have b1 := bounds_u8 w1
  obtain ⟨V2, rfl, H2⟩ := open_vv (hval 2 42 v2 rfl rfl) h2
  refine (undbyte_walk a0 a1 V2 W b0.1 b0.2 b1.1 b1.2 H2).mono fun e W' ⟨he, hB⟩ => ⟨_, he, ?_⟩
  exact law_post laid_out (by decide +kernel) rfl rfl Try.underlying4 rfl hW' hB

set_option maxRecDepth 100000 in
theorem lifted (os : Os) (started : os.Started) (H : Type) (enc : TypeId × Value → H) :
    ReturnsInHanded {} Try.checked os 7 .any (Rows.stackUndefByteSpec.pre6 enc Try.prog Try.f7 Rows.stackUndefByteRow.domain false) (Rows.stackUndefByteSpec.post enc Try.prog Try.f7 false true false false) := by
  refine returnsInHanded_of_change (C := Try.checked) own_knob started (by kernel_rfl) Try.func7
    (ChangeSpec.witness6 (enc := enc) (C := Try.checked) false ⟨#[], #[.int .u8 0, .int .u8 0, .agg #[.int .u64 0, .int .u64 0]], []⟩ 8 (by kernel_rfl) (by kernel_rfl) (by kernel_rfl) (by kernel_rfl)) ?_
  intro W base args ds gs before hval hW _ _
  exact contract H enc W base args ds gs before hval hW

theorem proved : Rows.StackUndefByteSaid :=
  OpenClaim.holds_of_wide 7 Try.f7 rfl rfl rfl rfl rfl rfl rfl ⟨rfl, rfl, rfl, rfl, rfl⟩ rfl rfl rfl rfl rfl (by kernel_rfl) Try.func7 (by kernel_rfl)
    (of_decide_eq_true (by kernel_rfl)) (by unfold Func.isWrapper; first | (rw [if_pos (by decide +kernel)]; kernel_rfl) | (rw [if_neg (by decide +kernel)]; exact ⟨rfl, rfl⟩))
    (fun os started H enc _ => lifted os started H enc)
end rowStackUndefByte
end Go.Proofs.Ytafegghdhdgioaa
end
