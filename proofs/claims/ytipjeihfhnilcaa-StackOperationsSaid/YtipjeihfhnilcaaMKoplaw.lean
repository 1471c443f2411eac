import Derived.Test.YtipjeihfhnilcaaMKstep
import Derived.Test.YtipjeihfhnilcaaMKnew
set_option linter.unusedVariables false
set_option linter.unusedSimpArgs false
section
/-
  The law on sequences of operations, walked: it returns true. Conditions: those of the types.
-/
namespace Go.Proofs.Ytipjeihfhnilcaa
open Go.RowKit
set_option linter.unusedVariables false
set_option linter.unusedSimpArgs false
attribute [local go_sem ↓] Go.wp_at_zero Go.wp_at_succ

/-- How many choices are left. -/
def leftN (w : World) (g : Nat) : Nat :=
  match w.cell? ⟨g, 0, none⟩, w.cell? ⟨g, 1, none⟩ with
  | some (.slice _ n _), some (.int _ i) => n - i.toNat
  | _, _ => 0
theorem leftN_le {r0 : Nat} {w : World} {g : Nat} (h : CodesM r0 w g) : leftN w g ≤ r0 := by
  obtain ⟨A, n, c, zs, i, r, _, _, _, _, _, h5⟩ := h
  unfold leftN
  rw [r.cell (k := 0) rfl, r.cell (k := 1) rfl]
  simpa using h5
theorem leftN_of {w : World} {g : Nat} (h : Codes w g) : ∃ (A : Option Addr) (n c i : Nat), Row w g 65 [.slice A n c, .int .i64 (i : Int)] ∧ n ≤ 9223372036854775807 ∧ i ≤ n ∧ leftN w g = n - i ∧ CodesM (leftN w g) w g := by
  obtain ⟨A, n, c, zs, i, r, s, h1, h2, h3, h4⟩ := h
  have hl : leftN w g = n - i := by
    unfold leftN
    rw [r.cell (k := 0) rfl, r.cell (k := 1) rfl]
    simp
  exact ⟨A, n, c, i, r, h2, h4, hl, A, n, c, zs, i, r, s, h1, h2, h3, h4, by omega⟩
/-- What holds at the head of the loop: two equal stacks in their boxes, beside the list of choices. -/
def OpRel (w : World) (ga gb gc : Nat) (wr : World) : Prop :=
  ∃ (S : Sk) (a1 : Option Addr) (k1 : Nat) (a2 : Option Addr) (k2 : Nat) (b1 : Option Addr) (l1 : Nat) (b2 : Option Addr) (l2 : Nat), Hid (Row wr ga 29 [.slice a1 S.bs.length k1, .slice a2 S.bs.length k2, .int .i64 (S.sp : Int)]) ∧ Hid (StkAt wr wr.heap.size a1 k1 a2 k2 S) ∧
    Hid (Row wr gb 29 [.slice b1 S.bs.length l1, .slice b2 S.bs.length l2, .int .i64 (S.sp : Int)]) ∧ Hid (StkAt wr wr.heap.size b1 l1 b2 l2 S) ∧ Hid (Codes wr gc) ∧ Hid (Below w.heap.size w wr)

set_option maxRecDepth 100000 in
set_option maxHeartbeats 8000000 in
theorem op_walk (A : Option Addr) (n c : Nat) (zs : List Int) (off size : Int) (w : World) (ho : isI off) (hA : Hid (A = none → c = 0)) (hn : Hid (zs.length = n)) (hnc : n ≤ c) (hm : n ≤ 9223372036854775807) (hs : Hid (Sees w w.heap.size A (cellsU8 zs))) (hz : Hid (∀ z ∈ zs, 0 ≤ z ∧ z ≤ 255)) :
    Calls Try.prog 3 #[.slice A n c, .int .i64 off, .int .i64 size] w fun e w' => e = .returned (.bool true) ∧ Below w.heap.size w w' := by
  have B0 := hide (Below.refl w.heap.size w)
  go_enter Try.func3, Try.ntmps3
  go_wp2_with fail
  refine (awake9_any _).mono ?_
  rintro e w1 ⟨rfl, hb1⟩
  have B2 := hide (below_call B0.out hb1)
  clear B0
  clear hb1
  go_wp2_with fail
  have cnew := new_any A n c zs 200 w1 hA hn hnc hm (by omega) (hide ((hs.out.below B2.out).more B2.out.size)) hz
  rw [show ((200 : Nat) : Int) = 200 from rfl] at cnew
  have GC3 := hide B2.out.size
  go_fit (cnew)
  rintro e w3 ⟨rfl, hC3, hb3⟩
  obtain ⟨gc, hgc⟩ : ∃ g, w1.heap.size = g := ⟨_, rfl⟩
  rw [hgc] at hC3 GC3
  have HGC := hide hgc
  have B4 := hide (below_call B2.out hb3)
  clear B2
  clear hb3
  have Cc3 := hide hC3
  clear hC3 cnew hgc
  rw [HGC.out]
  go_wp2_with fail
  go_fit (next_any gc 120 _ Cc3 (by omega) (by omega))
  rintro e w5 ⟨v, rfl, v0, v1, hC5, hg5, -⟩
  have B5 := hide (below_grown B4.out hg5 GC3.out B4.out.size)
  clear B4
  have Cc5 := hide hC5
  clear Cc3 hC5 hg5
  have hE : newE v 16 = 0 := (new_yes v 16 ⟨v0, by omega, by decide⟩).1
  have n1c := fun W => stknew_any v 16 W
  have n2c := fun W => rstknew_any v 16 W
  obtain ⟨S0, hS0⟩ : ∃ S, newR v 16 = S := ⟨_, rfl⟩
  simp only [hE, hS0] at n1c n2c
  clear hE hS0
  go_wp2_with fail
  go_fit (n1c _)
  rintro e w6 ⟨a1, k1, a2, k2, rfl, hS6, hb6⟩
  have Sa6 := hide hS6
  clear hS6
  have Cc7 := hide (Cc5.out.below hb6)
  clear Cc5
  have B7 := hide (below_call B5.out hb6)
  clear B5
  clear hb6
  go_upto_region 6 with (fail)
  obtain ⟨W8, hW8⟩ : ∃ W, w6.alloc (.cells #[.slice a1 S0.bs.length k1, .slice a2 S0.bs.length k2, .int .i64 (S0.sp : Int)] 29) = W := ⟨_, rfl⟩
  have HW8 := hide hW8
  have RA8 := hide (show Row W8 (w6.heap.size) 29 [.slice a1 S0.bs.length k1, .slice a2 S0.bs.length k2, .int .i64 (S0.sp : Int)] by rw [← hW8]; exact Row.new w6 _ _)
  have Sa8 := hide (show StkAt W8 W8.heap.size a1 k1 a2 k2 S0 by rw [← hW8]; exact Sa6.out.alloc _)
  clear Sa6
  have Cc8 := hide (show Codes W8 gc by rw [← hW8]; exact Cc7.out.alloc _)
  clear Cc7
  have L8 := hide (show w6.heap.size < W8.heap.size by rw [← hW8]; simp)
  have G8 := hide B7.out.size
  have B8 := hide (show Below w.heap.size w W8 by rw [← hW8]; exact B7.out.alloc B7.out.size _)
  clear hW8
  rw [HW8.out]
  go_wp2_with fail
  have DA := hide (show w.heap.size ≤ w6.heap.size from G8.out)
  go_fit (n2c _)
  rintro e w9 ⟨b1, l1, b2, l2, rfl, hS9, hb9⟩
  have Sb9 := hide hS9
  clear hS9
  have RA10 := hide (RA8.out.call hb9)
  clear RA8
  have Sa10 := hide (Sa8.out.call hb9)
  clear Sa8
  have Cc10 := hide (Cc8.out.below hb9)
  clear Cc8
  have B10 := hide (below_call B8.out hb9)
  clear B8
  clear hb9
  go_upto_region 7 with (fail)
  have DB := hide (show w6.heap.size < w9.heap.size from RA10.out.lt)
  obtain ⟨W11, hW11⟩ : ∃ W, w9.alloc (.cells #[.slice b1 S0.bs.length l1, .slice b2 S0.bs.length l2, .int .i64 (S0.sp : Int)] 29) = W := ⟨_, rfl⟩
  have HW11 := hide hW11
  have RA11 := hide (show Row W11 (w6.heap.size) 29 [.slice a1 S0.bs.length k1, .slice a2 S0.bs.length k2, .int .i64 (S0.sp : Int)] by rw [← hW11]; exact RA10.out.alloc _)
  clear RA10
  have RB11 := hide (show Row W11 (w9.heap.size) 29 [.slice b1 S0.bs.length l1, .slice b2 S0.bs.length l2, .int .i64 (S0.sp : Int)] by rw [← hW11]; exact Row.new w9 _ _)
  have Sa11 := hide (show StkAt W11 W11.heap.size a1 k1 a2 k2 S0 by rw [← hW11]; exact Sa10.out.alloc _)
  clear Sa10
  have Sb11 := hide (show StkAt W11 W11.heap.size b1 l1 b2 l2 S0 by rw [← hW11]; exact Sb9.out.alloc _)
  clear Sb9
  have Cc11 := hide (show Codes W11 gc by rw [← hW11]; exact Cc10.out.alloc _)
  clear Cc10
  have L11 := hide (show w9.heap.size < W11.heap.size by rw [← hW11]; simp)
  have G11 := hide B10.out.size
  have B11 := hide (show Below w.heap.size w W11 by rw [← hW11]; exact B10.out.alloc B10.out.size _)
  clear hW11
  rw [HW11.out]
  go_wp2_with fail
  go_loopw [] (fun wr => OpRel w w6.heap.size w9.heap.size gc wr) (fun wr => leftN wr gc)
  case atStart => exact ⟨S0, a1, k1, a2, k2, b1, l1, b2, l2, RA11, Sa11, RB11, Sb11, Cc11, B11⟩
  case round =>
    obtain ⟨S, x1, y1, x2, y2, p1, q1, p2, q2, RA, SSA, RB, SSB, CC, BB⟩ := hrel
    clear RA11 Sa11 RB11 Sb11 Cc11 B11
    obtain ⟨cA, cn, cc, ci, hrow, hcn, hci, hleft, hM⟩ := leftN_of CC.out
    have HROW := hide hrow
    have HM := hide hM
    have HL := hide hleft
    clear hrow hM hleft
    by_cases hlt : ci < cn
    · have cl := left_any gc cA cn cc ci wr HROW true (hide (decide_eq_true (by omega)))
      obtain ⟨r0, hr0⟩ : ∃ r, leftN wr gc = r + 1 := ⟨leftN wr gc - 1, by have := HL.out; omega⟩
      rw [hr0] at HM
      have HR0 := hide hr0
      clear hr0
      go_wp2_with fail
      refine cl.mono ?_
      rintro e wl ⟨rfl, dq, rfl⟩
      have RA2 := hide (RA.out.drewN dq)
      have RB2 := hide (RB.out.drewN dq)
      have SA2 := hide (show StkAt (wr.drewN dq) (wr.drewN dq).heap.size x1 y1 x2 y2 S from SSA.out.drewN dq)
      have SB2 := hide (show StkAt (wr.drewN dq) (wr.drewN dq).heap.size p1 q1 p2 q2 S from SSB.out.drewN dq)
      have CM2 := hide (HM.out.drewN dq)
      have BB2 := hide (below_draws BB.out dq)
      have fA0 := RA2.out.cell (k := 0) rfl
      have fA1 := RA2.out.cell (k := 1) rfl
      have fA2 := RA2.out.cell (k := 2) rfl
      have fB0 := RB2.out.cell (k := 0) rfl
      have fB1 := RB2.out.cell (k := 1) rfl
      have fB2 := RB2.out.cell (k := 2) rfl
      go_wp2_with fail
      go_fit (step_any r0 gc off size _ ho SA2 SB2 CM2)
      rintro e w12 ⟨T, e1, n1, e2, n2, f1, o1, f2, o2, rfl, hSa, hSb, hC9, hG9⟩
      have R1 := hide (RA2.out.next CM2.out.codes (by decide) hG9)
      have R2 := hide (RB2.out.next CM2.out.codes (by decide) hG9)
      have S1 := hide hSa
      have S2 := hide hSb
      have C9 := hide hC9
      have CC9 := hide hC9.codes
      have B9 := hide (below_grown BB2.out hG9 GC3.out BB2.out.size)
      clear hSa hSb hC9 hG9
      clear fA0 fA1 fA2 fB0 fB1 fB2
      have fA0 := R1.out.cell (k := 0) rfl
      have fA1 := R1.out.cell (k := 1) rfl
      have fA2 := R1.out.cell (k := 2) rfl
      have fB0 := R2.out.cell (k := 0) rfl
      have fB1 := R2.out.cell (k := 1) rfl
      have fB2 := R2.out.cell (k := 2) rfl
      have yA0 := R1.out.free 0
      have yA1 := R1.out.free 1
      have yA2 := R1.out.free 2
      have yB0 := R2.out.free 0
      have yB1 := R2.out.free 1
      have yB2 := R2.out.free 2
      have nAB : ¬ w6.heap.size = w9.heap.size := by have := DB.out; omega
      have nBA : ¬ w9.heap.size = w6.heap.size := by have := DB.out; omega
      go_upto_region 12 with (fail)
      have CmA := hide (show CodesM r0 (((w12.setCell ⟨w6.heap.size, 0, none⟩ (.slice e1 T.bs.length n1)).setCell ⟨w6.heap.size, 1, none⟩ (.slice e2 T.bs.length n2)).setCell ⟨w6.heap.size, 2, none⟩ (.int .i64 (T.sp : Int))) gc from (((C9.out).put (R1.out) (by decide) ((R1.out).cell (k := 0) rfl) rfl (.slice e1 T.bs.length n1)).put ((R1.out).set_ 0 (.slice e1 T.bs.length n1)) (by decide) (((R1.out).set_ 0 (.slice e1 T.bs.length n1)).cell (k := 1) rfl) rfl (.slice e2 T.bs.length n2)).put (((R1.out).set_ 0 (.slice e1 T.bs.length n1)).set_ 1 (.slice e2 T.bs.length n2)) (by decide) ((((R1.out).set_ 0 (.slice e1 T.bs.length n1)).set_ 1 (.slice e2 T.bs.length n2)).cell (k := 2) rfl) rfl (.int .i64 (T.sp : Int)))
      obtain ⟨W13, hW13⟩ : ∃ W, ((w12.setCell ⟨w6.heap.size, 0, none⟩ (.slice e1 T.bs.length n1)).setCell ⟨w6.heap.size, 1, none⟩ (.slice e2 T.bs.length n2)).setCell ⟨w6.heap.size, 2, none⟩ (.int .i64 (T.sp : Int)) = W := ⟨_, rfl⟩
      have HW13 := hide hW13
      have RA13 := hide (show Row W13 (w6.heap.size) 29 [.slice e1 T.bs.length n1, .slice e2 T.bs.length n2, .int .i64 (T.sp : Int)] by rw [← hW13]; exact (((R1.out).set_ 0 _).set_ 1 _).set_ 2 _)
      have RB13 := hide (show Row W13 (w9.heap.size) 29 [.slice p1 S.bs.length q1, .slice p2 S.bs.length q2, .int .i64 (S.sp : Int)] by rw [← hW13]; exact (((R2.out).far (p := ⟨w6.heap.size, 0, none⟩) (by have := DB.out; simp <;> omega) _).far (p := ⟨w6.heap.size, 1, none⟩) (by have := DB.out; simp <;> omega) _).far (p := ⟨w6.heap.size, 2, none⟩) (by have := DB.out; simp <;> omega) _)
      clear R2
      have Sa13 := hide (show StkAt W13 W13.heap.size e1 n1 e2 n2 T by rw [← hW13]; exact StkAt.put (StkAt.put (StkAt.put (S1.out) ((R1.out).cell (k := 0) rfl) rfl _) (((R1.out).set_ 0 _).cell (k := 1) rfl) rfl _) ((((R1.out).set_ 0 _).set_ 1 _).cell (k := 2) rfl) rfl _)
      clear S1
      have Sb13 := hide (show StkAt W13 W13.heap.size f1 o1 f2 o2 T by rw [← hW13]; exact StkAt.put (StkAt.put (StkAt.put (S2.out) ((R1.out).cell (k := 0) rfl) rfl _) (((R1.out).set_ 0 _).cell (k := 1) rfl) rfl _) ((((R1.out).set_ 0 _).set_ 1 _).cell (k := 2) rfl) rfl _)
      clear S2
      have Cc13 := hide (show Codes W13 gc by rw [← hW13]; exact (((CC9.out).put (R1.out) (by decide) ((R1.out).cell (k := 0) rfl) rfl _).put ((R1.out).set_ 0 _) (by decide) (((R1.out).set_ 0 _).cell (k := 1) rfl) rfl _).put (((R1.out).set_ 0 _).set_ 1 _) (by decide) ((((R1.out).set_ 0 _).set_ 1 _).cell (k := 2) rfl) rfl _)
      clear CC9
      have B13 := hide (show Below w.heap.size w W13 by rw [← hW13]; exact below_put (below_put (below_put (B9.out) DA.out) DA.out) DA.out)
      clear hW13 R1
      rw [HW13.out] at CmA
      have CmB := hide (show CodesM r0 (((W13.setCell ⟨w9.heap.size, 0, none⟩ (.slice f1 T.bs.length o1)).setCell ⟨w9.heap.size, 1, none⟩ (.slice f2 T.bs.length o2)).setCell ⟨w9.heap.size, 2, none⟩ (.int .i64 (T.sp : Int))) gc from (((CmA.out).put (RB13.out) (by decide) ((RB13.out).cell (k := 0) rfl) rfl (.slice f1 T.bs.length o1)).put ((RB13.out).set_ 0 (.slice f1 T.bs.length o1)) (by decide) (((RB13.out).set_ 0 (.slice f1 T.bs.length o1)).cell (k := 1) rfl) rfl (.slice f2 T.bs.length o2)).put (((RB13.out).set_ 0 (.slice f1 T.bs.length o1)).set_ 1 (.slice f2 T.bs.length o2)) (by decide) ((((RB13.out).set_ 0 (.slice f1 T.bs.length o1)).set_ 1 (.slice f2 T.bs.length o2)).cell (k := 2) rfl) rfl (.int .i64 (T.sp : Int)))
      obtain ⟨W14, hW14⟩ : ∃ W, ((W13.setCell ⟨w9.heap.size, 0, none⟩ (.slice f1 T.bs.length o1)).setCell ⟨w9.heap.size, 1, none⟩ (.slice f2 T.bs.length o2)).setCell ⟨w9.heap.size, 2, none⟩ (.int .i64 (T.sp : Int)) = W := ⟨_, rfl⟩
      have HW14 := hide hW14
      have RB14 := hide (show Row W14 (w9.heap.size) 29 [.slice f1 T.bs.length o1, .slice f2 T.bs.length o2, .int .i64 (T.sp : Int)] by rw [← hW14]; exact (((RB13.out).set_ 0 _).set_ 1 _).set_ 2 _)
      have RA14 := hide (show Row W14 (w6.heap.size) 29 [.slice e1 T.bs.length n1, .slice e2 T.bs.length n2, .int .i64 (T.sp : Int)] by rw [← hW14]; exact (((RA13.out).far (p := ⟨w9.heap.size, 0, none⟩) (by have := DB.out; simp <;> omega) _).far (p := ⟨w9.heap.size, 1, none⟩) (by have := DB.out; simp <;> omega) _).far (p := ⟨w9.heap.size, 2, none⟩) (by have := DB.out; simp <;> omega) _)
      clear RA13
      have Sa14 := hide (show StkAt W14 W14.heap.size e1 n1 e2 n2 T by rw [← hW14]; exact StkAt.put (StkAt.put (StkAt.put (Sa13.out) ((RB13.out).cell (k := 0) rfl) rfl _) (((RB13.out).set_ 0 _).cell (k := 1) rfl) rfl _) ((((RB13.out).set_ 0 _).set_ 1 _).cell (k := 2) rfl) rfl _)
      clear Sa13
      have Sb14 := hide (show StkAt W14 W14.heap.size f1 o1 f2 o2 T by rw [← hW14]; exact StkAt.put (StkAt.put (StkAt.put (Sb13.out) ((RB13.out).cell (k := 0) rfl) rfl _) (((RB13.out).set_ 0 _).cell (k := 1) rfl) rfl _) ((((RB13.out).set_ 0 _).set_ 1 _).cell (k := 2) rfl) rfl _)
      clear Sb13
      have Cc14 := hide (show Codes W14 gc by rw [← hW14]; exact (((Cc13.out).put (RB13.out) (by decide) ((RB13.out).cell (k := 0) rfl) rfl _).put ((RB13.out).set_ 0 _) (by decide) (((RB13.out).set_ 0 _).cell (k := 1) rfl) rfl _).put (((RB13.out).set_ 0 _).set_ 1 _) (by decide) ((((RB13.out).set_ 0 _).set_ 1 _).cell (k := 2) rfl) rfl _)
      clear Cc13
      have B14 := hide (show Below w.heap.size w W14 by rw [← hW14]; exact below_put (below_put (below_put (B13.out) (by have := DB.out; have := DA.out; omega)) (by have := DB.out; have := DA.out; omega)) (by have := DB.out; have := DA.out; omega))
      clear hW14 RB13
      rw [HW14.out] at CmB
      rw [HW13.out, HW14.out]
      have hdec := hide (leftN_le CmB.out)
      try go_wp2_with fail
      go_roundw
      case rel => exact ⟨T, e1, n1, e2, n2, f1, o1, f2, o2, RA14, Sa14, RB14, Sb14, Cc14, B14⟩
      case measure => have h1 := hdec.out; have h2 := HR0.out; omega
    · have cl := left_any gc cA cn cc ci wr HROW false (hide (decide_eq_false (by omega)))
      have hmost := SSA.out.ok.most
      have ck := fun W => check_stk x1 S.bs.length y1 x2 S.bs.length y2 (S.sp : Int) W (by omega) (by omega)
      rw [ckB_ok SSA.out.ok] at ck
      go_wp2_with fail
      refine cl.mono ?_
      rintro e wl ⟨rfl, dq, rfl⟩
      have RA2 := hide (RA.out.drewN dq)
      have BB2 := hide (below_draws BB.out dq)
      have fA0 := RA2.out.cell (k := 0) rfl
      have fA1 := RA2.out.cell (k := 1) rfl
      have fA2 := RA2.out.cell (k := 2) rfl
      go_wp2_with fail
      refine (ck _).mono ?_
      rintro e w12 ⟨rfl, hb12⟩
      have RA13 := hide (RA2.out.call hb12)
      clear RA2
      have B13 := hide (below_call BB2.out hb12)
      clear BB2
      clear hb12
      go_wp2_with fail
      go_ret
      exact ⟨rfl, B13.out⟩
end Go.Proofs.Ytipjeihfhnilcaa
end
