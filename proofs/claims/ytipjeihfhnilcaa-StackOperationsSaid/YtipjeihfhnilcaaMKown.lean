import Derived.Test.YtipjeihfhnilcaaMKuse
import Derived.Test.YtipjeihfhnilcaaMKmem
import Derived.Test.YtipjeihfhnilcaaMInv
set_option linter.unusedVariables false
set_option linter.unusedSimpArgs false
section
/-
  Stacks copied: slices.Clone at bytes and at truth values, stack.clone, the reference's Copy: both rows are the call's own. Conditions: those of the types; the stack is one for which Check is true.
-/
namespace Go.Proofs.Ytipjeihfhnilcaa
open Go.RowKit

/-- A copy, behind w. -/
def CopyPost (t : TypeId) (n : Nat) (xs : List Value) (w : World) (e : Ending) (w' : World) : Prop :=
  ∃ v, e = .returned v ∧ w'.ownsRow w.heap.size t 1 v n xs ∧ Below w.heap.size w w'

set_option maxHeartbeats 800000 in
theorem clone8_any (A : Option Addr) (n c : Nat) (zs : List Int) (B : Nat) (w : World) (hA : Hid (A = none → c = 0)) (hn : Hid (zs.length = n)) (hnc : n ≤ c) (hm : n ≤ 1048576) (hs : Hid (Sees w B A (cellsU8 zs))) (hB : B ≤ w.heap.size) :
    Calls Try.prog 59 #[.slice A n c] w (CopyPost 5 n (cellsU8 zs) w) := by
  have hq := fun w => Lib.run_eql_slice_nil (P := Try.prog) w 22 5 A n c 0 0 Try.underlying22
  cases A with
  | none =>
    obtain rfl : c = 0 := hA.out rfl
    obtain rfl : n = 0 := by omega
    have hl : zs = [] := List.eq_nil_of_length_eq_zero hn.out
    subst hl
    go_enter Try.func59, Try.ntmps59
    go_wp2_with fail
    go_ret
    exact ⟨_, rfl, World.ownsRow_nil _ _ _ _, Below.refl _ _⟩
  | some ad =>
    obtain ⟨i0, hi, hz0, hz1, hz2⟩ := info_parts Try.cinfo5
    have hsrc : ∀ (j : Nat) (u : Value), (cellsU8 zs)[j]? = some u → (w.alloc (.cells #[] 5)).cell? (ad.add j) = some u := by
      intro j u hu
      have hj : 0 < (cellsU8 zs).length := by
        rcases Nat.eq_zero_or_pos (cellsU8 zs).length with h0 | h0
        · rw [List.getElem?_eq_none (by omega)] at hu; simp at hu
        · exact h0
      obtain ⟨ad', he, hc⟩ := Sees.src (Sees.alloc hs.out hB (.cells #[] 5)) hj
      have he' : ad = ad' := Option.some.inj he
      rw [he']
      exact hc j u hu
    have HS := hide hsrc
    have hlen := hide (show (cellsU8 zs).length = n * 1 by rw [cellsU8_length, hn.out]; omega)
    clear hsrc hs
    go_enter Try.func59, Try.ntmps59
    go_wp2_with (at_builtin; refine wpList_append_own _ rfl (.tmp 5) (.tmp 6) 22 rfl w.heap.size 5 i0 (.int .u8 0) 1 1 Try.underlying22 hi hz0 hz1 hz2 rfl (by decide) _ 0 [] rfl (empty_own w _) ad n c (cellsU8 zs) rfl hlen.out HS.out (cellsU8_one zs) (by unfold maxLen; omega) (by omega) (by simp) ?_)
    intro v' w2 ho2 hg2 _
    have hB' := hide (below_append (below1 w (.cells #[] 5)) (empty_own w 5) (Nat.le_refl _) hg2 (by simp))
    have HO := hide (show w2.ownsRow w.heap.size 5 1 v' n (cellsU8 zs) by simpa using ho2)
    clear ho2 hg2
    go_wp2_with fail
    go_ret
    exact ⟨_, rfl, HO.out, hB'.out⟩

set_option maxHeartbeats 800000 in
theorem cloneB_any (A : Option Addr) (n c : Nat) (zs : List Bool) (B : Nat) (w : World) (hA : Hid (A = none → c = 0)) (hn : Hid (zs.length = n)) (hnc : n ≤ c) (hm : n ≤ 1048576) (hs : Hid (Sees w B A (cellsB zs))) (hB : B ≤ w.heap.size) :
    Calls Try.prog 60 #[.slice A n c] w (CopyPost 4 n (cellsB zs) w) := by
  have hq := fun w => Lib.run_eql_slice_nil (P := Try.prog) w 27 4 A n c 0 0 Try.underlying27
  cases A with
  | none =>
    obtain rfl : c = 0 := hA.out rfl
    obtain rfl : n = 0 := by omega
    have hl : zs = [] := List.eq_nil_of_length_eq_zero hn.out
    subst hl
    go_enter Try.func60, Try.ntmps60
    go_wp2_with fail
    go_ret
    exact ⟨_, rfl, World.ownsRow_nil _ _ _ _, Below.refl _ _⟩
  | some ad =>
    obtain ⟨i0, hi, hz0, hz1, hz2⟩ := info_parts Try.cinfo4
    have hsrc : ∀ (j : Nat) (u : Value), (cellsB zs)[j]? = some u → (w.alloc (.cells #[] 4)).cell? (ad.add j) = some u := by
      intro j u hu
      have hj : 0 < (cellsB zs).length := by
        rcases Nat.eq_zero_or_pos (cellsB zs).length with h0 | h0
        · rw [List.getElem?_eq_none (by omega)] at hu; simp at hu
        · exact h0
      obtain ⟨ad', he, hc⟩ := Sees.src (Sees.alloc hs.out hB (.cells #[] 4)) hj
      have he' : ad = ad' := Option.some.inj he
      rw [he']
      exact hc j u hu
    have HS := hide hsrc
    have hlen := hide (show (cellsB zs).length = n * 1 by rw [cellsB_length, hn.out]; omega)
    clear hsrc hs
    go_enter Try.func60, Try.ntmps60
    go_wp2_with (at_builtin; refine wpList_append_own _ rfl (.tmp 5) (.tmp 6) 27 rfl w.heap.size 4 i0 (.bool false) 1 1 Try.underlying27 hi hz0 hz1 hz2 rfl (by decide) _ 0 [] rfl (empty_own w _) ad n c (cellsB zs) rfl hlen.out HS.out (cellsB_one zs) (by unfold maxLen; omega) (by omega) (by simp) ?_)
    intro v' w2 ho2 hg2 _
    have hB' := hide (below_append (below1 w (.cells #[] 4)) (empty_own w 4) (Nat.le_refl _) hg2 (by simp))
    have HO := hide (show w2.ownsRow w.heap.size 4 1 v' n (cellsB zs) by simpa using ho2)
    clear ho2 hg2
    go_wp2_with fail
    go_ret
    exact ⟨_, rfl, HO.out, hB'.out⟩

/-- A stack of the call's own. -/
def OwnPost (t1 t2 : TypeId) (n : Nat) (p : Int) (xs ys : List Value) (w : World) (e : Ending) (w' : World) : Prop :=
  ∃ A1 c1 A2 c2, e = .returned (kv A1 n c1 A2 n c2 p) ∧ w'.ownsRow (w.heap.size + 2) t1 1 (.slice A1 n c1) n xs ∧ w'.ownsRow (w.heap.size + 2) t2 1 (.slice A2 n c2) n ys ∧ Below w.heap.size w w'

/-- What each operation keeps: which of them have come up, and what they have left. -/
def CloneI (A1 : Option Addr) (n c1 : Nat) (A2 : Option Addr) (c2 : Nat) (p : Int) (xs ys : List Value) (w : World) (l : Array Bool) (a : Act) (wr : World) : Prop :=
  ∃ (b0 b1 b2 b3 b4 b5 b6 b7 b8 b9 : Bool) (x3 x4 x5 x6 x7 x8 x9 x10 x11 s0 s1 s2 : Value), l = #[b0, b1, b2, b3, b4, b5, b6, b7, b8, b9] ∧ a = ⟨#[kv A1 n c1 A2 n c2 p, .pointer (some ⟨w.heap.size, 0, none⟩), .pointer (some ⟨w.heap.size + 1, 0, none⟩), x3, x4, x5, x6, x7, x8, x9, x10, x11], []⟩ ∧
    Below w.heap.size w wr ∧
    Row wr w.heap.size 29 [.slice A1 n c1, .slice A2 n c2, .int .i64 p] ∧
    Row wr (w.heap.size + 1) 29 [s0, s1, s2] ∧
    (b9 = true → s0 = x5) ∧
    (b9 = true → s1 = x8) ∧
    (b9 = true → s2 = .int .i64 p) ∧
    (b1 = true → b0 = true) ∧
    (b2 = true → b1 = true) ∧
    (b4 = true → b3 = true) ∧
    (b5 = true → b4 = true) ∧
    (b7 = true → b6 = true) ∧
    (b8 = true → b2 = true ∧ b5 = true ∧ b7 = true) ∧
    (b9 = true → b8 = true) ∧
    (b0 = true → x3 = .pointer (some ⟨w.heap.size, 0, none⟩)) ∧
    (b1 = true → x4 = .slice A1 n c1) ∧
    (b2 = true → wr.ownsRow (w.heap.size + 2) 5 1 x5 n xs) ∧
    (b3 = true → x6 = .pointer (some ⟨w.heap.size, 1, none⟩)) ∧
    (b4 = true → x7 = .slice A2 n c2) ∧
    (b5 = true → wr.ownsRow (w.heap.size + 2) 4 1 x8 n ys) ∧
    (b6 = true → x9 = .pointer (some ⟨w.heap.size, 2, none⟩)) ∧
    (b7 = true → x10 = .int .i64 p) ∧
    (b8 = true → x11 = .agg #[x5, x8, .int .i64 p])

set_option maxRecDepth 100000 in
set_option maxHeartbeats 4000000 in
theorem clone_any (A1 : Option Addr) (n c1 : Nat) (A2 : Option Addr) (c2 : Nat) (p : Int) (xs : List Int) (ys : List Bool) (w : World) (hA1 : Hid (A1 = none → c1 = 0)) (hA2 : Hid (A2 = none → c2 = 0)) (hn1 : n ≤ c1) (hn2 : n ≤ c2) (hm : n ≤ 1048576) (hx : Hid (xs.length = n)) (hy : Hid (ys.length = n)) (hs1 : Hid (Sees w w.heap.size A1 (cellsU8 xs))) (hs2 : Hid (Sees w w.heap.size A2 (cellsB ys))) :
    Calls Try.prog 40 #[kv A1 n c1 A2 n c2 p] w (OwnPost 5 4 n p (cellsU8 xs) (cellsB ys) w) := by
  have C1 := fun (wr : World) (hB : Below w.heap.size w wr) => clone8_any A1 n c1 xs w.heap.size wr hA1 hx hn1 hm (hide (hs1.out.below hB)) hB.size
  have C2 := fun (wr : World) (hB : Below w.heap.size w wr) => cloneB_any A2 n c2 ys w.heap.size wr hA2 hy hn2 hm (hide (hs2.out.below hB)) hB.size
  obtain ⟨W, hW, hbW, hsW, r0, r1⟩ := two_boxes w [.slice A1 n c1, .slice A2 n c2, .int .i64 p] [.slice none 0 0, .slice none 0 0, .int .i64 0] 29 29
  have HW := hide hW
  clear hW
  go_enter Try.func40, Try.ntmps40
  go_upto_region 1 with (fail)
  rw [HW.out]
  have HI0 : CloneI A1 n c1 A2 c2 p (cellsU8 xs) (cellsB ys) w (Array.replicate 10 false) ⟨#[kv A1 n c1 A2 n c2 p, .pointer (some ⟨w.heap.size, 0, none⟩), .pointer (some ⟨w.heap.size + 1, 0, none⟩), undef, undef, undef, undef, undef, undef, undef, undef, undef], []⟩ W.drew :=
    ⟨false, false, false, false, false, false, false, false, false, false, _, _, _, _, _, _, _, _, _, _, _, _, rfl, rfl, below_draws hbW 1, r0.drew, r1.drew, (fun e => by cases e), (fun e => by cases e), (fun e => by cases e), (fun e => by cases e), (fun e => by cases e), (fun e => by cases e), (fun e => by cases e), (fun e => by cases e), (fun e => by cases e), (fun e => by cases e), (fun e => by cases e), (fun e => by cases e), (fun e => by cases e), (fun e => by cases e), (fun e => by cases e), (fun e => by cases e), (fun e => by cases e), (fun e => by cases e), (fun e => by cases e)⟩
  refine wp_region_inv (by kernel_rfl) (CloneI A1 n c1 A2 c2 p (cellsU8 xs) (cellsB ys) w) HI0 ?_ ?_
  · rintro l a wr ⟨b0, b1, b2, b3, b4, b5, b6, b7, b8, b9, x3, x4, x5, x6, x7, x8, x9, x10, x11, s0, s1, s2, rfl, rfl, hB, hX, hZ, f_s0, f_s1, f_s2, t1, t2, t4, t5, t7, t8, t9, q0, q1, q2, q3, q4, q5, q6, q7, q8⟩ k hi K hK
    have hlt := ready_lt hi
    obtain ⟨hf, o, ho, ha⟩ := ready_of hi
    clear hi
    have hlt' : k < 10 := hlt
    clear hlt
    rcases (show k = 0 ∨ k = 1 ∨ k = 2 ∨ k = 3 ∨ k = 4 ∨ k = 5 ∨ k = 6 ∨ k = 7 ∨ k = 8 ∨ k = 9 by omega) with rfl | rfl | rfl | rfl | rfl | rfl | rfl | rfl | rfl | rfl
    · obtain rfl := Option.some.inj ho
      simp [Region.binds] at ha hf
      clear ha ho hlt'
      refine wpOp_plain rfl rfl ?_
      go_simp
      refine hK _ _ ⟨true, b1, b2, b3, b4, b5, b6, b7, b8, b9, _, _, _, _, _, _, _, _, _, _, _, _, rfl, rfl, hB, hX, hZ, f_s0, f_s1, f_s2, (fun e => rfl), t2, t4, t5, t7, t8, t9, (fun _ => rfl), (by first | exact q1 | exact fun _ => rfl), q2, (by first | exact q3 | exact fun _ => rfl), (by first | exact q4 | exact fun _ => rfl), q5, (by first | exact q6 | exact fun _ => rfl), (by first | exact q7 | exact fun _ => rfl), (by first | exact q8 | exact fun _ => rfl)⟩
    · obtain rfl := Option.some.inj ho
      simp [Region.binds] at ha hf
      have d0 : b0 = true := by simp_all
      have D0 := hide d0
      have x := q0 d0
      subst x
      have hc := hX.cell (k := 0) rfl
      clear ha ho hlt'
      refine wpOp_plain rfl rfl ?_
      go_simp
      refine hK _ _ ⟨b0, true, b2, b3, b4, b5, b6, b7, b8, b9, _, _, _, _, _, _, _, _, _, _, _, _, rfl, rfl, hB, hX, hZ, f_s0, f_s1, f_s2, (fun _ => D0.out), (fun e => rfl), t4, t5, t7, t8, t9, (fun _ => rfl), (fun _ => rfl), q2, (by first | exact q3 | exact fun _ => rfl), (by first | exact q4 | exact fun _ => rfl), q5, (by first | exact q6 | exact fun _ => rfl), (by first | exact q7 | exact fun _ => rfl), (by first | exact q8 | exact fun _ => rfl)⟩
    · obtain rfl := Option.some.inj ho
      simp [Region.binds] at ha hf
      have d1 : b1 = true := by simp_all
      have D1 := hide d1
      have x := q1 d1
      subst x
      clear ha ho hlt'
      refine wpOp_plain rfl rfl ?_
      go_simp
      refine (C1 wr hB).mono ?_
      rintro e w' ⟨v', rfl, ho1, hb'⟩
      have ho' := own_raise ho1 (by have := hB.size; have := hZ.lt; omega : w.heap.size + 2 ≤ wr.heap.size)
      refine hK _ _ ⟨b0, b1, true, b3, b4, b5, b6, b7, b8, b9, _, _, _, _, _, _, _, _, _, _, _, _, rfl, rfl, (hB.trans (hb'.mono hB.size)), (hX.call hb'), (hZ.call hb'), (fun e => by have := t9 e; simp_all), f_s1, f_s2, t1, (fun _ => D1.out), t4, t5, t7, (fun e => ⟨rfl, (t8 e).2.1, (t8 e).2.2⟩), t9, (by first | exact q0 | exact fun _ => rfl), (fun _ => rfl), (fun _ => ho'), (by first | exact q3 | exact fun _ => rfl), (by first | exact q4 | exact fun _ => rfl), (fun e => own_below (q5 e) hb'), (by first | exact q6 | exact fun _ => rfl), (by first | exact q7 | exact fun _ => rfl), (fun e => by have := t8 e; simp_all)⟩
    · obtain rfl := Option.some.inj ho
      simp [Region.binds] at ha hf
      clear ha ho hlt'
      refine wpOp_plain rfl rfl ?_
      go_simp
      refine hK _ _ ⟨b0, b1, b2, true, b4, b5, b6, b7, b8, b9, _, _, _, _, _, _, _, _, _, _, _, _, rfl, rfl, hB, hX, hZ, f_s0, f_s1, f_s2, t1, t2, (fun e => rfl), t5, t7, t8, t9, (by first | exact q0 | exact fun _ => rfl), (by first | exact q1 | exact fun _ => rfl), q2, (fun _ => rfl), (by first | exact q4 | exact fun _ => rfl), q5, (by first | exact q6 | exact fun _ => rfl), (by first | exact q7 | exact fun _ => rfl), (by first | exact q8 | exact fun _ => rfl)⟩
    · obtain rfl := Option.some.inj ho
      simp [Region.binds] at ha hf
      have d3 : b3 = true := by simp_all
      have D3 := hide d3
      have x := q3 d3
      subst x
      have hc := hX.cell (k := 1) rfl
      clear ha ho hlt'
      refine wpOp_plain rfl rfl ?_
      go_simp
      refine hK _ _ ⟨b0, b1, b2, b3, true, b5, b6, b7, b8, b9, _, _, _, _, _, _, _, _, _, _, _, _, rfl, rfl, hB, hX, hZ, f_s0, f_s1, f_s2, t1, t2, (fun _ => D3.out), (fun e => rfl), t7, t8, t9, (by first | exact q0 | exact fun _ => rfl), (by first | exact q1 | exact fun _ => rfl), q2, (fun _ => rfl), (fun _ => rfl), q5, (by first | exact q6 | exact fun _ => rfl), (by first | exact q7 | exact fun _ => rfl), (by first | exact q8 | exact fun _ => rfl)⟩
    · obtain rfl := Option.some.inj ho
      simp [Region.binds] at ha hf
      have d4 : b4 = true := by simp_all
      have D4 := hide d4
      have x := q4 d4
      subst x
      clear ha ho hlt'
      refine wpOp_plain rfl rfl ?_
      go_simp
      refine (C2 wr hB).mono ?_
      rintro e w' ⟨v', rfl, ho1, hb'⟩
      have ho' := own_raise ho1 (by have := hB.size; have := hZ.lt; omega : w.heap.size + 2 ≤ wr.heap.size)
      refine hK _ _ ⟨b0, b1, b2, b3, b4, true, b6, b7, b8, b9, _, _, _, _, _, _, _, _, _, _, _, _, rfl, rfl, (hB.trans (hb'.mono hB.size)), (hX.call hb'), (hZ.call hb'), f_s0, (fun e => by have := t9 e; simp_all), f_s2, t1, t2, t4, (fun _ => D4.out), t7, (fun e => ⟨(t8 e).1, rfl, (t8 e).2.2⟩), t9, (by first | exact q0 | exact fun _ => rfl), (by first | exact q1 | exact fun _ => rfl), (fun e => own_below (q2 e) hb'), (by first | exact q3 | exact fun _ => rfl), (fun _ => rfl), (fun _ => ho'), (by first | exact q6 | exact fun _ => rfl), (by first | exact q7 | exact fun _ => rfl), (fun e => by have := t8 e; simp_all)⟩
    · obtain rfl := Option.some.inj ho
      simp [Region.binds] at ha hf
      clear ha ho hlt'
      refine wpOp_plain rfl rfl ?_
      go_simp
      refine hK _ _ ⟨b0, b1, b2, b3, b4, b5, true, b7, b8, b9, _, _, _, _, _, _, _, _, _, _, _, _, rfl, rfl, hB, hX, hZ, f_s0, f_s1, f_s2, t1, t2, t4, t5, (fun e => rfl), t8, t9, (by first | exact q0 | exact fun _ => rfl), (by first | exact q1 | exact fun _ => rfl), q2, (by first | exact q3 | exact fun _ => rfl), (by first | exact q4 | exact fun _ => rfl), q5, (fun _ => rfl), (by first | exact q7 | exact fun _ => rfl), (by first | exact q8 | exact fun _ => rfl)⟩
    · obtain rfl := Option.some.inj ho
      simp [Region.binds] at ha hf
      have d6 : b6 = true := by simp_all
      have D6 := hide d6
      have x := q6 d6
      subst x
      have hc := hX.cell (k := 2) rfl
      clear ha ho hlt'
      refine wpOp_plain rfl rfl ?_
      go_simp
      refine hK _ _ ⟨b0, b1, b2, b3, b4, b5, b6, true, b8, b9, _, _, _, _, _, _, _, _, _, _, _, _, rfl, rfl, hB, hX, hZ, f_s0, f_s1, f_s2, t1, t2, t4, t5, (fun _ => D6.out), (fun e => ⟨(t8 e).1, (t8 e).2.1, rfl⟩), t9, (by first | exact q0 | exact fun _ => rfl), (by first | exact q1 | exact fun _ => rfl), q2, (by first | exact q3 | exact fun _ => rfl), (by first | exact q4 | exact fun _ => rfl), q5, (fun _ => rfl), (fun _ => rfl), (by first | exact q8 | exact fun _ => rfl)⟩
    · obtain rfl := Option.some.inj ho
      simp [Region.binds] at ha hf
      have d2 : b2 = true := by simp_all
      have d5 : b5 = true := by simp_all
      have d7 : b7 = true := by simp_all
      have D2 := hide d2
      have D5 := hide d5
      have D7 := hide d7
      have x := q7 d7
      subst x
      have o2 := q2 d2
      have o5 := q5 d5
      obtain ⟨a5, k5, rfl, -, -⟩ := own_form o2
      obtain ⟨a8, k8, rfl, -, -⟩ := own_form o5
      clear ha ho hlt'
      refine wpOp_plain rfl rfl ?_
      go_simp
      refine hK _ _ ⟨b0, b1, b2, b3, b4, b5, b6, b7, true, b9, _, _, _, _, _, _, _, _, _, _, _, _, rfl, rfl, hB, hX, hZ, f_s0, f_s1, f_s2, t1, t2, t4, t5, t7, (fun _ => ⟨D2.out, D5.out, D7.out⟩), (fun e => rfl), (by first | exact q0 | exact fun _ => rfl), (by first | exact q1 | exact fun _ => rfl), q2, (by first | exact q3 | exact fun _ => rfl), (by first | exact q4 | exact fun _ => rfl), q5, (by first | exact q6 | exact fun _ => rfl), (fun _ => rfl), (fun _ => rfl)⟩
    · obtain rfl := Option.some.inj ho
      simp [Region.binds] at ha hf
      have d8 : b8 = true := by simp_all
      have d2 : b2 = true := by simp_all
      have d5 : b5 = true := by simp_all
      have D8 := hide d8
      have x := q8 d8
      subst x
      have o2 := q2 d2
      have o5 := q5 d5
      have o2 := q2 (by simp_all)
      have o5 := q5 (by simp_all)
      obtain ⟨a5, k5, rfl, -, -⟩ := own_form o2
      obtain ⟨a8, k8, rfl, -, -⟩ := own_form o5
      have z0 := hZ.cell (k := 0) rfl
      have z1 := hZ.cell (k := 1) rfl
      have z2 := hZ.cell (k := 2) rfl
      have y0 := hZ.free 0
      have y1 := hZ.free 1
      have y2 := hZ.free 2
      clear ha ho hlt'
      refine wpOp_plain rfl rfl ?_
      go_simp
      refine hK _ _ ⟨b0, b1, b2, b3, b4, b5, b6, b7, b8, true, _, _, _, _, _, _, _, _, _, _, _, _, rfl, rfl, (below_put3 hB (by omega)), (((hX.far (p := ⟨w.heap.size + 1, 0, none⟩) (by simp) _).far (p := ⟨w.heap.size + 1, 1, none⟩) (by simp) _).far (p := ⟨w.heap.size + 1, 2, none⟩) (by simp) _), (((hZ.set_ 0 _).set_ 1 _).set_ 2 _), (fun _ => rfl), (fun _ => rfl), (fun _ => rfl), t1, t2, t4, t5, t7, t8, (fun _ => D8.out), (by first | exact q0 | exact fun _ => rfl), (by first | exact q1 | exact fun _ => rfl), (fun e => own_put3 (q2 e) (by omega)), (by first | exact q3 | exact fun _ => rfl), (by first | exact q4 | exact fun _ => rfl), (fun e => own_put3 (q5 e) (by omega)), (by first | exact q6 | exact fun _ => rfl), (by first | exact q7 | exact fun _ => rfl), (fun _ => rfl)⟩
  · rintro l a wr ⟨b0, b1, b2, b3, b4, b5, b6, b7, b8, b9, x3, x4, x5, x6, x7, x8, x9, x10, x11, s0, s1, s2, rfl, rfl, hB, hX, hZ, f_s0, f_s1, f_s2, t1, t2, t4, t5, t7, t8, t9, q0, q1, q2, q3, q4, q5, q6, q7, q8⟩ hr
    have u0 : b0 = true := by
      cases hb : b0 with
      | true => rfl
      | false => exact (ready_no hr (i := 0) rfl hb (by simp [Region.binds])).elim
    have u1 : b1 = true := by
      cases hb : b1 with
      | true => rfl
      | false => exact (ready_no hr (i := 1) rfl hb (by simp [Region.binds, u0])).elim
    have u2 : b2 = true := by
      cases hb : b2 with
      | true => rfl
      | false => exact (ready_no hr (i := 2) rfl hb (by simp [Region.binds, u0, u1])).elim
    have u3 : b3 = true := by
      cases hb : b3 with
      | true => rfl
      | false => exact (ready_no hr (i := 3) rfl hb (by simp [Region.binds, u0, u1, u2])).elim
    have u4 : b4 = true := by
      cases hb : b4 with
      | true => rfl
      | false => exact (ready_no hr (i := 4) rfl hb (by simp [Region.binds, u0, u1, u2, u3])).elim
    have u5 : b5 = true := by
      cases hb : b5 with
      | true => rfl
      | false => exact (ready_no hr (i := 5) rfl hb (by simp [Region.binds, u0, u1, u2, u3, u4])).elim
    have u6 : b6 = true := by
      cases hb : b6 with
      | true => rfl
      | false => exact (ready_no hr (i := 6) rfl hb (by simp [Region.binds, u0, u1, u2, u3, u4, u5])).elim
    have u7 : b7 = true := by
      cases hb : b7 with
      | true => rfl
      | false => exact (ready_no hr (i := 7) rfl hb (by simp [Region.binds, u0, u1, u2, u3, u4, u5, u6])).elim
    have u8 : b8 = true := by
      cases hb : b8 with
      | true => rfl
      | false => exact (ready_no hr (i := 8) rfl hb (by simp [Region.binds, u0, u1, u2, u3, u4, u5, u6, u7])).elim
    have u9 : b9 = true := by
      cases hb : b9 with
      | true => rfl
      | false => exact (ready_no hr (i := 9) rfl hb (by simp [Region.binds, u0, u1, u2, u3, u4, u5, u6, u7, u8])).elim
    clear hr
    obtain rfl := q8 u8
    obtain rfl := q7 u7
    obtain rfl := q6 u6
    have o5 := q5 u5
    obtain rfl := q4 u4
    obtain rfl := q3 u3
    have o2 := q2 u2
    obtain rfl := q1 u1
    obtain rfl := q0 u0
    obtain rfl := f_s0 u9
    obtain rfl := f_s1 u9
    obtain rfl := f_s2 u9
    clear q0 q1 q2 q3 q4 q5 q6 q7 q8 f_s0 f_s1 f_s2 t1 t2 t4 t5 t7 t8 t9 u0 u1 u2 u3 u4 u5 u6 u7 u8 u9
    obtain ⟨a5, k5, rfl, -, -⟩ := own_form o2
    obtain ⟨a8, k8, rfl, -, -⟩ := own_form o5
    have z0 := hZ.cell (k := 0) rfl
    have z1 := hZ.cell (k := 1) rfl
    have z2 := hZ.cell (k := 2) rfl
    go_wp2_with fail
    exact bodyPost_ret (v := kv a5 n k5 a8 n k8 p) (by simp [results, Try.results40, go_sem, z0, z1, z2]) rfl ⟨_, _, _, _, rfl, o2, o5, hB⟩
end Go.Proofs.Ytipjeihfhnilcaa
end
