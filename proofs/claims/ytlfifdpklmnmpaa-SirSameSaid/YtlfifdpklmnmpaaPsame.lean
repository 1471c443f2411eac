/-
  The contracts of sir.SameFunc, of slices.EqualFunc at functions with it, and of sir.Same: whether two functions, or programs, are equal. Conditions: those of the types.
-/
import Derived.Test.YtlfifdpklmnmpaaPeq
import Derived.Outline
namespace Go.Proofs.Ytlfifdpklmnmpaa
open Go.RowKit

theorem fn_eq {x y : Fn} : x = y ↔ x.params = y.params ∧ x.slots = y.slots ∧ x.code = y.code := by
  constructor
  · rintro rfl; exact ⟨rfl, rfl, rfl⟩
  · intro h
    obtain ⟨_, _, _⟩ := x
    obtain ⟨_, _, _⟩ := y
    obtain ⟨h1, h2, h3⟩ := h
    simp only at h1 h2 h3
    subst h1 h2 h3
    rfl

set_option maxHeartbeats 800000 in
theorem samefn_any (P : Int) (A1 : Option Addr) (n1 c1 : Nat) (A2 : Option Addr) (n2 c2 : Nat) (P' : Int) (A1' : Option Addr) (n1' c1' : Nat) (A2' : Option Addr) (n2' c2' : Nat) (f f' : Fn) (lo lo' B B' : Nat) (w : World)
    (H : Hid (HdAt w lo B ⟨P, A1, n1, c1, A2, n2, c2⟩ f)) (H' : Hid (HdAt w lo' B' ⟨P', A1', n1', c1', A2', n2', c2'⟩ f')) (hB : B ≤ w.heap.size) (hB' : B' ≤ w.heap.size) :
    Calls Try.prog 13 #[fv P A1 n1 c1 A2 n2 c2, fv P' A1' n1' c1' A2' n2' c2'] w (BoolBelow (decide (f = f')) w) := by
  obtain ⟨b, hb⟩ : ∃ b, decide (f = f') = b := ⟨_, rfl⟩
  rw [hb]
  have HB := hide (show decide (f.params = f'.params ∧ f.slots = f'.slots ∧ f.code = f'.code) = b by rw [← hb]; exact decide_eq_decide.2 fn_eq.symm)
  clear hb
  have E := hide (show P = f.params from H.out.p)
  have E' := hide (show P' = f'.params from H'.out.p)
  by_cases e1 : P = P'
  · subst e1
    have hx : f.params = f'.params := E.out.symm.trans E'.out
    obtain ⟨b1, h1⟩ : ∃ b1, decide (f.slots = f'.slots) = b1 := ⟨_, rfl⟩
    obtain ⟨b2, h2⟩ : ∃ b2, decide (f.code = f'.code) = b2 := ⟨_, rfl⟩
    have HB' : Hid (b = (b1 && b2)) := by
      show b = (b1 && b2)
      rw [← HB.out, ← h1, ← h2]; simp [hx]
    clear HB hx
    have k1 : ∀ W, Below w.heap.size w W → Calls Try.prog 24 #[.slice A1 n1 c1, .slice A1' n1' c1'] W (BoolDrew b1 W) := fun W hW => by
      rw [← h1]
      exact eqslots_any A1 n1 c1 f.slots A1' n1' c1' f'.slots B B' W (hide H.out.l1) (hide H'.out.l1) (cap_le H.out.k1) (hide (H.out.s1.below (hW.mono hB))) (hide (H'.out.s1.below (hW.mono hB')))
    have k2 : ∀ W, Below w.heap.size w W → Calls Try.prog 25 #[.slice A2 n2 c2, .slice A2' n2' c2'] W (BoolDrew b2 W) := fun W hW => by
      rw [← h2]
      exact eqcode_any A2 n2 c2 f.code A2' n2' c2' f'.code B B' W (hide H.out.l2) (hide H'.out.l2) (cap_le H.out.k2) (hide (H.out.s2.below (hW.mono hB))) (hide (H'.out.s2.below (hW.mono hB')))
    have K1 := hide k1
    have K2 := hide k2
    clear k1 k2 h1 h2
    cases b1 with
    | false =>
      go_enter Try.func13, Try.ntmps13
      go_wp2_with fail
      refine (K1.out _ (below2 _ _ _)).mono ?_
      rintro e w' ⟨rfl, q, rfl⟩
      go_wp2_with fail
      go_ret
      exact ⟨ret_bool (by rw [HB'.out]; rfl), drewN_below (below2 _ _ _) _⟩
    | true =>
      go_enter Try.func13, Try.ntmps13
      go_wp2_with fail
      refine (K1.out _ (below2 _ _ _)).mono ?_
      rintro e w' ⟨rfl, q, rfl⟩
      go_wp2_with fail
      refine (K2.out _ (drewN_below (below2 _ _ _) _)).mono ?_
      rintro e w' ⟨rfl, q', rfl⟩
      go_wp2_with fail
      go_ret
      exact ⟨ret_bool (by rw [HB'.out]; rfl), drewN_below (below2 _ _ _) _⟩
  · have hne : (P == P') = false := by simpa using e1
    have HB' : Hid (b = false) := by
      show b = false
      rw [← HB.out, decide_eq_false_iff_not, ← E.out, ← E'.out]
      exact fun h => e1 h.1
    clear HB e1
    go_enter Try.func13, Try.ntmps13
    go_wp2_with fail
    go_ret
    exact ⟨ret_bool HB'.out.symm, below2 _ _ _⟩

set_option maxHeartbeats 800000 in
theorem eqfuncs_any (A : Option Addr) (n c : Nat) (hs : List Hd) (F : Pg) (A' : Option Addr) (n' c' : Nat) (hs' : List Hd) (F' : Pg) (lo lo' B B' : Nat) (w : World) (H : Hid (PgAt w lo B A n c hs F)) (H' : Hid (PgAt w lo' B' A' n' c' hs' F')) (hB : B ≤ w.heap.size) (hB' : B' ≤ w.heap.size) :
    Calls Try.prog 21 #[.slice A n c, .slice A' n' c', .func (.func 13) #[] #[]] w (BoolBelow (decide (F = F')) w) := by
  have hm := cap_le H.out.cap
  by_cases hnn : n = n'
  · subst hnn
    obtain ⟨b, hb⟩ : ∃ b, decide (F = F') = b := ⟨_, rfl⟩
    rw [hb]
    have HB := hide hb
    clear hb
    go_enter Try.func21, Try.ntmps21
    go_wp2_with fail
    go_loopw [17] (fun i wr => ∃ k : Nat, k ≤ n ∧ i = .int .i64 k ∧ Hid (F.take k = F'.take k) ∧ Hid (Below w.heap.size w wr)) (fun i _ => n - (intOf i).toNat)
    case atStart => exact ⟨0, by omega, rfl, hide rfl, hide (Below.refl _ _)⟩
    case round =>
      obtain ⟨k, hk, rfl, hT, hW⟩ := hrel
      by_cases hlt : k < n
      · have G := H.out.below (hW.out.mono hB)
        have G' := H'.out.below (hW.out.mono hB')
        obtain ⟨b1, o1, P, A1, n1, c1, A2, n2, c2, f, rfl, hb1, e1, _, h1, p0, p1, p2⟩ := fn_at G hlt
        obtain ⟨b2, o2, P', A1', n1', c1', A2', n2', c2', f', rfl, hb2, e2, _, h2, q0, q1, q2⟩ := fn_at G' hlt
        have l1 : k < F.length := by rw [G.len]; exact hlt
        have l2 : k < F'.length := by rw [G'.len]; exact hlt
        have i1 : F[k] = f := by rw [List.getElem?_eq_getElem l1] at e1; injection e1
        have i2 : F'[k] = f' := by rw [List.getElem?_eq_getElem l2] at e2; injection e2
        have N1 := hide (fun hne : f ≠ f' => (show F ≠ F' from ne_take l1 l2 (by rw [i1, i2]; exact hne)))
        have N2 := hide (fun heq : f = f' => (show F.take (k + 1) = F'.take (k + 1) by rw [snoc_take l1, snoc_take l2, hT.out, i1, i2, heq]))
        have hsz := hide hW.out.size
        have k1 : ∀ W, Below wr.heap.size wr W → Calls Try.prog 13 #[fv P A1 n1 c1 A2 n2 c2, fv P' A1' n1' c1' A2' n2' c2'] W (BoolBelow (decide (f = f')) W) := fun W hw =>
          samefn_any P A1 n1 c1 A2 n2 c2 P' A1' n1' c1' A2' n2' c2' f f' lo lo' B B' W (hide (h1.below (hw.mono (Nat.le_trans hB hsz.out)))) (hide (h2.below (hw.mono (Nat.le_trans hB' hsz.out)))) (Nat.le_trans hB (Nat.le_trans hsz.out hw.size)) (Nat.le_trans hB' (Nat.le_trans hsz.out hw.size))
        have K1 := hide k1
        have HW := hW
        have g1 : b1 < wr.heap.size := by have := hsz.out; omega
        have g2 : b2 < wr.heap.size := by have := hsz.out; omega
        clear k1 G G' e1 e2 h1 h2 l1 l2 i1 i2 hb1 hb2 hW
        by_cases hff : f = f'
        · have H2 := hide (N2.out hff)
          have hd : Hid (decide (f = f') = true) := hide (decide_eq_true hff)
          have K2 := hide (hd.out ▸ K1.out)
          clear N1 N2 hff hd K1
          go_wp2_with fail
          refine (K2.out _ (below2 _ _ _)).mono ?_
          rintro e w' ⟨rfl, hw'⟩
          have HW2 := hide (below_call (HW.out.trans ((below2 wr _ _).mono HW.out.size)) hw')
          clear hw'
          go_wp2_with fail
          go_roundw
          case rel => exact ⟨k + 1, by omega, by go_num, H2, HW2⟩
          case measure => simp [intOf]; omega
        · have hBf := hide (HB.out.symm.trans (decide_eq_false (N1.out hff)))
          have hd : Hid (decide (f = f') = false) := hide (decide_eq_false hff)
          have K2 := hide (hd.out ▸ K1.out)
          clear N1 N2 hff hd K1
          go_wp2_with fail
          refine (K2.out _ (below2 _ _ _)).mono ?_
          rintro e w' ⟨rfl, hw'⟩
          have HW2 := hide (below_call (HW.out.trans ((below2 wr _ _).mono HW.out.size)) hw')
          clear hw'
          go_wp2_with fail
          go_ret
          exact ⟨by rw [hBf.out]; rfl, HW2.out⟩
      · obtain rfl : k = n := by omega
        have hB := hide (HB.out.symm.trans (decide_eq_true (by
          have := hT.out
          rwa [List.take_of_length_le (by have := H.out.len; omega), List.take_of_length_le (by have := H'.out.len; omega)] at this)))
        go_wp2_with fail
        go_ret
        exact ⟨by rw [hB.out]; rfl, hW.out⟩
  · have hne : ((n : Int) != (n' : Int)) = true := by rw [bne_iff_ne]; omega
    have HB := hide (show decide (F = F') = false by
      rw [decide_eq_false_iff_not]
      rintro rfl
      exact hnn (H.out.len.symm.trans H'.out.len))
    rw [HB.out]
    clear hnn
    go_enter Try.func21, Try.ntmps21
    go_wp2_with fail
    go_ret
    exact ⟨rfl, Below.refl _ _⟩

set_option maxHeartbeats 400000 in
theorem same_any (A : Option Addr) (n c : Nat) (hs : List Hd) (F : Pg) (A' : Option Addr) (n' c' : Nat) (hs' : List Hd) (F' : Pg) (lo lo' B B' : Nat) (w : World) (H : Hid (PgAt w lo B A n c hs F)) (H' : Hid (PgAt w lo' B' A' n' c' hs' F')) (hB : B ≤ w.heap.size) (hB' : B' ≤ w.heap.size) :
    Calls Try.prog 9 #[gv A n c, gv A' n' c'] w (BoolBelow (decide (F = F')) w) := by
  have k1 : ∀ W, Below w.heap.size w W → Calls Try.prog 21 #[.slice A n c, .slice A' n' c', .func (.func 13) #[] #[]] W (BoolBelow (decide (F = F')) W) := fun W hW => eqfuncs_any A n c hs F A' n' c' hs' F' lo lo' B B' W (hide (H.out.below (hW.mono hB))) (hide (H'.out.below (hW.mono hB'))) (Nat.le_trans hB hW.size) (Nat.le_trans hB' hW.size)
  obtain ⟨b, hb⟩ : ∃ b, decide (F = F') = b := ⟨_, rfl⟩
  rw [hb] at k1 ⊢
  have K1 := hide k1
  clear k1 hb
  go_enter Try.func9, Try.ntmps9
  go_wp2_with fail
  refine (K1.out _ (below2 _ _ _)).mono ?_
  rintro e w' ⟨rfl, hw'⟩
  go_wp2_with fail
  go_ret
  exact ⟨rfl, below_call (below2 _ _ _) hw'⟩
end Go.Proofs.Ytlfifdpklmnmpaa
