import Derived.Test.YtjgoldlebmfiiaaMKb
import Derived.Test.YtjgoldlebmfiiaaMPeqc
import Derived.Outline
set_option linter.unusedVariables false
set_option linter.unusedSimpArgs false
section
/-
  The contracts of mach.sameFrame, of slices.EqualFunc at frames with it, and of mach.Same: whether two frames, or targets, are equal. Conditions: those of the types.
-/
namespace Go.Proofs.Ytjgoldlebmfiiaa
open Go.RowKit

set_option maxHeartbeats 800000 in
theorem samefm_any (P S : Int) (A2 : Option Addr) (n2 c2 : Nat) (P' S' : Int) (A2' : Option Addr) (n2' c2' : Nat) (f f' : Fm) (lo lo' B B' : Nat) (w : World)
    (H : Hid (FdAt w lo B ⟨P, S, A2, n2, c2⟩ f)) (H' : Hid (FdAt w lo' B' ⟨P', S', A2', n2', c2'⟩ f')) (hB : B ≤ w.heap.size) (hB' : B' ≤ w.heap.size) :
    Calls Try.prog 34 #[mv P S A2 n2 c2, mv P' S' A2' n2' c2'] w (BoolBelow (decide (f = f')) w) := by
  obtain ⟨b, hb⟩ : ∃ b, decide (f = f') = b := ⟨_, rfl⟩
  rw [hb]
  have HB := hide (show decide (f.params = f'.params ∧ f.size = f'.size ∧ f.code = f'.code) = b by rw [← hb]; exact decide_eq_decide.2 fm_eq.symm)
  clear hb
  have E := hide (show P = f.params from H.out.p)
  have E' := hide (show P' = f'.params from H'.out.p)
  have Z := hide (show S = f.size from H.out.s)
  have Z' := hide (show S' = f'.size from H'.out.s)
  by_cases e1 : P = P'
  · subst e1
    have hx : f.params = f'.params := E.out.symm.trans E'.out
    by_cases e2 : S = S'
    · subst e2
      have hy : f.size = f'.size := Z.out.symm.trans Z'.out
      obtain ⟨b2, h2⟩ : ∃ b2, decide (f.code = f'.code) = b2 := ⟨_, rfl⟩
      have HB' : Hid (b = b2) := by
        show b = b2
        rw [← HB.out, ← h2]; simp [hx, hy]
      clear HB hx hy
      have k2 : ∀ W, Below w.heap.size w W → Calls Try.prog 49 #[.slice A2 n2 c2, .slice A2' n2' c2'] W (BoolDrew b2 W) := fun W hW => by
        rw [← h2]
        exact eqcode_any A2 n2 c2 f.code A2' n2' c2' f'.code B B' W (hide H.out.l) (hide H'.out.l) (cap_le H.out.k) (hide (H.out.c.below (hW.mono hB))) (hide (H'.out.c.below (hW.mono hB')))
      have K2 := hide k2
      clear k2 h2
      go_enter Try.func34, Try.ntmps34
      go_wp2_with fail
      refine (K2.out _ (below2 _ _ _)).mono ?_
      rintro e w' ⟨rfl, q', rfl⟩
      go_wp2_with fail
      go_ret
      exact ⟨ret_bool HB'.out.symm, drewN_below (below2 _ _ _) _⟩
    · have hne : (S == S') = false := by simpa using e2
      have HB' : Hid (b = false) := by
        show b = false
        rw [← HB.out, decide_eq_false_iff_not, ← Z.out, ← Z'.out]
        exact fun h => e2 h.2.1
      clear HB e2 hx
      go_enter Try.func34, Try.ntmps34
      go_wp2_with fail
      go_ret
      exact ⟨ret_bool HB'.out.symm, below2 _ _ _⟩
  · have hne : (P == P') = false := by simpa using e1
    have HB' : Hid (b = false) := by
      show b = false
      rw [← HB.out, decide_eq_false_iff_not, ← E.out, ← E'.out]
      exact fun h => e1 h.1
    clear HB e1
    go_enter Try.func34, Try.ntmps34
    go_wp2_with fail
    go_ret
    exact ⟨ret_bool HB'.out.symm, below2 _ _ _⟩

set_option maxHeartbeats 800000 in
theorem eqframes_any (A : Option Addr) (n c : Nat) (hs : List Fd) (F : Tg) (A' : Option Addr) (n' c' : Nat) (hs' : List Fd) (F' : Tg) (lo lo' B B' : Nat) (w : World) (H : Hid (TgAt w lo B A n c hs F)) (H' : Hid (TgAt w lo' B' A' n' c' hs' F')) (hB : B ≤ w.heap.size) (hB' : B' ≤ w.heap.size) :
    Calls Try.prog 33 #[.slice A n c, .slice A' n' c', .func (.func 34) #[] #[]] w (BoolBelow (decide (F = F')) w) := by
  have hm := cap_le H.out.cap
  by_cases hnn : n = n'
  · subst hnn
    obtain ⟨b, hb⟩ : ∃ b, decide (F = F') = b := ⟨_, rfl⟩
    rw [hb]
    have HB := hide hb
    clear hb
    go_enter Try.func33, Try.ntmps33
    go_wp2_with fail
    go_loopw [17] (fun i wr => ∃ k : Nat, k ≤ n ∧ i = .int .i64 k ∧ Hid (F.take k = F'.take k) ∧ Hid (Below w.heap.size w wr)) (fun i _ => n - (intOf i).toNat)
    case atStart => exact ⟨0, by omega, rfl, hide rfl, hide (Below.refl _ _)⟩
    case round =>
      obtain ⟨k, hk, rfl, hT, hW⟩ := hrel
      by_cases hlt : k < n
      · have G := H.out.below (hW.out.mono hB)
        have G' := H'.out.below (hW.out.mono hB')
        obtain ⟨b1, o1, P, S, A2, n2, c2, f, rfl, hb1, e1, _, h1, p0, p1, p2⟩ := fm_at G hlt
        obtain ⟨b2, o2, P', S', A2', n2', c2', f', rfl, hb2, e2, _, h2, q0, q1, q2⟩ := fm_at G' hlt
        have l1 : k < F.length := by rw [G.len]; exact hlt
        have l2 : k < F'.length := by rw [G'.len]; exact hlt
        have i1 : F[k] = f := by rw [List.getElem?_eq_getElem l1] at e1; injection e1
        have i2 : F'[k] = f' := by rw [List.getElem?_eq_getElem l2] at e2; injection e2
        have N1 := hide (fun hne : f ≠ f' => (show F ≠ F' from ne_take l1 l2 (by rw [i1, i2]; exact hne)))
        have N2 := hide (fun heq : f = f' => (show F.take (k + 1) = F'.take (k + 1) by rw [snoc_take l1, snoc_take l2, hT.out, i1, i2, heq]))
        have hsz := hide hW.out.size
        have k1 : ∀ W, Below wr.heap.size wr W → Calls Try.prog 34 #[mv P S A2 n2 c2, mv P' S' A2' n2' c2'] W (BoolBelow (decide (f = f')) W) := fun W hw =>
          samefm_any P S A2 n2 c2 P' S' A2' n2' c2' f f' lo lo' B B' W (hide (h1.below (hw.mono (Nat.le_trans hB hsz.out)))) (hide (h2.below (hw.mono (Nat.le_trans hB' hsz.out)))) (Nat.le_trans hB (Nat.le_trans hsz.out hw.size)) (Nat.le_trans hB' (Nat.le_trans hsz.out hw.size))
        have K1 := hide k1
        have HW := hW
        have g1 : b1 < wr.heap.size := by have := hsz.out; omega
        have g2 : b2 < wr.heap.size := by have := hsz.out; omega
        clear k1 G G' e1 e2 h1 h2 l1 l2 i1 i2 hb1 hb2 hW
        by_cases hff : f = f'
        · have H2 := hide (N2.out hff)
          have hd : Hid (decide (f = f') = true) := hide (decide_eq_true hff)
          have K2 := hide (hd.out ▸ K1.out)
          clear N1 N2 hff hd K1
          go_wp2_with fail
          refine (K2.out _ (below2 _ _ _)).mono ?_
          rintro e w' ⟨rfl, hw'⟩
          have HW2 := hide (below_call (HW.out.trans ((below2 wr _ _).mono HW.out.size)) hw')
          clear hw'
          go_wp2_with fail
          go_roundw
          case rel => exact ⟨k + 1, by omega, by go_num, H2, HW2⟩
          case measure => simp [intOf]; omega
        · have hBf := hide (HB.out.symm.trans (decide_eq_false (N1.out hff)))
          have hd : Hid (decide (f = f') = false) := hide (decide_eq_false hff)
          have K2 := hide (hd.out ▸ K1.out)
          clear N1 N2 hff hd K1
          go_wp2_with fail
          refine (K2.out _ (below2 _ _ _)).mono ?_
          rintro e w' ⟨rfl, hw'⟩
          have HW2 := hide (below_call (HW.out.trans ((below2 wr _ _).mono HW.out.size)) hw')
          clear hw'
          go_wp2_with fail
          go_ret
          exact ⟨by rw [hBf.out]; rfl, HW2.out⟩
      · obtain rfl : k = n := by omega
        have hB := hide (HB.out.symm.trans (decide_eq_true (by
          have := hT.out
          rwa [List.take_of_length_le (by have := H.out.len; omega), List.take_of_length_le (by have := H'.out.len; omega)] at this)))
        go_wp2_with fail
        go_ret
        exact ⟨by rw [hB.out]; rfl, hW.out⟩
  · have hne : ((n : Int) != (n' : Int)) = true := by rw [bne_iff_ne]; omega
    have HB := hide (show decide (F = F') = false by
      rw [decide_eq_false_iff_not]
      rintro rfl
      exact hnn (H.out.len.symm.trans H'.out.len))
    rw [HB.out]
    clear hnn
    go_enter Try.func33, Try.ntmps33
    go_wp2_with fail
    go_ret
    exact ⟨rfl, Below.refl _ _⟩

set_option maxHeartbeats 400000 in
theorem mchsame_any (Al : Int) (A : Option Addr) (n c : Nat) (hs : List Fd) (F : Tg) (Al' : Int) (A' : Option Addr) (n' c' : Nat) (hs' : List Fd) (F' : Tg) (lo lo' B B' : Nat) (w : World) (H : Hid (TgAt w lo B A n c hs F)) (H' : Hid (TgAt w lo' B' A' n' c' hs' F')) (hB : B ≤ w.heap.size) (hB' : B' ≤ w.heap.size) :
    Calls Try.prog 18 #[tv Al A n c, tv Al' A' n' c'] w (BoolBelow (decide (Al = Al' ∧ F = F')) w) := by
  have k1 : ∀ W, Below w.heap.size w W → Calls Try.prog 33 #[.slice A n c, .slice A' n' c', .func (.func 34) #[] #[]] W (BoolBelow (decide (F = F')) W) := fun W hW => eqframes_any A n c hs F A' n' c' hs' F' lo lo' B B' W (hide (H.out.below (hW.mono hB))) (hide (H'.out.below (hW.mono hB'))) (Nat.le_trans hB hW.size) (Nat.le_trans hB' hW.size)
  obtain ⟨b, hb⟩ : ∃ b, decide (F = F') = b := ⟨_, rfl⟩
  rw [hb] at k1
  have HB := hide (show decide (Al = Al' ∧ F = F') = (decide (Al = Al') && b) by rw [← hb, Bool.decide_and])
  have K1 := hide k1
  clear k1 hb
  by_cases e1 : Al = Al'
  · subst e1
    go_enter Try.func18, Try.ntmps18
    go_wp2_with fail
    refine (K1.out _ (below2 _ _ _)).mono ?_
    rintro e w' ⟨rfl, hw'⟩
    go_wp2_with fail
    go_ret
    exact ⟨ret_bool (by rw [HB.out]; simp), below_call (below2 _ _ _) hw'⟩
  · have hne : (Al == Al') = false := by simpa using e1
    have HB' := hide (show decide (Al = Al' ∧ F = F') = false by simp [e1])
    clear e1 HB
    go_enter Try.func18, Try.ntmps18
    go_wp2_with fail
    go_ret
    exact ⟨ret_bool HB'.out.symm, below2 _ _ _⟩
end Go.Proofs.Ytjgoldlebmfiiaa
end
