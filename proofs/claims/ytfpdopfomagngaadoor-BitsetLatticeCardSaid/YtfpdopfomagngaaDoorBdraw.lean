/-
  The contracts of spillframelaw04's awake and set: the sanity check; a set that is drawn. Condition: the table of TrailingZeros64 lies as its initialiser lays it (awake); a list of choices behind the pointer (set).
-/
import Derived.Test.YtfpdopfomagngaaDoorBchk
import Derived.Test.YtfpdopfomagngaaDoorDraw
namespace Go.Proofs.YtfpdopfomagngaaDoor
open Go.RowKit

theorem lst_new (w : World) (x y z : Int) (hx : -9223372036854775808 ≤ x ∧ x ≤ 9223372036854775807) (hy : -9223372036854775808 ≤ y ∧ y ≤ 9223372036854775807) (hz : -9223372036854775808 ≤ z ∧ z ≤ 9223372036854775807) :
    Lst (w.alloc (.cells #[.int .i64 x, .int .i64 y, .int .i64 z] 3)) (some ⟨w.heap.size, 0, none⟩) 3 [x, y, z] := by
  refine ⟨rfl, by omega, fun k u hu => ⟨w.heap.size, 0, rfl, by simp, ?_⟩, fun v hv => ?_⟩
  · rw [Nat.zero_add]
    exact (Row.new w 3 (cellsI [x, y, z])).cell hu
  · simp at hv
    rcases hv with rfl | rfl | rfl <;> assumption

set_option maxHeartbeats 400000 in
theorem awake_any (w : World) (hT : Hid (Tab w)) : Calls Tryd.prog 8 #[] w fun e w' => e = .returned (.bool true) ∧ Below w.heap.size w w' := by
  have hE := hide (show els (bs [3, 1, 3]) = [1, 3] by rw [els_of]; decide)
  have hH := hide (show decide (0 ≤ (3 : Int) ∧ (3 : Int) < 512 ∧ (bs [1, 3]).testBit (3 : Int).toNat = true) = true by decide)
  go_enter Tryd.func8, Tryd.ntmps8
  go_wp2_with fail
  have c0 := top_of_any (some ⟨w.heap.size, 0, none⟩) 3 3 [3, 1, 3] (w.alloc (.cells #[.int .i64 3, .int .i64 1, .int .i64 3] 3)) (hide (lst_new w 3 1 3 (by omega) (by omega) (by omega))) (hide (hT.out.below (below1 w _)))
  rw [hE.out] at c0
  refine c0.mono ?_
  rintro e w' hP
  obtain ⟨A2, c2, rfl, hL⟩ := hP.rel
  have hl := hide (hL.lst (by decide) (by decide))
  have HB := hide (below_call (below1 w (.cells #[.int .i64 3, .int .i64 1, .int .i64 3] 3)) hL.2)
  clear hP hL c0
  go_wp2_with fail
  have c1 := top_has_any A2 2 c2 [1, 3] 3 w' hl (by omega) (by omega)
  rw [hH.out] at c1
  refine c1.mono ?_
  rintro e w2 ⟨rfl, hb⟩
  have HB2 := hide (below_call HB.out hb)
  clear c1 hb
  go_wp2_with fail
  go_ret
  exact ⟨rfl, HB2.out⟩

/-- What a draw of a set leaves. -/
def SetPost (g : Nat) (w : World) (e : Ending) (w' : World) : Prop :=
  ∃ (A : Option Addr) (c : Nat) (l : List Int), e = .returned (.slice A l.length c) ∧ (A = none → c = 0) ∧ w'.ownsRow w.heap.size 3 1 (.slice A l.length c) l.length (cellsI l) ∧ Asc l ∧ Codes w' g ∧ w.grownBy w' (some g)
/-- What the loop keeps. -/
def SetRel (g : Nat) (w : World) (v i : Value) (wr : World) : Prop :=
  ∃ (k : Nat) (A : Option Addr) (c : Nat) (l : List Int), k ≤ 20 ∧ i = .int .i64 k ∧ v = .slice A l.length c ∧ (A = none → c = 0) ∧ wr.ownsRow w.heap.size 3 1 (.slice A l.length c) l.length (cellsI l) ∧ Asc l ∧ Codes wr g ∧ w.grownBy wr (some g)
theorem own_apart {wr : World} {base t size n g : Nat} {lv : Value} {xs : List Value} (ho : wr.ownsRow base t size lv n xs) (hg : g < base) : lv.ownBlock = none ∨ lv.ownBlock ≠ some g := by
  cases e : lv.ownBlock with
  | none => exact .inl rfl
  | some k => exact .inr fun h => by have := (ho.lt k e).1; injection h with h; omega
theorem own_over {wr w2 : World} {base t size n g : Nat} {lv : Value} {xs : List Value} (ho : wr.ownsRow base t size lv n xs) (hg : g < base) (hG : wr.grownBy w2 (some g)) : w2.ownsRow base t size lv n xs := ho.kept hG (own_apart ho hg)
theorem SetRel.next {g k : Nat} {w w2 w3 : World} {l : List Int} {y : Int} {A : Option Addr} {c : Nat} (hk : k ≤ 20) (hG : w.grownBy w2 (some g)) (hA : Asc l) (hC : Codes w2 g) (hL : IntRel w2 (addL l y) (.slice A (addL l y).length c) w3) : SetRel g w (.slice A (addL l y).length c) (.int .i64 k) w3 := by
  obtain ⟨_, _, e, hA', _⟩ := own_form hL.1
  injection e with e1 _ e3
  subst e1 e3
  exact ⟨k, A, c, _, hk, rfl, rfl, hA', own_lower hL.1 hG.size, addL_asc hA, hC.below hL.2, hG.trans (grown_below hL.2 _)⟩

set_option maxHeartbeats 2000000 in
theorem set_any (g : Nat) (w : World) (h : Hid (Codes w g)) : Calls Tryd.prog 15 #[.pointer (some ⟨g, 0, none⟩)] w (SetPost g w) := by
  have hgw := h.out.lt
  go_enter Tryd.func15, Tryd.ntmps15
  go_wp2_with fail
  refine (next_any g 20 w h (by omega) (by omega)).mono ?_
  rintro e w1 ⟨v, rfl, v0, v1, hC1, hG1, hz⟩
  clear hz
  obtain ⟨k, rfl⟩ := Int.eq_ofNat_of_zero_le v0
  have HR : Hid (SetRel g w (.slice none 0 0) (.int .i64 k) w1) := hide ⟨k, none, 0, [], by omega, rfl, rfl, fun _ => rfl, ⟨by simp [cellsI], .inl ⟨rfl, rfl⟩⟩, .nil, hC1, hG1⟩
  clear hC1 hG1 v0 v1
  go_wp2_with fail
  go_loopw [3, 4] (fun v i wr => Hid (SetRel g w v i wr)) (fun _ i _ => (intOf i).toNat)
  case atStart => exact HR
  case round =>
    clear HR
    obtain ⟨k, A, c, l, hk, rfl, rfl, hA, ho, hasc, hC, hG⟩ := hrel.out
    have HA := hide hA
    have HO := hide ho
    have HAs := hide hasc
    have HC := hide hC
    have HG := hide hG
    have hl1 := hasc.length
    clear hrel hA ho hasc hC hG
    by_cases hlt : 0 < k
    · obtain ⟨j, rfl⟩ : ∃ j, k = j + 1 := ⟨k - 1, by omega⟩
      have hd : decide ((0 : Int) < ((j + 1 : Nat) : Int)) = true := decide_eq_true (by omega)
      have hd2 : (0 : Int) < ((j + 1 : Nat) : Int) := by omega
      go_wp2_with fail
      refine (next_any g 30 wr HC (by omega) (by omega)).mono ?_
      rintro e w2 ⟨y, rfl, y0, y1, hC2, hG2, hz⟩
      clear hz
      have HC2 := hide hC2
      have HG2 := hide (HG.out.trans hG2)
      have HO2 := hide (own_over HO.out hgw hG2)
      clear hC2 hG2 HO HC HG
      go_wp2_with fail
      refine (next_any g 10 w2 HC2 (by omega) (by omega)).mono ?_
      rintro e w3 ⟨z, rfl, z0, z1, hC3, hG3, hz⟩
      clear hz
      have HC3 := hide hC3
      have HG3 := hide (HG2.out.trans hG3)
      have HO3 := hide (own_over HO2.out hgw hG3)
      clear hC3 hG3 HO2 HC2 HG2
      by_cases hz9 : z = 9
      · subst hz9
        go_wp2_with fail
        refine (next_any g 3 w3 HC3 (by omega) (by omega)).mono ?_
        rintro e w4 ⟨u, rfl, u0, u1, hC4, hG4, hz⟩
        clear hz
        have HC4 := hide hC4
        have HG4 := hide (HG3.out.trans hG4)
        have HO4 := hide (own_over HO3.out hgw hG4)
        clear hC4 hG4 HO3 HC3 HG3
        go_wp2_with fail
        refine (radd_any A l.length c l (511 - u) w4 (hide ⟨rfl, by omega, Sees.own HO4.out, asc_rng HAs.out⟩) (by omega)).mono ?_
        rintro e w5 hP
        obtain ⟨A5, c5, rfl, hL5⟩ := hP.rel
        have R : Hid (SetRel g w (.slice A5 (addL l (511 - u)).length c5) (.int .i64 (j : Nat)) w5) := hide (SetRel.next (by omega) HG4.out HAs.out HC4.out hL5)
        clear hP hL5
        go_wp2_with fail
        go_roundw
        case rel => first | exact R | (have e : ((j + 1 : Nat) : Int) - 1 = (j : Int) := by omega
                                       simpa [e] using R)
        case measure => simp [intOf]
      · have hne : (z == 9) = false := by rw [beq_eq_false_iff_ne]; exact hz9
        clear hz9
        go_wp2_with fail
        refine (radd_any A l.length c l y w3 (hide ⟨rfl, by omega, Sees.own HO3.out, asc_rng HAs.out⟩) (by omega)).mono ?_
        rintro e w5 hP
        obtain ⟨A5, c5, rfl, hL5⟩ := hP.rel
        have R : Hid (SetRel g w (.slice A5 (addL l y).length c5) (.int .i64 (j : Nat)) w5) := hide (SetRel.next (by omega) HG3.out HAs.out HC3.out hL5)
        clear hP hL5
        go_wp2_with fail
        go_roundw
        case rel => first | exact R | (have e : ((j + 1 : Nat) : Int) - 1 = (j : Int) := by omega
                                       simpa [e] using R)
        case measure => simp [intOf]
    · obtain rfl : k = 0 := by omega
      rw [show ((0 : Nat) : Int) = 0 from rfl]
      go_wp2_with fail
      go_ret
      exact ⟨A, c, l, rfl, HA.out, HO.out, HAs.out, HC.out, HG.out⟩
end Go.Proofs.YtfpdopfomagngaaDoor
