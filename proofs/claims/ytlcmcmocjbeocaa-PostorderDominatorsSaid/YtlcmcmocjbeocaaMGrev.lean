import Derived.Test.YtlcmcmocjbeocaaMGdpt
set_option linter.unusedVariables false
set_option linter.unusedSimpArgs false
section
/-
  The contracts of slices.Reverse at a row of ints that the call owns, and of postorder.Order. Conditions: those of the types; of Order also: the function is right and has an instruction.
-/
namespace Go.Proofs.Ytlcmcmocjbeocaa
open Go.RowKit

/-- A list, i of whose pairs from outside inward have been exchanged. -/
def revL (zs : List Int) (i : Nat) : List Int := (List.range zs.length).map fun p => if p < i ∨ zs.length - i ≤ p then zs.getD (zs.length - 1 - p) 0 else zs.getD p 0
theorem revL_len (zs : List Int) (i : Nat) : (revL zs i).length = zs.length := by simp [revL]
theorem revL_at {zs : List Int} {i p : Nat} (h : p < zs.length) : (revL zs i)[p]? = some (if p < i ∨ zs.length - i ≤ p then zs.getD (zs.length - 1 - p) 0 else zs.getD p 0) := by simp [revL, h]
theorem revL_zero (zs : List Int) : revL zs 0 = zs := by
  refine List.ext_getElem? fun p => ?_
  by_cases h : p < zs.length
  · rw [revL_at h, if_neg (by omega), List.getElem?_eq_getElem h]; simp [h]
  · rw [List.getElem?_eq_none (by rw [revL_len]; omega), List.getElem?_eq_none (by omega)]
theorem revL_end (zs : List Int) (i : Nat) (hi : zs.length ≤ 2 * i + 1) : revL zs i = zs.reverse := by
  refine List.ext_getElem? fun p => ?_
  by_cases h : p < zs.length
  · rw [revL_at h, List.getElem?_reverse h, List.getElem?_eq_getElem (by omega)]
    by_cases c : p < i ∨ zs.length - i ≤ p
    · rw [if_pos c]; simp [show zs.length - 1 - p < zs.length by omega]
    · have e : zs.length - 1 - p = p := by omega
      rw [if_neg c]; simp only [e]; simp [h]
  · rw [List.getElem?_eq_none (by rw [revL_len]; omega), List.getElem?_eq_none (by rw [List.length_reverse]; omega)]
theorem revL_step (zs : List Int) (i : Nat) (hi : 2 * i + 1 < zs.length) : ((revL zs i).set i (zs.getD (zs.length - 1 - i) 0)).set (zs.length - 1 - i) (zs.getD i 0) = revL zs (i + 1) := by
  refine List.ext_getElem? fun p => ?_
  by_cases h : p < zs.length
  · rw [List.getElem?_set, List.getElem?_set, List.length_set, revL_len, revL_at h, revL_at h]
    by_cases c1 : zs.length - 1 - i = p
    · rw [if_pos c1, if_pos (by omega), if_pos (by omega), show zs.length - 1 - p = i by omega]
    · rw [if_neg c1]
      by_cases c2 : i = p
      · rw [if_pos c2, if_pos (by omega), if_pos (by omega), c2]
      · rw [if_neg c2]
        by_cases c3 : p < i ∨ zs.length - i ≤ p
        · rw [if_pos c3, if_pos (by omega)]
        · rw [if_neg c3, if_neg (by omega)]
  · rw [List.getElem?_eq_none (by simp [revL_len]; omega), List.getElem?_eq_none (by rw [revL_len]; omega)]
theorem cellsI_set (zs : List Int) (k : Nat) (x : Int) : (cellsI zs).set k (.int .i64 x) = cellsI (zs.set k x) := by simp [cellsI, List.map_set]
/-- How Reverse returns. -/
def RevPost (base : Nat) (v : Value) (zs : List Int) (w : World) (e : Ending) (w' : World) : Prop :=
  e = .returned (.tuple #[]) ∧ w'.ownsRow base 3 1 v zs.length (cellsI zs.reverse) ∧ w.grownBy w' v.ownBlock
theorem grown_refl (w : World) (r : Option Nat) : w.grownBy w r := ⟨rfl, rfl, rfl, Nat.le_refl _, fun _ _ _ => rfl⟩
theorem grown_drew {w w' : World} {r : Option Nat} (h : w.grownBy w' r) : w.grownBy w'.drew r := ⟨h.os, h.tape, h.output, h.size, h.block⟩
set_option maxRecDepth 100000 in
set_option maxHeartbeats 4000000 in
theorem reverse_any (base : Nat) (v : Value) (zs : List Int) (w : World) (h : Hid (w.ownsRow base 3 1 v zs.length (cellsI zs))) (hm : zs.length ≤ 1000000) :
    Calls Try.prog 26 #[v] w (RevPost base v zs w) := by
  rcases Nat.eq_zero_or_pos zs.length with h0 | h0
  · have hz : zs = [] := List.length_eq_zero_iff.1 h0
    subst hz
    obtain ⟨A, c, rfl, -, -⟩ := own_form h.out
    go_enter Try.func26, Try.ntmps26
    go_wp2_with fail
    go_loopg [2, 3] 0 (fun _ s2 s3 wr => s2 = .int .i64 0 ∧ s3 = .int .i64 (-1) ∧ wr = w)
    case atStart => exact ⟨rfl, rfl, rfl⟩
    case round =>
      obtain ⟨rfl, rfl, rfl⟩ := hrel
      go_wp2_with fail
      go_end0
      exact ⟨rfl, h.out, grown_refl _ _⟩
  · obtain ⟨g, c, rfl, hbg, hgl, hcap, hcm⟩ := own_block h.out h0
    have HF := hide (fun i hi => revL_end zs i hi)
    have HST := hide (fun i hi => revL_step zs i hi)
    have hwn : IntKind.i64.wrap ((zs.length : Int) - 1) = ((zs.length - 1 : Nat) : Int) := by rw [IntKind.wrap_i64]; omega
    obtain ⟨n, hn⟩ : ∃ n, zs.length = n := ⟨_, rfl⟩
    have HZ := hide hn
    rw [hn] at hwn h0 hm ⊢
    unfold RevPost
    rw [hn]
    clear hn hcap hcm hbg hgl
    go_enter Try.func26, Try.ntmps26
    go_wp2_with fail
    go_loopg [2, 3] n (fun gg s2 s3 wr => ∃ i : Nat, s2 = .int .i64 (i : Int) ∧ s3 = .int .i64 ((n - 1 - i : Nat) : Int) ∧ 2 * i ≤ n ∧ n - i ≤ gg ∧ Hid (wr.ownsRow base 3 1 (.slice (some ⟨g, 0, none⟩) n c) n (cellsI (revL zs i))) ∧ Hid (w.grownBy wr (some g)))
    case atStart => exact ⟨0, rfl, rfl, by omega, by omega, hide (by rw [revL_zero, ← HZ.out]; exact h.out), hide (grown_refl _ _)⟩
    case round =>
      obtain ⟨i, rfl, rfl, hin, hgg, hO, hG⟩ := hrel
      have hjn : i + (n - 1 - i) + 1 = n := by omega
      obtain ⟨j, hj⟩ : ∃ j, n - 1 - i = j := ⟨_, rfl⟩
      rw [hj] at hjn ⊢
      by_cases hlt : i < j
      · have hd : ((i : Int) < (j : Int)) := by omega
        have hj0 : (0 : Int) ≤ (j : Int) := by omega
        have hj1 : (j : Int) < (n : Int) := by omega
        have hi0 : (0 : Int) ≤ (i : Int) := by omega
        have hi1 : (i : Int) < (n : Int) := by omega
        have hwi : IntKind.i64.wrap ((i : Int) + 1) = (i : Int) + 1 := by rw [IntKind.wrap_i64]; omega
        have hwj : IntKind.i64.wrap ((j : Int) - 1) = (j : Int) - 1 := by rw [IntKind.wrap_i64]; omega
        have ei := hO.out.cellAt i (by omega)
        have ej := hO.out.cellAt j (by omega)
        have fi := hO.out.frozenAt i
        have fj := hO.out.frozenAt j
        have z1 : (cellsI (revL zs i))[i]? = some (.int .i64 (zs.getD i 0)) := by
          rw [cellsI, List.getElem?_map, revL_at (by have := HZ.out; omega), if_neg (by have := HZ.out; omega)]; rfl
        have z2 : (cellsI (revL zs i))[j]? = some (.int .i64 (zs.getD j 0)) := by
          rw [cellsI, List.getElem?_map, revL_at (by have := HZ.out; omega), if_neg (by have := HZ.out; omega)]; rfl
        rw [z1] at ei
        rw [z2] at ej
        obtain ⟨xi, hxi⟩ : ∃ x, zs.getD i 0 = x := ⟨_, rfl⟩
        obtain ⟨xj, hxj⟩ : ∃ x, zs.getD j 0 = x := ⟨_, rfl⟩
        rw [hxi] at ei
        rw [hxj] at ej
        obtain ⟨W2, hW2⟩ : ∃ W, ((wr.setCell ⟨g, i, none⟩ (.int .i64 xj)).setCell ⟨g, j, none⟩ (.int .i64 xi)).drew = W := ⟨_, rfl⟩
        have hst := HST.out i (by have := HZ.out; omega)
        rw [HZ.out, hj, hxi, hxj] at hst
        have O2 := hide (show W2.ownsRow base 3 1 (.slice (some ⟨g, 0, none⟩) n c) n (cellsI (revL zs (i + 1))) by
          have h1 := (hO.out.stored i (.int .i64 xj)).1
          have h2 := (h1.stored j (.int .i64 xi)).1
          rw [cellsI_set, cellsI_set, hst] at h2
          rw [← hW2]; exact h2)
        have G2 := hide (show w.grownBy W2 (some g) by
          rw [← hW2]
          exact grown_drew (World.grownBy.trans hG.out (World.grownBy.trans (fgrown_set _ g i _) (fgrown_set _ g j _))))
        have HW2 := hide hW2
        clear hst hW2 z1 z2 hxi hxj
        go_upto_region 3 with (fail)
        go_region
        rw [HW2.out]
        clear HW2 ei ej fi fj hO hG
        go_wp2_with fail
        go_roundg (gk - 1)
        case rel => exact ⟨i + 1, by go_num, by rw [show n - 1 - (i + 1) = j - 1 by omega, show ((j - 1 : Nat) : Int) = (j : Int) - 1 by omega], by omega, by omega, O2, G2⟩
        case measure => omega
      · have FIN := hide (show wr.ownsRow base 3 1 (.slice (some ⟨g, 0, none⟩) n c) n (cellsI zs.reverse) ∧ w.grownBy wr (some g) from ⟨by rw [← HF.out i (by have := HZ.out; omega)]; exact hO.out, hG.out⟩)
        go_wp2_with fail
        go_end0
        exact ⟨rfl, FIN.out⟩
/-- What Order hands back. -/
def OrdPost (l : List Ins) (n : Nat) (w : World) (e : Ending) (w' : World) : Prop := ∃ L, IsLft (suc l) n L ∧ OutPost (toI L.reverse) w e w'
set_option maxRecDepth 100000 in
set_option maxHeartbeats 4000000 in
theorem order_any {P : Int} {A1 : Option Addr} {n1 c1 : Nat} {A2 : Option Addr} {n2 c2 : Nat} {l : List Ins} (w : World) (hC : Hid (CdAt w A2 n2 l)) (hok : Hid (FlowOk l)) (hn1 : 1 ≤ n2) :
    Calls Try.prog 11 #[fv P A1 n1 c1 A2 n2 c2] w (OrdPost l n2 w) := by
  have hn2 := hC.out.few
  obtain ⟨W1, hW1⟩ : ∃ W, w.alloc (.cells #[.int .i64 P, .slice A1 n1 c1, .slice A2 n2 c2] 27) = W := ⟨_, rfl⟩
  have R1 := hide (show Row W1 w.heap.size 27 [.int .i64 P, .slice A1 n1 c1, .slice A2 n2 c2] by rw [← hW1]; exact Row.new w _ _)
  have B1 := hide (show Below w.heap.size w W1 by rw [← hW1]; exact below1 w _)
  have HW1 := hide hW1
  have cd := departures_any (P := P) (A1 := A1) (n1 := n1) (c1 := c1) (c2 := c2) W1 (hide (hC.out.below B1.out)) hok hn1
  clear hW1
  go_enter Try.func11, Try.ntmps11
  go_upto_region 1 with (fail)
  rw [HW1.out]
  have q0 := R1.out.cell (k := 0) rfl
  have q1 := R1.out.cell (k := 1) rfl
  have q2 := R1.out.cell (k := 2) rfl
  go_wp2_with fail
  refine cd.mono ?_
  rintro e w5 ⟨L, hL, A5, c5, rfl, ho5, hb5⟩
  have hlen : L.length ≤ n2 := by have := (hL.ord (by omega)).len; rw [List.length_reverse] at this; exact this
  have HL := hide hL
  have B5 := hide hb5
  have cr := reverse_any W1.heap.size (.slice A5 (toI L).length c5) (toI L) w5 (hide ho5) (by rw [toI_len]; omega)
  have HLT := hide (ho5.lt)
  clear hL hb5 cd q0 q1 q2
  go_wp2_with fail
  refine cr.mono ?_
  rintro e w6 ⟨rfl, ho6, hg6⟩
  have he : (toI L).reverse = toI L.reverse := by simp [toI]
  have FIN := hide (show OrdPost l n2 w (.returned (.slice A5 (toI L).length c5)) w6 from ⟨L, HL.out, A5, c5, by rw [toI_len, toI_len, List.length_reverse], by
    rw [he] at ho6
    rw [toI_len, List.length_reverse]
    rw [toI_len] at ho6
    exact own_lower ho6 B1.out.size, by
    refine below_call B1.out (B5.out.trans ⟨hg6.os, hg6.tape, hg6.output, hg6.size, fun k hk => hg6.block k (Nat.lt_of_lt_of_le hk B5.out.size) fun e => ?_⟩)
    have := (HLT.out k e.symm).1
    omega⟩)
  clear ho6 hg6 ho5 he
  go_wp2_with fail
  go_ret
  exact FIN.out
end Go.Proofs.Ytlcmcmocjbeocaa
end
