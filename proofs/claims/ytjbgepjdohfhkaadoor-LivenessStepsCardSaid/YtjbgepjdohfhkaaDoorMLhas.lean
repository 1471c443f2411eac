import Derived.Test.YtjbgepjdohfhkaaDoorMKit
import Derived.Test.YtjbgepjdohfhkaaDoorMBlists
import Derived.Test.YtjbgepjdohfhkaaDoorMLsam
set_option linter.unusedVariables false
set_option linter.unusedSimpArgs false
section
/-
  The contract of spillframeref04.Has: whether a number is in a list of ints. Conditions: those of the types.
-/
namespace Go.Proofs.YtjbgepjdohfhkaaDoor
open Go.RowKit

theorem rhas_any (A : Option Addr) (n c : Nat) (zs : List Int) (x : Int) (w : World) (h : Hid (Lst w A n zs)) :
    Calls Tryd.prog 56 #[.slice A n c, .int .i64 x] w fun e w' => e = .returned (.bool (hasB zs x)) ∧ w = w' := by
  have hl := h.out.le
  have HB := hide (show hasB zs x = decide (x ∈ zs) from rfl)
  go_enter Tryd.func56, Tryd.ntmps56
  go_wp2_with fail
  go_loop [5] (fun i => ∃ k : Nat, k ≤ n ∧ i = .int .i64 k ∧ Hid (x ∉ zs.take k)) (fun i => n - (intOf i).toNat)
  case atStart => exact ⟨0, by omega, rfl, hide (by simp)⟩
  case round =>
    obtain ⟨k, hk, rfl, hT⟩ := hrel
    by_cases hlt : k < n
    · have l1 : k < zs.length := by have := h.out.len; omega
      obtain ⟨b1, o1, rfl, _, hc1⟩ := int_at h.out.see l1
      have N1 := hide (fun heq : zs[k] = x => (show hasB zs x = true by unfold hasB; rw [decide_eq_true_iff, ← heq]; exact List.getElem_mem l1))
      have N2 := hide (fun hne : zs[k] ≠ x => (show x ∉ zs.take (k + 1) by
        rw [take_snoc l1, List.mem_append, List.mem_singleton]
        rintro (h1 | h1)
        · exact hT.out h1
        · exact hne h1.symm))
      generalize zs[k] = y at hc1 N1 N2
      clear l1
      by_cases hxy : y = x
      · subst hxy
        have H1 := hide (N1.out rfl)
        clear N1 N2
        go_wp2_with fail
        go_ret
        exact ⟨by rw [H1.out]; rfl, rfl⟩
      · have hne : (y == x) = false := by rw [beq_eq_false_iff_ne]; exact hxy
        have H2 := hide (N2.out hxy)
        clear N1 N2 hxy
        go_wp2_with fail
        go_round
        case rel => exact ⟨k + 1, by omega, by go_num, H2⟩
        case measure => simp [intOf]; omega
    · obtain rfl : k = n := by omega
      have H1 := hide (show hasB zs x = false by
        have h1 := hT.out
        rw [List.take_of_length_le (by have := h.out.len; omega)] at h1
        exact decide_eq_false h1)
      go_wp2_with fail
      go_ret
      exact ⟨by rw [H1.out]; rfl, rfl⟩

end Go.Proofs.YtjbgepjdohfhkaaDoor
end

section
/-
  The contract of the reference's minus on lists of ints. Condition: at most 2^40 ints.
-/
namespace Go.Proofs.YtjbgepjdohfhkaaDoor
open Go.RowKit
set_option maxHeartbeats 1000000 in
theorem rminus_any (A : Option Addr) (n c : Nat) (zs : List Int) (A' : Option Addr) (n' c' : Nat) (ys : List Int) (w : World) (h : Hid (Lst w A n zs)) (h' : Hid (Lst w A' n' ys)) (hm : n ≤ 1099511627776) :
    Calls Tryd.prog 32 #[.slice A n c, .slice A' n' c'] w (OutPost (minusL zs ys) w) := by
  obtain ⟨i0, hi, hz0, hz1, hz2⟩ := info_parts infoI
  have HR := hide (show minusL zs ys = zs.filter (fun z => !decide (z ∈ ys)) from rfl)
  rw [HR.out]
  obtain ⟨p, ep⟩ : ∃ p : Int → Bool, p = fun z => !decide (z ∈ ys) := ⟨_, rfl⟩
  rw [← ep]
  have HP := hide (fun z => congrFun ep z)
  clear ep HR
  go_enter Tryd.func32, Tryd.ntmps32
  go_wp2_with fail
  go_loopw [5, 6] (fun v i wr => Hid (FilRel w p zs n v i wr)) (fun _ i _ => n - (intOf i).toNat)
  case atStart => exact hide ⟨0, [], by omega, rfl, by simp, IntRel.start w w (Below.refl _ _)⟩
  case round =>
    obtain ⟨k, l, hk, rfl, hlf, hL⟩ := hrel.out
    have HL := hide hL
    have hll : l.length ≤ k := FilRel.len hlf
    have HF := hide hlf
    have hs : wr.heap.size ≥ w.heap.size := hL.2.size
    clear hrel hL hlf
    by_cases hlt : k < n
    · have l1 : k < zs.length := by have := h.out.len; omega
      obtain ⟨b1, o1, rfl, _, hc0⟩ := int_at h.out.see l1
      have hc1 := keep_cellB HL.out.2 hc0
      have HK := hide (take_snoc l1)
      generalize zs[k] = y at hc0 hc1 HK
      have ho := HL.out.1
      have HPy := hide (HP.out y)
      have N1 := hide (fun hy : p y = true => (show l ++ [y] = (zs.take (k + 1)).filter p by rw [HK.out, filter_snoc, if_pos hy, HF.out]))
      have N2 := hide (fun hy : p y = false => (show l = (zs.take (k + 1)).filter p by rw [HK.out, filter_snoc, if_neg (by rw [hy]; simp), HF.out]))
      clear l1 hc0
      have ch := rhas_any A' n' c' ys y wr (hide (h'.out.below HL.out.2))
      cases hv : hasB ys y with
      | true =>
        have HV := hide hv
        clear hv
        have HY := hide (N2.out (by rw [HPy.out, show decide (y ∈ ys) = hasB ys y from rfl, HV.out]; try rfl))
        rw [HV.out] at ch
        clear N1 N2 ho
        go_wp2_with fail
        refine ch.mono ?_
        rintro e w' ⟨rfl, rfl⟩
        clear ch
        go_wp2_with fail
        go_roundw
        case rel => exact hide ⟨k + 1, l, by omega, by go_num, HY.out, HL.out⟩
        case measure => simp [intOf]; omega
      | false =>
        have HV := hide hv
        clear hv
        have HY := hide (N1.out (by rw [HPy.out, show decide (y ∈ ys) = hasB ys y from rfl, HV.out]; try rfl))
        rw [HV.out] at ch
        clear N1 N2
        go_wp2_with fail
        refine ch.mono ?_
        rintro e w' ⟨rfl, rfl⟩
        clear ch
        go_wp2_with (at_builtin; refine wpList_append_own _ rfl (.tmp 20) (.tmp 25) 42 rfl w.heap.size 3 i0 (.int .i64 0) 1 8 Tryd.underlying42 hi hz0 hz1 hz2 rfl (by decide) _ l.length (cellsI l) rfl (ho.alloc _) ⟨wr.heap.size, 0, none⟩ 1 1 [.int .i64 y] rfl rfl (one_new _ _ _) (one_cell _) (by unfold maxLen; omega) (by omega) (by simp; omega) ?_)
        intro v' w4 ho4 hg4 _
        have R : Hid (FilRel w p zs n v' (.int .i64 ((k : Int) + 1)) w4) := hide ⟨k + 1, l ++ [y], by omega, by go_num, HY.out, IntRel.step HL ho4 hg4⟩
        clear ho4 hg4 ho hc1
        go_wp2_with fail
        go_roundw
        case rel => exact R
        case measure => simp [intOf]; omega
    · obtain rfl : k = n := by omega
      have HK := hide (show l = zs.filter p by rw [HF.out, List.take_of_length_le (by have := h.out.len; omega)])
      obtain ⟨A2, c2, rfl, hA, hP⟩ := HL.out.out
      have HP2 := hide hP
      clear hA hP
      go_wp2_with fail
      go_ret
      rw [← HK.out]
      exact HP2.out
section
variable {A A' : Option Addr} {n n' : Nat} {a b r : List Int} {w : World}
theorem s_minus (c c' : Nat) (h : Hid (Lst w A n a)) (h' : Hid (Lst w A' n' b)) (ha : Hid (Asc a)) (hr : Hid (minusL a b = r)) : Calls Tryd.prog 32 #[.slice A n c, .slice A' n' c'] w (OutPost r w) := by
  have := rminus_any A n c a A' n' c' b w h h' (by have := few h ha; omega)
  rwa [hr.out] at this
end
end Go.Proofs.YtjbgepjdohfhkaaDoor
end

section
/-
  The contract of the reference's within on lists of ints. Condition: at most 2^40 ints.
-/
namespace Go.Proofs.YtjbgepjdohfhkaaDoor
open Go.RowKit
theorem rwithin_any (A : Option Addr) (n c : Nat) (zs : List Int) (A' : Option Addr) (n' c' : Nat) (ys : List Int) (w : World) (h : Hid (Lst w A n zs)) (h' : Hid (Lst w A' n' ys)) (hm : n ≤ 1099511627776) :
    Calls Tryd.prog 16 #[.slice A n c, .slice A' n' c'] w fun e w' => e = .returned (.bool (decide (minusL zs ys = []))) ∧ Below w.heap.size w w' := by
  obtain ⟨l, el⟩ : ∃ l, minusL zs ys = l := ⟨_, rfl⟩
  have cm := rminus_any A n c zs A' n' c' ys w h h' hm
  rw [el] at cm ⊢
  clear el
  generalize hb : decide (l = []) = b
  have hB : ((l.length : Int) == 0) = b := by
    rw [← hb, Bool.eq_iff_iff, decide_eq_true_iff, beq_iff_eq, ← List.length_eq_zero_iff]
    omega
  clear hb
  go_enter Tryd.func16, Tryd.ntmps16
  go_wp2_with fail
  refine cm.mono ?_
  rintro e w' ⟨A2, c2, rfl, -, hb2⟩
  have HB2 := hide hb2
  clear hb2 cm
  generalize l.length = m at hB
  go_wp2_with fail
  go_ret
  exact ⟨rfl, HB2.out⟩
section
variable {A A' : Option Addr} {n n' : Nat} {a b r : List Int} {w : World}
theorem s_within (c c' : Nat) {v : Bool} (h : Hid (Lst w A n a)) (h' : Hid (Lst w A' n' b)) (ha : Hid (Asc a)) (hr : Hid (decide (minusL a b = []) = v)) : Calls Tryd.prog 16 #[.slice A n c, .slice A' n' c'] w fun e w' => e = .returned (.bool v) ∧ Below w.heap.size w w' := by
  have := rwithin_any A n c a A' n' c' b w h h' (by have := few h ha; omega)
  rwa [hr.out] at this
end
end Go.Proofs.YtjbgepjdohfhkaaDoor
end
