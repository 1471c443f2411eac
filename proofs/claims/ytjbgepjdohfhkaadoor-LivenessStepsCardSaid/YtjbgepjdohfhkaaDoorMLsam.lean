import Derived.Test.YtjbgepjdohfhkaaDoorMKit
import Derived.Test.YtjbgepjdohfhkaaDoorMBlists
import Derived.Test.YtjbgepjdohfhkaaDoorMLeaf
import Derived.Deep.QuietTactic
import Derived.BigQuiet
import Derived.Maps.AppendAt
set_option linter.unusedVariables false
set_option linter.unusedSimpArgs false
section
/-
  The contract of spillframeref04.Same: whether two lists of ints are one; it only reads. Conditions: those of the types.
-/
namespace Go.Proofs.YtjbgepjdohfhkaaDoor
open Go.RowKit

/-- A way to the end that only drew. -/
def BoolPost (b : Bool) (w : World) (e : Ending) (w' : World) : Prop := e = .returned (.bool b) ∧ ∃ k, w' = w.drewN k
theorem take_ne {zs ys : List Int} {k : Nat} (h : k < zs.length) (h' : k < ys.length) (hne : zs[k] ≠ ys[k]) : decide (zs = ys) = false := by
  rw [decide_eq_false_iff_not]
  rintro rfl
  exact hne rfl

set_option maxHeartbeats 400000 in
theorem lsame_any (A : Option Addr) (n c : Nat) (zs : List Int) (A' : Option Addr) (n' c' : Nat) (ys : List Int) (w : World) (h : Hid (Lst w A n zs)) (h' : Hid (Lst w A' n' ys)) :
    Calls Tryd.prog 21 #[.slice A n c, .slice A' n' c'] w (BoolPost (decide (zs = ys)) w) := by
  have hl := h.out.le
  by_cases hnn : n = n'
  · subst hnn
    obtain ⟨b, hb⟩ : ∃ b, decide (zs = ys) = b := ⟨_, rfl⟩
    rw [hb]
    have HB := hide hb
    clear hb
    go_enter Tryd.func21, Tryd.ntmps21
    go_wp2_with fail
    go_loopw [5] (fun i wr => ∃ k : Nat, k ≤ n ∧ i = .int .i64 k ∧ Hid (zs.take k = ys.take k) ∧ ∃ m, wr = w.drewN m) (fun i _ => n - (intOf i).toNat)
    case atStart => exact ⟨0, by omega, rfl, hide rfl, 0, rfl⟩
    case round =>
      obtain ⟨k, hk, rfl, hT, m, rfl⟩ := hrel
      by_cases hlt : k < n
      · have l1 : k < zs.length := by have := h.out.len; omega
        have l2 : k < ys.length := by have := h'.out.len; omega
        obtain ⟨b1, o1, rfl, _, hc1⟩ := int_at h.out.see l1
        obtain ⟨b2, o2, rfl, _, hc2⟩ := int_at h'.out.see l2
        have N1 := hide (fun hne => take_ne l1 l2 hne)
        have N2 := hide (fun heq : zs[k] = ys[k] => (show zs.take (k + 1) = ys.take (k + 1) by rw [take_snoc l1, take_snoc l2, hT.out, heq]))
        generalize zs[k] = x at hc1 N1 N2
        generalize ys[k] = y at hc2 N1 N2
        clear l1 l2
        by_cases hxy : x = y
        · subst hxy
          have H2 := hide (N2.out rfl)
          clear N1 N2
          go_wp2_with fail
          go_quiet (fail)
          go_wp2_with fail
          go_roundw
          case rel => exact ⟨k + 1, by omega, by go_num, H2, _, rfl⟩
          case measure => simp [intOf]; omega
        · have hne : (x != y) = true := by rw [bne_iff_ne]; exact hxy
          have hB := hide (HB.out.symm.trans (N1.out hxy))
          clear N1 N2 hxy
          go_wp2_with fail
          go_quiet (fail)
          go_wp2_with fail
          go_ret
          exact ⟨by rw [hB.out]; rfl, _, World.drewN_drewN _ _ _⟩
      · obtain rfl : k = n := by omega
        have hB := hide (HB.out.symm.trans (decide_eq_true (by
          have := hT.out
          rwa [List.take_of_length_le (by have := h.out.len; omega), List.take_of_length_le (by have := h'.out.len; omega)] at this)))
        go_wp2_with fail
        go_ret
        exact ⟨by rw [hB.out]; rfl, _, rfl⟩
  · have hne : ((n : Int) != (n' : Int)) = true := by rw [bne_iff_ne]; omega
    have HB := hide (show decide (zs = ys) = false by
      rw [decide_eq_false_iff_not]
      rintro rfl
      exact hnn (h.out.len.symm.trans h'.out.len))
    rw [HB.out]
    clear hnn
    go_enter Tryd.func21, Tryd.ntmps21
    go_wp2_with fail
    go_ret
    exact ⟨rfl, 0, rfl⟩

end Go.Proofs.YtjbgepjdohfhkaaDoor
end

section
/-
  What the loops of the reference's functions on sets keep. No function of the program is named here.
-/
namespace Go.Proofs.YtjbgepjdohfhkaaDoor
open Go.RowKit
theorem IntRel.lst {w wr : World} {l : List Int} {A : Option Addr} {c : Nat} (h : IntRel w l (.slice A l.length c) wr) (hl : l.length ≤ 9223372036854775807) (hz : ∀ z ∈ l, -9223372036854775808 ≤ z ∧ z ≤ 9223372036854775807) : Lst wr A l.length l :=
  ⟨rfl, hl, Sees.own h.1, hz⟩
theorem asc_rng {l : List Int} (h : Asc l) : ∀ z ∈ l, -9223372036854775808 ≤ z ∧ z ≤ 9223372036854775807 := fun z hz => by have := h.2 z hz; omega
theorem OutPost.rel {l : List Int} {w w' : World} {e : Ending} (h : OutPost l w e w') : ∃ A c, e = .returned (.slice A l.length c) ∧ IntRel w l (.slice A l.length c) w' := by
  obtain ⟨A, c, he, ho, hb⟩ := h
  exact ⟨A, c, he, ho, hb⟩
theorem IntRel.post {w w' : World} {l : List Int} {A : Option Addr} {c : Nat} (h : IntRel w l (.slice A l.length c) w') : OutPost l w (.returned (.slice A l.length c)) w' := ⟨A, c, rfl, h.1, h.2⟩
/-- What a loop that filters keeps. -/
def FilRel (w : World) (p : Int → Bool) (zs : List Int) (n : Nat) (v i : Value) (wr : World) : Prop :=
  ∃ (k : Nat) (l : List Int), k ≤ n ∧ i = .int .i64 k ∧ l = (zs.take k).filter p ∧ IntRel w l v wr
/-- What a loop that adds keeps. -/
def UniRel (w : World) (bas zs : List Int) (n : Nat) (v i : Value) (wr : World) : Prop :=
  ∃ (k : Nat) (l : List Int) (A : Option Addr) (c : Nat), k ≤ n ∧ i = .int .i64 k ∧ v = .slice A l.length c ∧ l = unionL bas (zs.take k) ∧ Asc l ∧ IntRel w l v wr
theorem FilRel.len {zs l : List Int} {p : Int → Bool} {k : Nat} (h : l = (zs.take k).filter p) : l.length ≤ k := by
  rw [h]
  exact Nat.le_trans (List.length_filter_le _ _) (List.length_take_le _ _)

section
variable {A A' : Option Addr} {n n' : Nat} {a b r : List Int} {w : World}
theorem few (h : Hid (Lst w A n a)) (ha : Hid (Asc a)) : n ≤ 512 := by
  have := ha.out.length
  have := h.out.len
  omega
end
/-- What a list that comes back gives. -/
theorem OutPost.open {r : List Int} {w w' : World} {e : Ending} (h : OutPost r w e w') (ha : Hid (Asc r)) : ∃ A c, e = .returned (.slice A r.length c) ∧ Hid (Lst w' A r.length r) ∧ Hid (A = none → c = 0) ∧ Below w.heap.size w w' := by
  obtain ⟨A, c, rfl, hL⟩ := h.rel
  obtain ⟨_, _, e, hA, _⟩ := own_form hL.1
  injection e with e1 _ e3
  subst e1 e3
  exact ⟨A, c, rfl, hide (hL.lst (by have := ha.out.length; omega) (asc_rng ha.out)), hide hA, hL.2⟩
end Go.Proofs.YtjbgepjdohfhkaaDoor
end

section
/-
  The contract of the reference's remove on lists of ints. Condition: at most 2^40 ints.
-/
namespace Go.Proofs.YtjbgepjdohfhkaaDoor
open Go.RowKit
set_option maxHeartbeats 1000000 in
theorem rremove_any (A : Option Addr) (n c : Nat) (zs : List Int) (x : Int) (w : World) (h : Hid (Lst w A n zs)) (hm : n ≤ 1099511627776) :
    Calls Tryd.prog 41 #[.slice A n c, .int .i64 x] w (OutPost (removeL zs x) w) := by
  obtain ⟨i0, hi, hz0, hz1, hz2⟩ := info_parts infoI
  have HR := hide (show removeL zs x = zs.filter (fun z => z != x) from rfl)
  rw [HR.out]
  obtain ⟨p, ep⟩ : ∃ p : Int → Bool, p = fun z => z != x := ⟨_, rfl⟩
  rw [← ep]
  have HP := hide (fun z => congrFun ep z)
  clear ep HR
  go_enter Tryd.func41, Tryd.ntmps41
  go_wp2_with fail
  go_loopw [5, 6] (fun v i wr => Hid (FilRel w p zs n v i wr)) (fun _ i _ => n - (intOf i).toNat)
  case atStart => exact hide ⟨0, [], by omega, rfl, by simp, IntRel.start w w (Below.refl _ _)⟩
  case round =>
    obtain ⟨k, l, hk, rfl, hlf, hL⟩ := hrel.out
    have HL := hide hL
    have hll : l.length ≤ k := FilRel.len hlf
    have HF := hide hlf
    have hs : wr.heap.size ≥ w.heap.size := hL.2.size
    clear hrel hL hlf
    by_cases hlt : k < n
    · have l1 : k < zs.length := by have := h.out.len; omega
      obtain ⟨b1, o1, rfl, _, hc0⟩ := int_at h.out.see l1
      have hc1 := keep_cellB HL.out.2 hc0
      have HK := hide (take_snoc l1)
      generalize zs[k] = y at hc0 hc1 HK
      have ho := HL.out.1
      have HPy := hide (HP.out y)
      have N1 := hide (fun hy : p y = true => (show l ++ [y] = (zs.take (k + 1)).filter p by rw [HK.out, filter_snoc, if_pos hy, HF.out]))
      have N2 := hide (fun hy : p y = false => (show l = (zs.take (k + 1)).filter p by rw [HK.out, filter_snoc, if_neg (by rw [hy]; simp), HF.out]))
      clear l1 hc0
      by_cases hxy : y = x
      · subst hxy
        have HY := hide (N2.out (by rw [HPy.out]; simp))
        clear N1 N2 ho
        go_wp2_with fail
        go_roundw
        case rel => exact hide ⟨k + 1, l, by omega, by go_num, HY.out, HL.out⟩
        case measure => simp [intOf]; omega
      · have hne : (y != x) = true := by rw [bne_iff_ne]; exact hxy
        have HY := hide (N1.out (by rw [HPy.out]; exact hne))
        clear N1 N2 hxy
        go_wp2_with (at_builtin; refine wpList_append_own _ rfl (.tmp 19) (.tmp 24) 42 rfl w.heap.size 3 i0 (.int .i64 0) 1 8 Tryd.underlying42 hi hz0 hz1 hz2 rfl (by decide) _ l.length (cellsI l) rfl (ho.alloc _) ⟨wr.heap.size, 0, none⟩ 1 1 [.int .i64 y] rfl rfl (one_new _ _ _) (one_cell _) (by unfold maxLen; omega) (by omega) (by simp; omega) ?_)
        intro v' w4 ho4 hg4 _
        have R : Hid (FilRel w p zs n v' (.int .i64 ((k : Int) + 1)) w4) := hide ⟨k + 1, l ++ [y], by omega, by go_num, HY.out, IntRel.step HL ho4 hg4⟩
        clear ho4 hg4 ho hc1
        go_wp2_with fail
        go_roundw
        case rel => exact R
        case measure => simp [intOf]; omega
    · obtain rfl : k = n := by omega
      have HK := hide (show l = zs.filter p by rw [HF.out, List.take_of_length_le (by have := h.out.len; omega)])
      obtain ⟨A2, c2, rfl, hA, hP⟩ := HL.out.out
      have HP2 := hide hP
      clear hA hP
      go_wp2_with fail
      go_ret
      rw [← HK.out]
      exact HP2.out
section
variable {A A' : Option Addr} {n n' : Nat} {a b r : List Int} {w : World}
theorem s_remove (c : Nat) {x : Int} (h : Hid (Lst w A n a)) (ha : Hid (Asc a)) (hr : Hid (removeL a x = r)) : Calls Tryd.prog 41 #[.slice A n c, .int .i64 x] w (OutPost r w) := by
  have := rremove_any A n c a x w h (by have := few h ha; omega)
  rwa [hr.out] at this
end
end Go.Proofs.YtjbgepjdohfhkaaDoor
end

section
/-
  The contract of the reference's good: whether a number can be in a set. No condition.
-/
namespace Go.Proofs.YtjbgepjdohfhkaaDoor
open Go.RowKit
theorem good_any (n : Int) (w : World) : Calls Tryd.prog 60 #[.int .i64 n] w fun e w' => e = .returned (.bool (goodB n)) ∧ w = w' := by
  by_cases h : 0 ≤ n
  · go_enter Tryd.func60, Tryd.ntmps60
    go_wp2
    go_ret
    exact ⟨ret_bool (by simp [goodB, h]), rfl⟩
  · go_enter Tryd.func60, Tryd.ntmps60
    go_wp2
    go_ret
    exact ⟨ret_bool (by simp [goodB]; omega), rfl⟩

end Go.Proofs.YtjbgepjdohfhkaaDoor
end
