import Derived.Test.YtjbgepjdohfhkaaMLsam
import Derived.Test.YtjbgepjdohfhkaaMKit
import Derived.Test.YtjbgepjdohfhkaaMRct
import Derived.Test.YtjbgepjdohfhkaaMLeaf
import Derived.Maps.AppendAt
set_option linter.unusedVariables false
set_option linter.unusedSimpArgs false
section
/-
  What the loops of the reference's functions on sets keep. No function of the program is named here.
-/
namespace Go.Proofs.Ytjbgepjdohfhkaa
open Go.RowKit
theorem IntRel.lst {w wr : World} {l : List Int} {A : Option Addr} {c : Nat} (h : IntRel w l (.slice A l.length c) wr) (hl : l.length ≤ 9223372036854775807) (hz : ∀ z ∈ l, -9223372036854775808 ≤ z ∧ z ≤ 9223372036854775807) : Lst wr A l.length l :=
  ⟨rfl, hl, Sees.own h.1, hz⟩
theorem asc_rng {l : List Int} (h : Asc l) : ∀ z ∈ l, -9223372036854775808 ≤ z ∧ z ≤ 9223372036854775807 := fun z hz => by have := h.2 z hz; omega
theorem OutPost.rel {l : List Int} {w w' : World} {e : Ending} (h : OutPost l w e w') : ∃ A c, e = .returned (.slice A l.length c) ∧ IntRel w l (.slice A l.length c) w' := by
  obtain ⟨A, c, he, ho, hb⟩ := h
  exact ⟨A, c, he, ho, hb⟩
theorem IntRel.post {w w' : World} {l : List Int} {A : Option Addr} {c : Nat} (h : IntRel w l (.slice A l.length c) w') : OutPost l w (.returned (.slice A l.length c)) w' := ⟨A, c, rfl, h.1, h.2⟩
/-- What a loop that filters keeps. -/
def FilRel (w : World) (p : Int → Bool) (zs : List Int) (n : Nat) (v i : Value) (wr : World) : Prop :=
  ∃ (k : Nat) (l : List Int), k ≤ n ∧ i = .int .i64 k ∧ l = (zs.take k).filter p ∧ IntRel w l v wr
/-- What a loop that adds keeps. -/
def UniRel (w : World) (bas zs : List Int) (n : Nat) (v i : Value) (wr : World) : Prop :=
  ∃ (k : Nat) (l : List Int) (A : Option Addr) (c : Nat), k ≤ n ∧ i = .int .i64 k ∧ v = .slice A l.length c ∧ l = unionL bas (zs.take k) ∧ Asc l ∧ IntRel w l v wr
theorem FilRel.len {zs l : List Int} {p : Int → Bool} {k : Nat} (h : l = (zs.take k).filter p) : l.length ≤ k := by
  rw [h]
  exact Nat.le_trans (List.length_filter_le _ _) (List.length_take_le _ _)

section
variable {A A' : Option Addr} {n n' : Nat} {a b r : List Int} {w : World}
theorem few (h : Hid (Lst w A n a)) (ha : Hid (Asc a)) : n ≤ 512 := by
  have := ha.out.length
  have := h.out.len
  omega
end
/-- What a list that comes back gives. -/
theorem OutPost.open {r : List Int} {w w' : World} {e : Ending} (h : OutPost r w e w') (ha : Hid (Asc r)) : ∃ A c, e = .returned (.slice A r.length c) ∧ Hid (Lst w' A r.length r) ∧ Hid (A = none → c = 0) ∧ Below w.heap.size w w' := by
  obtain ⟨A, c, rfl, hL⟩ := h.rel
  obtain ⟨_, _, e, hA, _⟩ := own_form hL.1
  injection e with e1 _ e3
  subst e1 e3
  exact ⟨A, c, rfl, hide (hL.lst (by have := ha.out.length; omega) (asc_rng ha.out)), hide hA, hL.2⟩
end Go.Proofs.Ytjbgepjdohfhkaa
end

section
/-
  The contract of the reference's remove on lists of ints. Condition: at most 2^40 ints.
-/
namespace Go.Proofs.Ytjbgepjdohfhkaa
open Go.RowKit
set_option maxHeartbeats 1000000 in
theorem rremove_any (A : Option Addr) (n c : Nat) (zs : List Int) (x : Int) (w : World) (h : Hid (Lst w A n zs)) (hm : n ≤ 1099511627776) :
    Calls Try.prog 30 #[.slice A n c, .int .i64 x] w (OutPost (removeL zs x) w) := by
  obtain ⟨i0, hi, hz0, hz1, hz2⟩ := info_parts infoI
  have HR := hide (show removeL zs x = zs.filter (fun z => z != x) from rfl)
  rw [HR.out]
  obtain ⟨p, ep⟩ : ∃ p : Int → Bool, p = fun z => z != x := ⟨_, rfl⟩
  rw [← ep]
  have HP := hide (fun z => congrFun ep z)
  clear ep HR
  go_enter Try.func30, Try.ntmps30
  go_wp2_with fail
  go_loopw [5, 6] (fun v i wr => Hid (FilRel w p zs n v i wr)) (fun _ i _ => n - (intOf i).toNat)
  case atStart => exact hide ⟨0, [], by omega, rfl, by simp, IntRel.start w w (Below.refl _ _)⟩
  case round =>
    obtain ⟨k, l, hk, rfl, hlf, hL⟩ := hrel.out
    have HL := hide hL
    have hll : l.length ≤ k := FilRel.len hlf
    have HF := hide hlf
    have hs : wr.heap.size ≥ w.heap.size := hL.2.size
    clear hrel hL hlf
    by_cases hlt : k < n
    · have l1 : k < zs.length := by have := h.out.len; omega
      obtain ⟨b1, o1, rfl, _, hc0⟩ := int_at h.out.see l1
      have hc1 := keep_cellB HL.out.2 hc0
      have HK := hide (take_snoc l1)
      generalize zs[k] = y at hc0 hc1 HK
      have ho := HL.out.1
      have HPy := hide (HP.out y)
      have N1 := hide (fun hy : p y = true => (show l ++ [y] = (zs.take (k + 1)).filter p by rw [HK.out, filter_snoc, if_pos hy, HF.out]))
      have N2 := hide (fun hy : p y = false => (show l = (zs.take (k + 1)).filter p by rw [HK.out, filter_snoc, if_neg (by rw [hy]; simp), HF.out]))
      clear l1 hc0
      by_cases hxy : y = x
      · subst hxy
        have HY := hide (N2.out (by rw [HPy.out]; simp))
        clear N1 N2 ho
        go_wp2_with fail
        go_roundw
        case rel => exact hide ⟨k + 1, l, by omega, by go_num, HY.out, HL.out⟩
        case measure => simp [intOf]; omega
      · have hne : (y != x) = true := by rw [bne_iff_ne]; exact hxy
        have HY := hide (N1.out (by rw [HPy.out]; exact hne))
        clear N1 N2 hxy
        go_wp2_with (at_builtin; refine wpList_append_own _ rfl (.tmp 19) (.tmp 24) 38 rfl w.heap.size 3 i0 (.int .i64 0) 1 8 Try.underlying38 hi hz0 hz1 hz2 rfl (by decide) _ l.length (cellsI l) rfl (ho.alloc _) ⟨wr.heap.size, 0, none⟩ 1 1 [.int .i64 y] rfl rfl (one_new _ _ _) (one_cell _) (by unfold maxLen; omega) (by omega) (by simp; omega) ?_)
        intro v' w4 ho4 hg4 _
        have R : Hid (FilRel w p zs n v' (.int .i64 ((k : Int) + 1)) w4) := hide ⟨k + 1, l ++ [y], by omega, by go_num, HY.out, IntRel.step HL ho4 hg4⟩
        clear ho4 hg4 ho hc1
        go_wp2_with fail
        go_roundw
        case rel => exact R
        case measure => simp [intOf]; omega
    · obtain rfl : k = n := by omega
      have HK := hide (show l = zs.filter p by rw [HF.out, List.take_of_length_le (by have := h.out.len; omega)])
      obtain ⟨A2, c2, rfl, hA, hP⟩ := HL.out.out
      have HP2 := hide hP
      clear hA hP
      go_wp2_with fail
      go_ret
      rw [← HK.out]
      exact HP2.out
section
variable {A A' : Option Addr} {n n' : Nat} {a b r : List Int} {w : World}
theorem s_remove (c : Nat) {x : Int} (h : Hid (Lst w A n a)) (ha : Hid (Asc a)) (hr : Hid (removeL a x = r)) : Calls Try.prog 30 #[.slice A n c, .int .i64 x] w (OutPost r w) := by
  have := rremove_any A n c a x w h (by have := few h ha; omega)
  rwa [hr.out] at this
end
end Go.Proofs.Ytjbgepjdohfhkaa
end

section
/-
  The contract of the reference's good: whether a number can be in a set. No condition.
-/
namespace Go.Proofs.Ytjbgepjdohfhkaa
open Go.RowKit
theorem good_any (n : Int) (w : World) : Calls Try.prog 45 #[.int .i64 n] w fun e w' => e = .returned (.bool (goodB n)) ∧ w = w' := by
  by_cases h : 0 ≤ n
  · go_enter Try.func45, Try.ntmps45
    go_wp2
    go_ret
    exact ⟨ret_bool (by simp [goodB, h]), rfl⟩
  · go_enter Try.func45, Try.ntmps45
    go_wp2
    go_ret
    exact ⟨ret_bool (by simp [goodB]; omega), rfl⟩

end Go.Proofs.Ytjbgepjdohfhkaa
end
