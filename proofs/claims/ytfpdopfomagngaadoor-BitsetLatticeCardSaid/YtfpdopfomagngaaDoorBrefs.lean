/-
  The contracts of the reference's Remove, Meet, Minus, Of, Union, Within on lists of ints. Condition: at most 2^40 ints.
-/
import Derived.Test.YtfpdopfomagngaaDoorBref
namespace Go.Proofs.YtfpdopfomagngaaDoor
open Go.RowKit

theorem IntRel.lst {w wr : World} {l : List Int} {A : Option Addr} {c : Nat} (h : IntRel w l (.slice A l.length c) wr) (hl : l.length ≤ 9223372036854775807) (hz : ∀ z ∈ l, -9223372036854775808 ≤ z ∧ z ≤ 9223372036854775807) : Lst wr A l.length l :=
  ⟨rfl, hl, Sees.own h.1, hz⟩
theorem asc_rng {l : List Int} (h : Asc l) : ∀ z ∈ l, -9223372036854775808 ≤ z ∧ z ≤ 9223372036854775807 := fun z hz => by have := h.2 z hz; omega
theorem OutPost.rel {l : List Int} {w w' : World} {e : Ending} (h : OutPost l w e w') : ∃ A c, e = .returned (.slice A l.length c) ∧ IntRel w l (.slice A l.length c) w' := by
  obtain ⟨A, c, he, ho, hb⟩ := h
  exact ⟨A, c, he, ho, hb⟩
theorem IntRel.post {w w' : World} {l : List Int} {A : Option Addr} {c : Nat} (h : IntRel w l (.slice A l.length c) w') : OutPost l w (.returned (.slice A l.length c)) w' := ⟨A, c, rfl, h.1, h.2⟩
/-- What a loop that filters keeps. -/
def FilRel (w : World) (p : Int → Bool) (zs : List Int) (n : Nat) (v i : Value) (wr : World) : Prop :=
  ∃ (k : Nat) (l : List Int), k ≤ n ∧ i = .int .i64 k ∧ l = (zs.take k).filter p ∧ IntRel w l v wr
/-- What a loop that adds keeps. -/
def UniRel (w : World) (bas zs : List Int) (n : Nat) (v i : Value) (wr : World) : Prop :=
  ∃ (k : Nat) (l : List Int) (A : Option Addr) (c : Nat), k ≤ n ∧ i = .int .i64 k ∧ v = .slice A l.length c ∧ l = unionL bas (zs.take k) ∧ Asc l ∧ IntRel w l v wr
theorem FilRel.len {zs l : List Int} {p : Int → Bool} {k : Nat} (h : l = (zs.take k).filter p) : l.length ≤ k := by
  rw [h]
  exact Nat.le_trans (List.length_filter_le _ _) (List.length_take_le _ _)

set_option maxHeartbeats 1000000 in
theorem rremove_any (A : Option Addr) (n c : Nat) (zs : List Int) (x : Int) (w : World) (h : Hid (Lst w A n zs)) (hm : n ≤ 1099511627776) :
    Calls Tryd.prog 23 #[.slice A n c, .int .i64 x] w (OutPost (removeL zs x) w) := by
  obtain ⟨i0, hi, hz0, hz1, hz2⟩ := info_parts infoI
  have HR := hide (show removeL zs x = zs.filter (fun z => z != x) from rfl)
  rw [HR.out]
  obtain ⟨p, ep⟩ : ∃ p : Int → Bool, p = fun z => z != x := ⟨_, rfl⟩
  rw [← ep]
  have HP := hide (fun z => congrFun ep z)
  clear ep HR
  go_enter Tryd.func23, Tryd.ntmps23
  go_wp2_with fail
  go_loopw [5, 6] (fun v i wr => Hid (FilRel w p zs n v i wr)) (fun _ i _ => n - (intOf i).toNat)
  case atStart => exact hide ⟨0, [], by omega, rfl, by simp, IntRel.start w w (Below.refl _ _)⟩
  case round =>
    obtain ⟨k, l, hk, rfl, hlf, hL⟩ := hrel.out
    have HL := hide hL
    have hll : l.length ≤ k := FilRel.len hlf
    have HF := hide hlf
    have hs : wr.heap.size ≥ w.heap.size := hL.2.size
    clear hrel hL hlf
    by_cases hlt : k < n
    · have l1 : k < zs.length := by have := h.out.len; omega
      obtain ⟨b1, o1, rfl, _, hc0⟩ := int_at h.out.see l1
      have hc1 := keep_cellB HL.out.2 hc0
      have HK := hide (take_snoc l1)
      generalize zs[k] = y at hc0 hc1 HK
      have ho := HL.out.1
      have HPy := hide (HP.out y)
      have N1 := hide (fun hy : p y = true => (show l ++ [y] = (zs.take (k + 1)).filter p by rw [HK.out, filter_snoc, if_pos hy, HF.out]))
      have N2 := hide (fun hy : p y = false => (show l = (zs.take (k + 1)).filter p by rw [HK.out, filter_snoc, if_neg (by rw [hy]; simp), HF.out]))
      clear l1 hc0
      by_cases hxy : y = x
      · subst hxy
        have HY := hide (N2.out (by rw [HPy.out]; simp))
        clear N1 N2 ho
        go_wp2_with fail
        go_roundw
        case rel => exact hide ⟨k + 1, l, by omega, by go_num, HY.out, HL.out⟩
        case measure => simp [intOf]; omega
      · have hne : (y != x) = true := by rw [bne_iff_ne]; exact hxy
        have HY := hide (N1.out (by rw [HPy.out]; exact hne))
        clear N1 N2 hxy
        go_wp2_with (at_builtin; refine wpList_append_own _ rfl (.tmp 19) (.tmp 24) 22 rfl w.heap.size 3 i0 (.int .i64 0) 1 8 Tryd.underlying22 hi hz0 hz1 hz2 rfl (by decide) _ l.length (cellsI l) rfl (ho.alloc _) ⟨wr.heap.size, 0, none⟩ 1 1 [.int .i64 y] rfl rfl (one_new _ _ _) (one_cell _) (by unfold maxLen; omega) (by omega) (by simp; omega) ?_)
        intro v' w4 ho4 hg4 _
        have R : Hid (FilRel w p zs n v' (.int .i64 ((k : Int) + 1)) w4) := hide ⟨k + 1, l ++ [y], by omega, by go_num, HY.out, IntRel.step HL ho4 hg4⟩
        clear ho4 hg4 ho hc1
        go_wp2_with fail
        go_roundw
        case rel => exact R
        case measure => simp [intOf]; omega
    · obtain rfl : k = n := by omega
      have HK := hide (show l = zs.filter p by rw [HF.out, List.take_of_length_le (by have := h.out.len; omega)])
      obtain ⟨A2, c2, rfl, hA, hP⟩ := HL.out.out
      have HP2 := hide hP
      clear hA hP
      go_wp2_with fail
      go_ret
      rw [← HK.out]
      exact HP2.out

set_option maxHeartbeats 1000000 in
theorem rmeet_any (A : Option Addr) (n c : Nat) (zs : List Int) (A' : Option Addr) (n' c' : Nat) (ys : List Int) (w : World) (h : Hid (Lst w A n zs)) (h' : Hid (Lst w A' n' ys)) (hm : n ≤ 1099511627776) :
    Calls Tryd.prog 27 #[.slice A n c, .slice A' n' c'] w (OutPost (meetL zs ys) w) := by
  obtain ⟨i0, hi, hz0, hz1, hz2⟩ := info_parts infoI
  have HR := hide (show meetL zs ys = zs.filter (fun z => decide (z ∈ ys)) from rfl)
  rw [HR.out]
  obtain ⟨p, ep⟩ : ∃ p : Int → Bool, p = fun z => decide (z ∈ ys) := ⟨_, rfl⟩
  rw [← ep]
  have HP := hide (fun z => congrFun ep z)
  clear ep HR
  go_enter Tryd.func27, Tryd.ntmps27
  go_wp2_with fail
  go_loopw [5, 6] (fun v i wr => Hid (FilRel w p zs n v i wr)) (fun _ i _ => n - (intOf i).toNat)
  case atStart => exact hide ⟨0, [], by omega, rfl, by simp, IntRel.start w w (Below.refl _ _)⟩
  case round =>
    obtain ⟨k, l, hk, rfl, hlf, hL⟩ := hrel.out
    have HL := hide hL
    have hll : l.length ≤ k := FilRel.len hlf
    have HF := hide hlf
    have hs : wr.heap.size ≥ w.heap.size := hL.2.size
    clear hrel hL hlf
    by_cases hlt : k < n
    · have l1 : k < zs.length := by have := h.out.len; omega
      obtain ⟨b1, o1, rfl, _, hc0⟩ := int_at h.out.see l1
      have hc1 := keep_cellB HL.out.2 hc0
      have HK := hide (take_snoc l1)
      generalize zs[k] = y at hc0 hc1 HK
      have ho := HL.out.1
      have HPy := hide (HP.out y)
      have N1 := hide (fun hy : p y = true => (show l ++ [y] = (zs.take (k + 1)).filter p by rw [HK.out, filter_snoc, if_pos hy, HF.out]))
      have N2 := hide (fun hy : p y = false => (show l = (zs.take (k + 1)).filter p by rw [HK.out, filter_snoc, if_neg (by rw [hy]; simp), HF.out]))
      clear l1 hc0
      have ch := rhas_any A' n' c' ys y wr (hide (h'.out.below HL.out.2))
      cases hv : hasB ys y with
      | true =>
        have HV := hide hv
        clear hv
        have HY := hide (N1.out (by rw [HPy.out, show decide (y ∈ ys) = hasB ys y from rfl, HV.out]; try rfl))
        rw [HV.out] at ch
        clear N1 N2
        go_wp2_with fail
        refine ch.mono ?_
        rintro e w' ⟨rfl, rfl⟩
        clear ch
        go_wp2_with (at_builtin; refine wpList_append_own _ rfl (.tmp 19) (.tmp 24) 22 rfl w.heap.size 3 i0 (.int .i64 0) 1 8 Tryd.underlying22 hi hz0 hz1 hz2 rfl (by decide) _ l.length (cellsI l) rfl (ho.alloc _) ⟨wr.heap.size, 0, none⟩ 1 1 [.int .i64 y] rfl rfl (one_new _ _ _) (one_cell _) (by unfold maxLen; omega) (by omega) (by simp; omega) ?_)
        intro v' w4 ho4 hg4 _
        have R : Hid (FilRel w p zs n v' (.int .i64 ((k : Int) + 1)) w4) := hide ⟨k + 1, l ++ [y], by omega, by go_num, HY.out, IntRel.step HL ho4 hg4⟩
        clear ho4 hg4 ho hc1
        go_wp2_with fail
        go_roundw
        case rel => exact R
        case measure => simp [intOf]; omega
      | false =>
        have HV := hide hv
        clear hv
        have HY := hide (N2.out (by rw [HPy.out, show decide (y ∈ ys) = hasB ys y from rfl, HV.out]; try rfl))
        rw [HV.out] at ch
        clear N1 N2 ho
        go_wp2_with fail
        refine ch.mono ?_
        rintro e w' ⟨rfl, rfl⟩
        clear ch
        go_wp2_with fail
        go_roundw
        case rel => exact hide ⟨k + 1, l, by omega, by go_num, HY.out, HL.out⟩
        case measure => simp [intOf]; omega
    · obtain rfl : k = n := by omega
      have HK := hide (show l = zs.filter p by rw [HF.out, List.take_of_length_le (by have := h.out.len; omega)])
      obtain ⟨A2, c2, rfl, hA, hP⟩ := HL.out.out
      have HP2 := hide hP
      clear hA hP
      go_wp2_with fail
      go_ret
      rw [← HK.out]
      exact HP2.out

set_option maxHeartbeats 1000000 in
theorem rminus_any (A : Option Addr) (n c : Nat) (zs : List Int) (A' : Option Addr) (n' c' : Nat) (ys : List Int) (w : World) (h : Hid (Lst w A n zs)) (h' : Hid (Lst w A' n' ys)) (hm : n ≤ 1099511627776) :
    Calls Tryd.prog 29 #[.slice A n c, .slice A' n' c'] w (OutPost (minusL zs ys) w) := by
  obtain ⟨i0, hi, hz0, hz1, hz2⟩ := info_parts infoI
  have HR := hide (show minusL zs ys = zs.filter (fun z => !decide (z ∈ ys)) from rfl)
  rw [HR.out]
  obtain ⟨p, ep⟩ : ∃ p : Int → Bool, p = fun z => !decide (z ∈ ys) := ⟨_, rfl⟩
  rw [← ep]
  have HP := hide (fun z => congrFun ep z)
  clear ep HR
  go_enter Tryd.func29, Tryd.ntmps29
  go_wp2_with fail
  go_loopw [5, 6] (fun v i wr => Hid (FilRel w p zs n v i wr)) (fun _ i _ => n - (intOf i).toNat)
  case atStart => exact hide ⟨0, [], by omega, rfl, by simp, IntRel.start w w (Below.refl _ _)⟩
  case round =>
    obtain ⟨k, l, hk, rfl, hlf, hL⟩ := hrel.out
    have HL := hide hL
    have hll : l.length ≤ k := FilRel.len hlf
    have HF := hide hlf
    have hs : wr.heap.size ≥ w.heap.size := hL.2.size
    clear hrel hL hlf
    by_cases hlt : k < n
    · have l1 : k < zs.length := by have := h.out.len; omega
      obtain ⟨b1, o1, rfl, _, hc0⟩ := int_at h.out.see l1
      have hc1 := keep_cellB HL.out.2 hc0
      have HK := hide (take_snoc l1)
      generalize zs[k] = y at hc0 hc1 HK
      have ho := HL.out.1
      have HPy := hide (HP.out y)
      have N1 := hide (fun hy : p y = true => (show l ++ [y] = (zs.take (k + 1)).filter p by rw [HK.out, filter_snoc, if_pos hy, HF.out]))
      have N2 := hide (fun hy : p y = false => (show l = (zs.take (k + 1)).filter p by rw [HK.out, filter_snoc, if_neg (by rw [hy]; simp), HF.out]))
      clear l1 hc0
      have ch := rhas_any A' n' c' ys y wr (hide (h'.out.below HL.out.2))
      cases hv : hasB ys y with
      | true =>
        have HV := hide hv
        clear hv
        have HY := hide (N2.out (by rw [HPy.out, show decide (y ∈ ys) = hasB ys y from rfl, HV.out]; try rfl))
        rw [HV.out] at ch
        clear N1 N2 ho
        go_wp2_with fail
        refine ch.mono ?_
        rintro e w' ⟨rfl, rfl⟩
        clear ch
        go_wp2_with fail
        go_roundw
        case rel => exact hide ⟨k + 1, l, by omega, by go_num, HY.out, HL.out⟩
        case measure => simp [intOf]; omega
      | false =>
        have HV := hide hv
        clear hv
        have HY := hide (N1.out (by rw [HPy.out, show decide (y ∈ ys) = hasB ys y from rfl, HV.out]; try rfl))
        rw [HV.out] at ch
        clear N1 N2
        go_wp2_with fail
        refine ch.mono ?_
        rintro e w' ⟨rfl, rfl⟩
        clear ch
        go_wp2_with (at_builtin; refine wpList_append_own _ rfl (.tmp 20) (.tmp 25) 22 rfl w.heap.size 3 i0 (.int .i64 0) 1 8 Tryd.underlying22 hi hz0 hz1 hz2 rfl (by decide) _ l.length (cellsI l) rfl (ho.alloc _) ⟨wr.heap.size, 0, none⟩ 1 1 [.int .i64 y] rfl rfl (one_new _ _ _) (one_cell _) (by unfold maxLen; omega) (by omega) (by simp; omega) ?_)
        intro v' w4 ho4 hg4 _
        have R : Hid (FilRel w p zs n v' (.int .i64 ((k : Int) + 1)) w4) := hide ⟨k + 1, l ++ [y], by omega, by go_num, HY.out, IntRel.step HL ho4 hg4⟩
        clear ho4 hg4 ho hc1
        go_wp2_with fail
        go_roundw
        case rel => exact R
        case measure => simp [intOf]; omega
    · obtain rfl : k = n := by omega
      have HK := hide (show l = zs.filter p by rw [HF.out, List.take_of_length_le (by have := h.out.len; omega)])
      obtain ⟨A2, c2, rfl, hA, hP⟩ := HL.out.out
      have HP2 := hide hP
      clear hA hP
      go_wp2_with fail
      go_ret
      rw [← HK.out]
      exact HP2.out

set_option maxHeartbeats 1000000 in
theorem rof_any (A : Option Addr) (n c : Nat) (zs : List Int) (w : World) (h : Hid (Lst w A n zs)) (hm : n ≤ 1099511627776) :
    Calls Tryd.prog 11 #[.slice A n c] w (OutPost (unionL [] zs) w) := by
  go_enter Tryd.func11, Tryd.ntmps11
  go_wp2_with fail
  go_loopw [3, 4] (fun v i wr => Hid (UniRel w [] zs n v i wr)) (fun _ i _ => n - (intOf i).toNat)
  case atStart => exact hide ⟨0, [], none, 0, by omega, rfl, rfl, rfl, .nil, IntRel.start w w (Below.refl _ _)⟩
  case round =>
    obtain ⟨k, l, A1, c1, hk, rfl, rfl, hlf, hasc, hL⟩ := hrel.out
    have HL := hide hL
    have HF := hide hlf
    have HA := hide hasc
    have hl1 := hasc.length
    clear hrel hL hlf hasc
    by_cases hlt : k < n
    · have l1 : k < zs.length := by have := h.out.len; omega
      obtain ⟨b1, o1, rfl, _, hc0⟩ := int_at h.out.see l1
      have hc1 := keep_cellB HL.out.2 hc0
      have HK := hide (take_snoc l1)
      generalize zs[k] = y at hc0 hc1 HK
      clear l1 hc0
      have cg := good_any y wr
      cases hg : goodB y with
      | true =>
        have HG := hide hg
        rw [hg] at cg
        clear hg
        go_wp2_with fail
        refine cg.mono ?_
        rintro e w' ⟨rfl, rfl⟩
        clear cg
        go_wp2_with fail
        refine (radd_any A1 l.length c1 l y wr (hide (HL.out.lst (by omega) (asc_rng HA.out))) (by omega)).mono ?_
        rintro e w' hP
        obtain ⟨A2, c2, rfl, hL2⟩ := (hP.lift HL.out.2).rel
        have R : Hid (UniRel w [] zs n (.slice A2 (addL l y).length c2) (.int .i64 ((k : Int) + 1)) w') := hide ⟨k + 1, addL l y, A2, c2, by omega, by go_num, rfl, by rw [HK.out, unionL_snoc, HF.out], addL_asc HA.out, hL2⟩
        clear hP hL2 hc1
        go_wp2_with fail
        go_roundw
        case rel => exact R
        case measure => simp [intOf]; omega
      | false =>
        have R : Hid (UniRel w [] zs n (.slice A1 l.length c1) (.int .i64 ((k : Int) + 1)) wr) := hide ⟨k + 1, l, A1, c1, by omega, by go_num, rfl, by rw [HK.out, unionL_snoc, addL, hg]; exact HF.out, HA.out, HL.out⟩
        rw [hg] at cg
        clear hg
        go_wp2_with fail
        refine cg.mono ?_
        rintro e w' ⟨rfl, rfl⟩
        clear cg
        go_wp2_with fail
        go_roundw
        case rel => exact R
        case measure => simp [intOf]; omega
    · obtain rfl : k = n := by omega
      have HK := hide (show l = unionL [] zs by rw [HF.out, List.take_of_length_le (by have := h.out.len; omega)])
      have HP2 := hide HL.out.post
      go_wp2_with fail
      go_ret
      rw [← HK.out]
      exact HP2.out

set_option maxHeartbeats 1000000 in
theorem runion_any (A : Option Addr) (n c : Nat) (zs : List Int) (A' : Option Addr) (n' c' : Nat) (ys : List Int) (w : World) (h : Hid (Lst w A n zs)) (h' : Hid (Lst w A' n' ys)) (hA : Hid (A = none → c = 0)) (hz : Hid (Asc zs)) (hm : n' ≤ 1099511627776) :
    Calls Tryd.prog 25 #[.slice A n c, .slice A' n' c'] w (OutPost (unionL zs ys) w) := by
  obtain ⟨i0, hi, hz0, hz1, hz2⟩ := info_parts infoI
  have hzl := hz.out.length
  have hn1 : n ≤ 512 := by have := h.out.len; omega
  have ho0 : w.ownsRow w.heap.size 3 1 (.slice none 0 0) 0 [] := ⟨rfl, .inl ⟨rfl, rfl⟩⟩
  have HLn := hide (show (cellsI zs).length = n by rw [cellsI_length]; exact h.out.len)
  have HSe := hide h.out.see
  go_enter Tryd.func25, Tryd.ntmps25
  go_wp2_with (at_builtin; refine wpList_append_sees rfl (.const (.slice none 0 0)) (.tmp 7) 22 rfl w.heap.size 3 i0 (.int .i64 0) 8 Tryd.underlying22 hi hz0 hz1 hz2 rfl _ 0 [] rfl ho0 w.heap.size A n c (cellsI zs) rfl hA HLn.out HSe.out (cellsI_one zs) (by unfold maxLen; omega) (by omega) (Nat.le_refl _) ?_)
  intro v' w4 ho4 hg4
  have HL0 : Hid (IntRel w zs v' w4) := hide ⟨by
    have := HLn.out
    rw [cellsI_length] at this
    subst this
    simpa using ho4, (Below.refl w.heap.size w).grown hg4 (Nat.le_refl _) (fun k hk => by cases hk)⟩
  obtain ⟨A1, c1, rfl, -, -⟩ := HL0.out.out
  clear ho0 ho4 hg4 HLn HSe
  go_wp2_with fail
  go_loopw [5, 6] (fun v i wr => Hid (UniRel w zs ys n' v i wr)) (fun _ i _ => n' - (intOf i).toNat)
  case atStart => exact hide ⟨0, zs, A1, c1, by omega, rfl, rfl, rfl, hz.out, HL0.out⟩
  case round =>
    clear HL0
    obtain ⟨k, l, A2, c2, hk, rfl, rfl, hlf, hasc, hL⟩ := hrel.out
    have HL := hide hL
    have HF := hide hlf
    have HA := hide hasc
    have hl1 := hasc.length
    clear hrel hL hlf hasc
    by_cases hlt : k < n'
    · have l1 : k < ys.length := by have := h'.out.len; omega
      obtain ⟨b1, o1, rfl, _, hc0⟩ := int_at h'.out.see l1
      have hc1 := keep_cellB HL.out.2 hc0
      have HK := hide (take_snoc l1)
      generalize ys[k] = y at hc0 hc1 HK
      clear l1 hc0
      have hle := h'.out.le
      go_wp2_with fail
      refine (radd_any A2 l.length c2 l y wr (hide (HL.out.lst (by omega) (asc_rng HA.out))) (by omega)).mono ?_
      rintro e w' hP
      obtain ⟨A3, c3, rfl, hL2⟩ := (hP.lift HL.out.2).rel
      have R : Hid (UniRel w zs ys n' (.slice A3 (addL l y).length c3) (.int .i64 ((k : Int) + 1)) w') := hide ⟨k + 1, addL l y, A3, c3, by omega, by go_num, rfl, by rw [HK.out, unionL_snoc, HF.out], addL_asc HA.out, hL2⟩
      clear hP hL2 hc1
      go_wp2_with fail
      go_roundw
      case rel => exact R
      case measure => simp [intOf]; omega
    · obtain rfl : k = n' := by omega
      have HK := hide (show l = unionL zs ys by rw [HF.out, List.take_of_length_le (by have := h'.out.len; omega)])
      have HP2 := hide HL.out.post
      go_wp2_with fail
      go_ret
      rw [← HK.out]
      exact HP2.out

theorem rwithin_any (A : Option Addr) (n c : Nat) (zs : List Int) (A' : Option Addr) (n' c' : Nat) (ys : List Int) (w : World) (h : Hid (Lst w A n zs)) (h' : Hid (Lst w A' n' ys)) (hm : n ≤ 1099511627776) :
    Calls Tryd.prog 31 #[.slice A n c, .slice A' n' c'] w fun e w' => e = .returned (.bool (decide (minusL zs ys = []))) ∧ Below w.heap.size w w' := by
  obtain ⟨l, el⟩ : ∃ l, minusL zs ys = l := ⟨_, rfl⟩
  have cm := rminus_any A n c zs A' n' c' ys w h h' hm
  rw [el] at cm ⊢
  clear el
  generalize hb : decide (l = []) = b
  have hB : ((l.length : Int) == 0) = b := by
    rw [← hb, Bool.eq_iff_iff, decide_eq_true_iff, beq_iff_eq, ← List.length_eq_zero_iff]
    omega
  clear hb
  go_enter Tryd.func31, Tryd.ntmps31
  go_wp2_with fail
  refine cm.mono ?_
  rintro e w' ⟨A2, c2, rfl, -, hb2⟩
  have HB2 := hide hb2
  clear hb2 cm
  generalize l.length = m at hB
  go_wp2_with fail
  go_ret
  exact ⟨rfl, HB2.out⟩

end Go.Proofs.YtfpdopfomagngaaDoor
