import Derived.Test.YtidlnecgfgnllaaDoorMBtrem
import Derived.Test.YtidlnecgfgnllaaDoorMBref
import Derived.Test.YtidlnecgfgnllaaDoorMAstm
set_option linter.unusedVariables false
set_option linter.unusedSimpArgs false
section
/-
  The contract of the reference's remove on lists of ints. Condition: at most 2^40 ints.
-/
namespace Go.Proofs.YtidlnecgfgnllaaDoor
open Go.RowKit
set_option maxHeartbeats 1000000 in
theorem rremove_any (A : Option Addr) (n c : Nat) (zs : List Int) (x : Int) (w : World) (h : Hid (Lst w A n zs)) (hm : n ≤ 1099511627776) :
    Calls Tryd.prog 22 #[.slice A n c, .int .i64 x] w (OutPost (removeL zs x) w) := by
  obtain ⟨i0, hi, hz0, hz1, hz2⟩ := info_parts infoI
  have HR := hide (show removeL zs x = zs.filter (fun z => z != x) from rfl)
  rw [HR.out]
  obtain ⟨p, ep⟩ : ∃ p : Int → Bool, p = fun z => z != x := ⟨_, rfl⟩
  rw [← ep]
  have HP := hide (fun z => congrFun ep z)
  clear ep HR
  go_enter Tryd.func22, Tryd.ntmps22
  go_wp2_with fail
  go_loopw [5, 6] (fun v i wr => Hid (FilRel w p zs n v i wr)) (fun _ i _ => n - (intOf i).toNat)
  case atStart => exact hide ⟨0, [], by omega, rfl, by simp, IntRel.start w w (Below.refl _ _)⟩
  case round =>
    obtain ⟨k, l, hk, rfl, hlf, hL⟩ := hrel.out
    have HL := hide hL
    have hll : l.length ≤ k := FilRel.len hlf
    have HF := hide hlf
    have hs : wr.heap.size ≥ w.heap.size := hL.2.size
    clear hrel hL hlf
    by_cases hlt : k < n
    · have l1 : k < zs.length := by have := h.out.len; omega
      obtain ⟨b1, o1, rfl, _, hc0⟩ := int_at h.out.see l1
      have hc1 := keep_cellB HL.out.2 hc0
      have HK := hide (take_snoc l1)
      generalize zs[k] = y at hc0 hc1 HK
      have ho := HL.out.1
      have HPy := hide (HP.out y)
      have N1 := hide (fun hy : p y = true => (show l ++ [y] = (zs.take (k + 1)).filter p by rw [HK.out, filter_snoc, if_pos hy, HF.out]))
      have N2 := hide (fun hy : p y = false => (show l = (zs.take (k + 1)).filter p by rw [HK.out, filter_snoc, if_neg (by rw [hy]; simp), HF.out]))
      clear l1 hc0
      by_cases hxy : y = x
      · subst hxy
        have HY := hide (N2.out (by rw [HPy.out]; simp))
        clear N1 N2 ho
        go_wp2_with fail
        go_roundw
        case rel => exact hide ⟨k + 1, l, by omega, by go_num, HY.out, HL.out⟩
        case measure => simp [intOf]; omega
      · have hne : (y != x) = true := by rw [bne_iff_ne]; exact hxy
        have HY := hide (N1.out (by rw [HPy.out]; exact hne))
        clear N1 N2 hxy
        go_wp2_with (at_builtin; refine wpList_append_own _ rfl (.tmp 19) (.tmp 24) 42 rfl w.heap.size 3 i0 (.int .i64 0) 1 8 Tryd.underlying42 hi hz0 hz1 hz2 rfl (by decide) _ l.length (cellsI l) rfl (ho.alloc _) ⟨wr.heap.size, 0, none⟩ 1 1 [.int .i64 y] rfl rfl (one_new _ _ _) (one_cell _) (by unfold maxLen; omega) (by omega) (by simp; omega) ?_)
        intro v' w4 ho4 hg4 _
        have R : Hid (FilRel w p zs n v' (.int .i64 ((k : Int) + 1)) w4) := hide ⟨k + 1, l ++ [y], by omega, by go_num, HY.out, IntRel.step HL ho4 hg4⟩
        clear ho4 hg4 ho hc1
        go_wp2_with fail
        go_roundw
        case rel => exact R
        case measure => simp [intOf]; omega
    · obtain rfl : k = n := by omega
      have HK := hide (show l = zs.filter p by rw [HF.out, List.take_of_length_le (by have := h.out.len; omega)])
      obtain ⟨A2, c2, rfl, hA, hP⟩ := HL.out.out
      have HP2 := hide hP
      clear hA hP
      go_wp2_with fail
      go_ret
      rw [← HK.out]
      exact HP2.out
section
variable {A A' : Option Addr} {n n' : Nat} {a b r : List Int} {w : World}
theorem s_remove (c : Nat) {x : Int} (h : Hid (Lst w A n a)) (ha : Hid (Asc a)) (hr : Hid (removeL a x = r)) : Calls Tryd.prog 22 #[.slice A n c, .int .i64 x] w (OutPost r w) := by
  have := rremove_any A n c a x w h (by have := few h ha; omega)
  rwa [hr.out] at this
end
end Go.Proofs.YtidlnecgfgnllaaDoor
end

section
/-
  The contract of the reference's union on lists of ints. Condition: at most 2^40 ints.
-/
namespace Go.Proofs.YtidlnecgfgnllaaDoor
open Go.RowKit
set_option maxHeartbeats 1000000 in
theorem runion_any (A : Option Addr) (n c : Nat) (zs : List Int) (A' : Option Addr) (n' c' : Nat) (ys : List Int) (w : World) (h : Hid (Lst w A n zs)) (h' : Hid (Lst w A' n' ys)) (hA : Hid (A = none → c = 0)) (hz : Hid (Asc zs)) (hm : n' ≤ 1099511627776) :
    Calls Tryd.prog 20 #[.slice A n c, .slice A' n' c'] w (OutPost (unionL zs ys) w) := by
  obtain ⟨i0, hi, hz0, hz1, hz2⟩ := info_parts infoI
  have hzl := hz.out.length
  have hn1 : n ≤ 512 := by have := h.out.len; omega
  have ho0 : w.ownsRow w.heap.size 3 1 (.slice none 0 0) 0 [] := ⟨rfl, .inl ⟨rfl, rfl⟩⟩
  have HLn := hide (show (cellsI zs).length = n by rw [cellsI_length]; exact h.out.len)
  have HSe := hide h.out.see
  go_enter Tryd.func20, Tryd.ntmps20
  go_wp2_with (at_builtin; refine wpList_append_sees rfl (.const (.slice none 0 0)) (.tmp 7) 42 rfl w.heap.size 3 i0 (.int .i64 0) 8 Tryd.underlying42 hi hz0 hz1 hz2 rfl _ 0 [] rfl ho0 w.heap.size A n c (cellsI zs) rfl hA HLn.out HSe.out (cellsI_one zs) (by unfold maxLen; omega) (by omega) (Nat.le_refl _) ?_)
  intro v' w4 ho4 hg4
  have HL0 : Hid (IntRel w zs v' w4) := hide ⟨by
    have := HLn.out
    rw [cellsI_length] at this
    subst this
    simpa using ho4, (Below.refl w.heap.size w).grown hg4 (Nat.le_refl _) (fun k hk => by cases hk)⟩
  obtain ⟨A1, c1, rfl, -, -⟩ := HL0.out.out
  clear ho0 ho4 hg4 HLn HSe
  go_wp2_with fail
  go_loopw [5, 6] (fun v i wr => Hid (UniRel w zs ys n' v i wr)) (fun _ i _ => n' - (intOf i).toNat)
  case atStart => exact hide ⟨0, zs, A1, c1, by omega, rfl, rfl, rfl, hz.out, HL0.out⟩
  case round =>
    clear HL0
    obtain ⟨k, l, A2, c2, hk, rfl, rfl, hlf, hasc, hL⟩ := hrel.out
    have HL := hide hL
    have HF := hide hlf
    have HA := hide hasc
    have hl1 := hasc.length
    clear hrel hL hlf hasc
    by_cases hlt : k < n'
    · have l1 : k < ys.length := by have := h'.out.len; omega
      obtain ⟨b1, o1, rfl, _, hc0⟩ := int_at h'.out.see l1
      have hc1 := keep_cellB HL.out.2 hc0
      have HK := hide (take_snoc l1)
      generalize ys[k] = y at hc0 hc1 HK
      clear l1 hc0
      have hle := h'.out.le
      go_wp2_with fail
      refine (radd_any A2 l.length c2 l y wr (hide (HL.out.lst (by omega) (asc_rng HA.out))) (by omega)).mono ?_
      rintro e w' hP
      obtain ⟨A3, c3, rfl, hL2⟩ := (hP.lift HL.out.2).rel
      have R : Hid (UniRel w zs ys n' (.slice A3 (addL l y).length c3) (.int .i64 ((k : Int) + 1)) w') := hide ⟨k + 1, addL l y, A3, c3, by omega, by go_num, rfl, by rw [HK.out, unionL_snoc, HF.out], addL_asc HA.out, hL2⟩
      clear hP hL2 hc1
      go_wp2_with fail
      go_roundw
      case rel => exact R
      case measure => simp [intOf]; omega
    · obtain rfl : k = n' := by omega
      have HK := hide (show l = unionL zs ys by rw [HF.out, List.take_of_length_le (by have := h'.out.len; omega)])
      have HP2 := hide HL.out.post
      go_wp2_with fail
      go_ret
      rw [← HK.out]
      exact HP2.out
section
variable {A A' : Option Addr} {n n' : Nat} {a b r : List Int} {w : World}
theorem s_union (c c' : Nat) (h : Hid (Lst w A n a)) (h' : Hid (Lst w A' n' b)) (hA : Hid (A = none → c = 0)) (ha : Hid (Asc a)) (hb : Hid (Asc b)) (hr : Hid (unionL a b = r)) : Calls Tryd.prog 20 #[.slice A n c, .slice A' n' c'] w (OutPost r w) := by
  have := runion_any A n c a A' n' c' b w h h' hA ha (by have := few h' hb; omega)
  rwa [hr.out] at this
end
end Go.Proofs.YtidlnecgfgnllaaDoor
end

section
/-
  The contract of the reference's In (chapter 15). Conditions: those of the types; a set of slots; what is read is one.
-/
namespace Go.Proofs.YtidlnecgfgnllaaDoor
open Go.RowKit

set_option maxHeartbeats 1000000 in
theorem rin_use (o a b c m : Int) (A : Option Addr) (n cp : Nat) (l : List Int) (w : World) (HU : Hid (Asc (usL o b))) (hL : Hid (Lst w A n l)) (HA : Hid (Asc l)) (hA : Hid (A = none → cp = 0)) :
    Calls Tryd.prog 50 #[iv o a b c m, .slice A n cp] w (OutPost (inL o a b l) w) := by
  obtain ⟨W, hW, hR, hB⟩ := ibox w o a b c m
  have HW := hide hW
  have HB := hide hB
  have HR := hide hR
  have HL := hide (hL.out.below hB)
  have HO := hide (outL_asc o a HA.out)
  have HR2 : Hid (unionL (outL o a l) (usL o b) = inL o a b l) := hide rfl
  have x0 := hR.cell (k := 0) rfl
  have x1 := hR.cell (k := 1) rfl
  have x2 := hR.cell (k := 2) rfl
  have x3 := hR.cell (k := 3) rfl
  have x4 := hR.cell (k := 4) rfl
  have cd := rdefines_any o a b c m W
  unfold DefPost at cd
  generalize inL o a b l = res at HR2 ⊢
  cases hd : defB o with
  | true =>
    rw [hd, dfI_on hd] at cd
    rw [show outL o a l = removeL l a by unfold outL; rw [if_pos hd]] at HO HR2
    clear hW hR hB hd
    go_enter Tryd.func50, Tryd.ntmps50
    go_upto_region 1 with (fail)
    rw [HW.out]
    clear HW
    go_wp2_with fail
    refine cd.mono ?_
    rintro e w1 ⟨rfl, h1⟩
    have HB1 := hide (below_call HB.out h1)
    have HR3 := hide (HR.out.call h1)
    have HL1 := hide (HL.out.below h1)
    clear h1 x0 x1 x2 x3 x4 cd
    go_wp2_with fail
    refine (s_remove cp HL1 HA (hide (Eq.refl (removeL l a)))).mono ?_
    rintro e w2 hP
    obtain ⟨A2, c2, rfl, HL2, HA2, hb2⟩ := hP.open HO
    have HB2 := hide (below_call HB1.out hb2)
    have HR4 := hide (HR3.out.call hb2)
    clear hP hb2
    have x0 := HR4.out.cell (k := 0) rfl
    have x1 := HR4.out.cell (k := 1) rfl
    have x2 := HR4.out.cell (k := 2) rfl
    have x3 := HR4.out.cell (k := 3) rfl
    have x4 := HR4.out.cell (k := 4) rfl
    go_wp2_with fail
    refine (ruses_any o a b c m _).mono ?_
    rintro e w5 hP
    obtain ⟨A5, c5, rfl, HL5, HA5, hb5⟩ := hP.open HU
    have HB5 := hide (below_call HB2.out hb5)
    have HL6 := hide (HL2.out.below hb5)
    clear hP hb5 x0 x1 x2 x3 x4
    go_wp2_with fail
    refine (s_union c2 c5 HL6 HL5 HA2 HO HU HR2).mono ?_
    rintro e w6 hP
    obtain ⟨A6, c6, rfl, -, -⟩ := id hP
    have HP := hide (hP.lift HB5.out)
    clear hP
    go_wp2_with fail
    go_ret
    exact HP.out
  | false =>
    rw [hd, dfI_off hd] at cd
    rw [show outL o a l = l by unfold outL; rw [hd]; rfl] at HO HR2
    clear hW hR hB hd
    go_enter Tryd.func50, Tryd.ntmps50
    go_upto_region 1 with (fail)
    rw [HW.out]
    clear HW
    go_wp2_with fail
    refine cd.mono ?_
    rintro e w1 ⟨rfl, h1⟩
    have HB1 := hide (below_call HB.out h1)
    have HR3 := hide (HR.out.call h1)
    have HL1 := hide (HL.out.below h1)
    clear h1 x0 x1 x2 x3 x4 cd
    have x0 := HR3.out.cell (k := 0) rfl
    have x1 := HR3.out.cell (k := 1) rfl
    have x2 := HR3.out.cell (k := 2) rfl
    have x3 := HR3.out.cell (k := 3) rfl
    have x4 := HR3.out.cell (k := 4) rfl
    go_wp2_with fail
    refine (ruses_any o a b c m _).mono ?_
    rintro e w5 hP
    obtain ⟨A5, c5, rfl, HL5, HA5, hb5⟩ := hP.open HU
    have HB5 := hide (below_call HB1.out hb5)
    have HL6 := hide (HL1.out.below hb5)
    clear hP hb5 x0 x1 x2 x3 x4
    go_wp2_with fail
    refine (s_union cp c5 HL6 HL5 hA HA HU HR2).mono ?_
    rintro e w6 hP
    obtain ⟨A6, c6, rfl, -, -⟩ := id hP
    have HP := hide (hP.lift HB5.out)
    clear hP
    go_wp2_with fail
    go_ret
    exact HP.out
theorem rin_any (o a b c m : Int) (A : Option Addr) (n cp : Nat) (l : List Int) (w : World) (ha0 : -9223372036854775808 ≤ a) (ha1 : a ≤ 9223372036854775807) (hb0 : 0 ≤ b) (hb1 : b < 512) (hL : Hid (Lst w A n l)) (HA : Hid (Asc l)) (hA : Hid (A = none → cp = 0)) :
    Calls Tryd.prog 50 #[iv o a b c m, .slice A n cp] w (OutPost (inL o a b l) w) := rin_use o a b c m A n cp l w (hide (usL_asc o hb0 hb1)) hL HA hA
end Go.Proofs.YtidlnecgfgnllaaDoor
end
