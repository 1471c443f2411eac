import Derived.Test.YthaabgiefpfeaaaDoorMHref
import Derived.Test.YthaabgiefpfeaaaDoorMBtp
import Derived.Test.YthaabgiefpfeaaaDoorMBwun
import Derived.Test.YthaabgiefpfeaaaDoorMBrrem
import Derived.Test.YthaabgiefpfeaaaDoorMBruni
set_option linter.unusedVariables false
set_option linter.unusedSimpArgs false
section
/-
  The contracts of effect.In and of its reference: which slots may be read ahead of an instruction. Conditions: those of the types; a set of slots; the slot that is read is one; the table of TrailingZeros64 lies as its initialiser lays it.
-/
namespace Go.Proofs.YthaabgiefpfeaaaDoor
open Go.RowKit

set_option maxHeartbeats 1000000 in
theorem ein_any (o a b c m : Int) (A : Option Addr) (n cp : Nat) (l : List Int) (w : World) (ha0 : -9223372036854775808 ≤ a) (ha1 : a ≤ 9223372036854775807) (hb0 : 0 ≤ b) (hb1 : b < 512) (hL : Hid (Lst w A n l)) (HA : Hid (Asc l)) (hT : Hid (Tab w)) :
    Calls Tryd.prog 10 #[iv o a b c m, .slice A n cp] w (OutPost (inL o a b l) w) := by
  obtain ⟨W, hW, hR, hB⟩ := ibox w o a b c m
  have HW := hide hW
  have HB := hide hB
  have HR := hide hR
  have HL := hide (hL.out.below hB)
  have HU := hide (usL_asc o hb0 hb1)
  have HO := hide (outL_asc o a HA.out)
  have HR2 : Hid (unionL (outL o a l) (usL o b) = inL o a b l) := hide rfl
  have x0 := hR.cell (k := 0) rfl
  have x1 := hR.cell (k := 1) rfl
  have x2 := hR.cell (k := 2) rfl
  have x3 := hR.cell (k := 3) rfl
  have x4 := hR.cell (k := 4) rfl
  have cd := edefines_any o a b c m W
  unfold DefPost at cd
  generalize inL o a b l = res at HR2 ⊢
  cases hd : defB o with
  | true =>
    rw [hd, dfI_on hd] at cd
    rw [show outL o a l = removeL l a by unfold outL; rw [if_pos hd]] at HO HR2
    clear hW hR hB hd
    go_enter Tryd.func10, Tryd.ntmps10
    go_upto_region 1 with (fail)
    rw [HW.out]
    clear HW
    go_wp2_with fail
    refine cd.mono ?_
    rintro e w1 ⟨rfl, h1⟩
    have HB1 := hide (below_call HB.out h1)
    have HR3 := hide (HR.out.call h1)
    have HL1 := hide (HL.out.below h1)
    clear h1 x0 x1 x2 x3 x4 cd
    go_wp2_with fail
    refine (t_remove cp HL1 HA ha0 ha1 (hide (hT.out.below HB1.out)) (hide (Eq.refl (removeL l a)))).mono ?_
    rintro e w2 hP
    obtain ⟨A2, c2, rfl, HL2, HA2, hb2⟩ := hP.open HO
    have HB2 := hide (below_call HB1.out hb2)
    have HR4 := hide (HR3.out.call hb2)
    clear hP hb2
    have x0 := HR4.out.cell (k := 0) rfl
    have x1 := HR4.out.cell (k := 1) rfl
    have x2 := HR4.out.cell (k := 2) rfl
    have x3 := HR4.out.cell (k := 3) rfl
    have x4 := HR4.out.cell (k := 4) rfl
    go_wp2_with fail
    refine (euses_any o a b c m _).mono ?_
    rintro e w5 hP
    obtain ⟨A5, c5, rfl, HL5, HA5, hb5⟩ := hP.open HU
    have HB5 := hide (below_call HB2.out hb5)
    have HL6 := hide (HL2.out.below hb5)
    clear hP hb5 x0 x1 x2 x3 x4
    go_wp2_with fail
    refine (t_union c2 c5 HL6 HL5 HO HU (hide (hT.out.below HB5.out)) HR2).mono ?_
    rintro e w6 hP
    obtain ⟨A6, c6, rfl, -, -⟩ := id hP
    have HP := hide (hP.lift HB5.out)
    clear hP
    go_wp2_with fail
    go_ret
    exact HP.out
  | false =>
    rw [hd, dfI_off hd] at cd
    rw [show outL o a l = l by unfold outL; rw [hd]; rfl] at HO HR2
    clear hW hR hB hd
    go_enter Tryd.func10, Tryd.ntmps10
    go_upto_region 1 with (fail)
    rw [HW.out]
    clear HW
    go_wp2_with fail
    refine cd.mono ?_
    rintro e w1 ⟨rfl, h1⟩
    have HB1 := hide (below_call HB.out h1)
    have HR3 := hide (HR.out.call h1)
    have HL1 := hide (HL.out.below h1)
    clear h1 x0 x1 x2 x3 x4 cd
    have x0 := HR3.out.cell (k := 0) rfl
    have x1 := HR3.out.cell (k := 1) rfl
    have x2 := HR3.out.cell (k := 2) rfl
    have x3 := HR3.out.cell (k := 3) rfl
    have x4 := HR3.out.cell (k := 4) rfl
    go_wp2_with fail
    refine (euses_any o a b c m _).mono ?_
    rintro e w5 hP
    obtain ⟨A5, c5, rfl, HL5, HA5, hb5⟩ := hP.open HU
    have HB5 := hide (below_call HB1.out hb5)
    have HL6 := hide (HL1.out.below hb5)
    clear hP hb5 x0 x1 x2 x3 x4
    go_wp2_with fail
    refine (t_union cp c5 HL6 HL5 HA HU (hide (hT.out.below HB5.out)) HR2).mono ?_
    rintro e w6 hP
    obtain ⟨A6, c6, rfl, -, -⟩ := id hP
    have HP := hide (hP.lift HB5.out)
    clear hP
    go_wp2_with fail
    go_ret
    exact HP.out
set_option maxHeartbeats 1000000 in
theorem rin_any (o a b c m : Int) (A : Option Addr) (n cp : Nat) (l : List Int) (w : World) (ha0 : -9223372036854775808 ≤ a) (ha1 : a ≤ 9223372036854775807) (hb0 : 0 ≤ b) (hb1 : b < 512) (hL : Hid (Lst w A n l)) (HA : Hid (Asc l)) (hA : Hid (A = none → cp = 0)) :
    Calls Tryd.prog 11 #[iv o a b c m, .slice A n cp] w (OutPost (inL o a b l) w) := by
  obtain ⟨W, hW, hR, hB⟩ := ibox w o a b c m
  have HW := hide hW
  have HB := hide hB
  have HR := hide hR
  have HL := hide (hL.out.below hB)
  have HU := hide (usL_asc o hb0 hb1)
  have HO := hide (outL_asc o a HA.out)
  have HR2 : Hid (unionL (outL o a l) (usL o b) = inL o a b l) := hide rfl
  have x0 := hR.cell (k := 0) rfl
  have x1 := hR.cell (k := 1) rfl
  have x2 := hR.cell (k := 2) rfl
  have x3 := hR.cell (k := 3) rfl
  have x4 := hR.cell (k := 4) rfl
  have cd := rdefines_any o a b c m W
  unfold DefPost at cd
  generalize inL o a b l = res at HR2 ⊢
  cases hd : defB o with
  | true =>
    rw [hd, dfI_on hd] at cd
    rw [show outL o a l = removeL l a by unfold outL; rw [if_pos hd]] at HO HR2
    clear hW hR hB hd
    go_enter Tryd.func11, Tryd.ntmps11
    go_upto_region 1 with (fail)
    rw [HW.out]
    clear HW
    go_wp2_with fail
    refine cd.mono ?_
    rintro e w1 ⟨rfl, h1⟩
    have HB1 := hide (below_call HB.out h1)
    have HR3 := hide (HR.out.call h1)
    have HL1 := hide (HL.out.below h1)
    clear h1 x0 x1 x2 x3 x4 cd
    go_wp2_with fail
    refine (s_remove cp HL1 HA (hide (Eq.refl (removeL l a)))).mono ?_
    rintro e w2 hP
    obtain ⟨A2, c2, rfl, HL2, HA2, hb2⟩ := hP.open HO
    have HB2 := hide (below_call HB1.out hb2)
    have HR4 := hide (HR3.out.call hb2)
    clear hP hb2
    have x0 := HR4.out.cell (k := 0) rfl
    have x1 := HR4.out.cell (k := 1) rfl
    have x2 := HR4.out.cell (k := 2) rfl
    have x3 := HR4.out.cell (k := 3) rfl
    have x4 := HR4.out.cell (k := 4) rfl
    go_wp2_with fail
    refine (ruses_any o a b c m _).mono ?_
    rintro e w5 hP
    obtain ⟨A5, c5, rfl, HL5, HA5, hb5⟩ := hP.open HU
    have HB5 := hide (below_call HB2.out hb5)
    have HL6 := hide (HL2.out.below hb5)
    clear hP hb5 x0 x1 x2 x3 x4
    go_wp2_with fail
    refine (s_union c2 c5 HL6 HL5 HA2 HO HU HR2).mono ?_
    rintro e w6 hP
    obtain ⟨A6, c6, rfl, -, -⟩ := id hP
    have HP := hide (hP.lift HB5.out)
    clear hP
    go_wp2_with fail
    go_ret
    exact HP.out
  | false =>
    rw [hd, dfI_off hd] at cd
    rw [show outL o a l = l by unfold outL; rw [hd]; rfl] at HO HR2
    clear hW hR hB hd
    go_enter Tryd.func11, Tryd.ntmps11
    go_upto_region 1 with (fail)
    rw [HW.out]
    clear HW
    go_wp2_with fail
    refine cd.mono ?_
    rintro e w1 ⟨rfl, h1⟩
    have HB1 := hide (below_call HB.out h1)
    have HR3 := hide (HR.out.call h1)
    have HL1 := hide (HL.out.below h1)
    clear h1 x0 x1 x2 x3 x4 cd
    have x0 := HR3.out.cell (k := 0) rfl
    have x1 := HR3.out.cell (k := 1) rfl
    have x2 := HR3.out.cell (k := 2) rfl
    have x3 := HR3.out.cell (k := 3) rfl
    have x4 := HR3.out.cell (k := 4) rfl
    go_wp2_with fail
    refine (ruses_any o a b c m _).mono ?_
    rintro e w5 hP
    obtain ⟨A5, c5, rfl, HL5, HA5, hb5⟩ := hP.open HU
    have HB5 := hide (below_call HB1.out hb5)
    have HL6 := hide (HL1.out.below hb5)
    clear hP hb5 x0 x1 x2 x3 x4
    go_wp2_with fail
    refine (s_union cp c5 HL6 HL5 hA HA HU HR2).mono ?_
    rintro e w6 hP
    obtain ⟨A6, c6, rfl, -, -⟩ := id hP
    have HP := hide (hP.lift HB5.out)
    clear hP
    go_wp2_with fail
    go_ret
    exact HP.out
end Go.Proofs.YthaabgiefpfeaaaDoor
end
