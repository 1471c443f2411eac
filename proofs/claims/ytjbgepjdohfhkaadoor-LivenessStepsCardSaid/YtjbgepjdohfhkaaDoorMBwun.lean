import Derived.Test.YtjbgepjdohfhkaaDoorMBtz
import Derived.Test.YtjbgepjdohfhkaaDoorMBlist
import Derived.Test.YtjbgepjdohfhkaaDoorMHdef
import Derived.Test.YtjbgepjdohfhkaaDoorMLsam
set_option linter.unusedVariables false
set_option linter.unusedSimpArgs false
section
/-
  The contract of a method of bitset.set[int] on whole sets: munion. Conditions: those of the types.
-/
namespace Go.Proofs.YtjbgepjdohfhkaaDoor
open Go.RowKit
set_option maxHeartbeats 400000 in
theorem munion_any (g N M : Nat) (w : World) (h : Hid (SetB w g N)) : Calls Tryd.prog 49 #[.pointer (some ⟨g, 0, none⟩), sv (wd M)] w (WritePost g (N ||| M) w) := by
  go_enter Tryd.func49, Tryd.ntmps49
  go_wp2_with fail
  go_loopw [8] (fun i wr => Hid (MixRel (· ||| ·) g N M w i wr)) (fun i _ => 8 - (intOf i).toNat)
  case atStart => exact hide ⟨0, by omega, rfl, by rw [mix_start]; exact Row.alloc h.out _, World.grownBy_alloc _ _ _⟩
  case round =>
    obtain ⟨k, hk, rfl, hr, hg⟩ := hrel.out
    have HR := hide hr
    have HG := hide hg
    by_cases hlt : k < 8
    · have hi := index8 (wd M) hlt
      have hd : decide ((k : Int) < 8) = true := decide_eq_true (by omega)
      have c := Row.cell hr (w8_at (mixF (· ||| ·) N M k) hlt)
      rw [mix_at] at c
      have z := Row.free hr k
      have e := bits_or_u64_nat _ _ (wd_lt N k) (wd_lt M k)
      have K := hide (show (w8 (mixF (· ||| ·) N M k)).set k (.int .u64 ((wd N k ||| wd M k : Nat) : Int)) = w8 (mixF (· ||| ·) N M (k + 1)) from mix_set (· ||| ·) N M hlt)
      have hk0 : (0 : Int) ≤ (k : Int) := by omega
      have hk8 : (k : Int) < 8 := by omega
      generalize wd N k ||| wd M k = y at e K
      clear hrel hr hg
      go_wp2_with fail
      go_region
      all_goals
        go_wp2_with fail
        go_roundw
        case rel => exact hide (MixRel.next hlt HR K HG)
        case measure => simp [intOf]; omega
    · obtain rfl : k = 8 := by omega
      clear hr hg hrel
      go_wp2_with fail
      go_end0
      refine ⟨rfl, ?_, HG.out⟩
      have := HR.out
      rw [mix_end] at this
      show Row _ _ _ _
      rw [w8_congr (g := fun i => wd N i ||| wd M i) fun i _ => wd_or N M i]
      exact this

end Go.Proofs.YtjbgepjdohfhkaaDoor
end

section
/-
  The contract of a function of package bitset, for any lists and in the reference's words: union. Conditions: those of the types; the table of TrailingZeros64 lies as its initialiser lays it.
-/
namespace Go.Proofs.YtjbgepjdohfhkaaDoor
open Go.RowKit
set_option maxHeartbeats 400000 in
theorem top_union_any (A : Option Addr) (n c : Nat) (zs : List Int) (A' : Option Addr) (n' c' : Nat) (ys : List Int) (w : World) (h : Hid (Lst w A n zs)) (h' : Hid (Lst w A' n' ys)) (hT : Hid (Tab w)) : Calls Tryd.prog 25 #[.slice A n c, .slice A' n' c'] w (OutPost (els (bs zs ||| bs ys)) w) := by
  have c0 := h.out.of c
  obtain ⟨N0, eN⟩ : ∃ N0, bs zs = N0 := ⟨_, rfl⟩
  obtain ⟨M0, eM⟩ : ∃ M0, bs ys = M0 := ⟨_, rfl⟩
  rw [eN] at c0 ⊢
  rw [eM]
  have EM := hide eM
  clear eN eM
  go_enter Tryd.func25, Tryd.ntmps25
  go_wp2_with fail
  refine c0.mono ?_
  rintro e w1 ⟨rfl, hb1⟩
  clear c0
  have HB1 := hide hb1
  clear hb1
  go_wp2_with fail
  have hS1 := hide (SetB.made w1 N0)
  have HB2 := hide (below_call HB1.out (below1 w1 (.cells #[.int .u64 (wd N0 0 : Nat), .int .u64 (wd N0 1 : Nat), .int .u64 (wd N0 2 : Nat), .int .u64 (wd N0 3 : Nat), .int .u64 (wd N0 4 : Nat), .int .u64 (wd N0 5 : Nat), .int .u64 (wd N0 6 : Nat), .int .u64 (wd N0 7 : Nat)] 74)))
  have hg1 : w.heap.size ≤ w1.heap.size := HB1.out.size
  have h2 := h'.out.below HB2.out
  have c1 := h2.of c'
  rw [EM.out] at c1
  refine c1.mono ?_
  rintro e w2 ⟨rfl, hb2⟩
  have hS2 := hide (hS1.out.call hb2)
  have HB3 := hide (below_call HB2.out hb2)
  clear c1 hb2 h2 hS1 HB2
  go_wp2_with fail
  refine (munion_any w1.heap.size N0 M0 _ hS2).mono ?_
  rintro e w5 hP
  have HS5 := hide hP.2.1
  have HB5 := hide (below_write HB3.out hP hg1)
  obtain ⟨rfl, -, -⟩ := hP
  clear hS2 HB3
  go_wp2_with fail
  refine (list_any w1.heap.size (N0 ||| M0) _ HS5 (hide (hT.out.below HB5.out))).mono ?_
  rintro e w' hP
  obtain ⟨A2, c2, rfl, -, -⟩ := id hP
  have HP := hide (hP.lift HB5.out)
  clear hP HS5
  go_wp2_with fail
  go_ret
  exact HP.out
section
variable {A A' : Option Addr} {n n' : Nat} {a b r : List Int} {w : World}
theorem t_union (c c' : Nat) (h : Hid (Lst w A n a)) (h' : Hid (Lst w A' n' b)) (ha : Hid (Asc a)) (hb : Hid (Asc b)) (hT : Hid (Tab w)) (hr : Hid (unionL a b = r)) : Calls Tryd.prog 25 #[.slice A n c, .slice A' n' c'] w (OutPost r w) := by
  have := top_union_any A n c a A' n' c' b w h h' hT
  rwa [els_union ha.out hb.out, hr.out] at this
end
end Go.Proofs.YtjbgepjdohfhkaaDoor
end

section
/-
  The contract of effect.In: which slots may be read ahead of an instruction. Conditions: those of the types; a set of slots; what is read is one; the table of TrailingZeros64 lies as its initialiser lays it.
-/
namespace Go.Proofs.YtjbgepjdohfhkaaDoor
open Go.RowKit

set_option maxHeartbeats 1000000 in
theorem ein_use (o a b c m : Int) (A : Option Addr) (n cp : Nat) (l : List Int) (w : World) (hda : Hid (defB o = true → -9223372036854775808 ≤ a ∧ a ≤ 9223372036854775807)) (HU : Hid (Asc (usL o b))) (hL : Hid (Lst w A n l)) (HA : Hid (Asc l)) (hT : Hid (Tab w)) :
    Calls Tryd.prog 22 #[iv o a b c m, .slice A n cp] w (OutPost (inL o a b l) w) := by
  obtain ⟨W, hW, hR, hB⟩ := ibox w o a b c m
  have HW := hide hW
  have HB := hide hB
  have HR := hide hR
  have HL := hide (hL.out.below hB)
  have HO := hide (outL_asc o a HA.out)
  have HR2 : Hid (unionL (outL o a l) (usL o b) = inL o a b l) := hide rfl
  have x0 := hR.cell (k := 0) rfl
  have x1 := hR.cell (k := 1) rfl
  have x2 := hR.cell (k := 2) rfl
  have x3 := hR.cell (k := 3) rfl
  have x4 := hR.cell (k := 4) rfl
  have cd := edefines_any o a b c m W
  unfold DefPost at cd
  generalize inL o a b l = res at HR2 ⊢
  cases hd : defB o with
  | true =>
    obtain ⟨ha0, ha1⟩ := hda.out hd
    rw [hd, dfI_on hd] at cd
    rw [show outL o a l = removeL l a by unfold outL; rw [if_pos hd]] at HO HR2
    clear hW hR hB hd
    go_enter Tryd.func22, Tryd.ntmps22
    go_upto_region 1 with (fail)
    rw [HW.out]
    clear HW
    go_wp2_with fail
    refine cd.mono ?_
    rintro e w1 ⟨rfl, h1⟩
    have HB1 := hide (below_call HB.out h1)
    have HR3 := hide (HR.out.call h1)
    have HL1 := hide (HL.out.below h1)
    clear h1 x0 x1 x2 x3 x4 cd
    go_wp2_with fail
    refine (t_remove cp HL1 HA ha0 ha1 (hide (hT.out.below HB1.out)) (hide (Eq.refl (removeL l a)))).mono ?_
    rintro e w2 hP
    obtain ⟨A2, c2, rfl, HL2, HA2, hb2⟩ := hP.open HO
    have HB2 := hide (below_call HB1.out hb2)
    have HR4 := hide (HR3.out.call hb2)
    clear hP hb2
    have x0 := HR4.out.cell (k := 0) rfl
    have x1 := HR4.out.cell (k := 1) rfl
    have x2 := HR4.out.cell (k := 2) rfl
    have x3 := HR4.out.cell (k := 3) rfl
    have x4 := HR4.out.cell (k := 4) rfl
    go_wp2_with fail
    refine (euses_any o a b c m _).mono ?_
    rintro e w5 hP
    obtain ⟨A5, c5, rfl, HL5, HA5, hb5⟩ := hP.open HU
    have HB5 := hide (below_call HB2.out hb5)
    have HL6 := hide (HL2.out.below hb5)
    clear hP hb5 x0 x1 x2 x3 x4
    go_wp2_with fail
    refine (t_union c2 c5 HL6 HL5 HO HU (hide (hT.out.below HB5.out)) HR2).mono ?_
    rintro e w6 hP
    obtain ⟨A6, c6, rfl, -, -⟩ := id hP
    have HP := hide (hP.lift HB5.out)
    clear hP
    go_wp2_with fail
    go_ret
    exact HP.out
  | false =>
    rw [hd, dfI_off hd] at cd
    rw [show outL o a l = l by unfold outL; rw [hd]; rfl] at HO HR2
    clear hW hR hB hd
    go_enter Tryd.func22, Tryd.ntmps22
    go_upto_region 1 with (fail)
    rw [HW.out]
    clear HW
    go_wp2_with fail
    refine cd.mono ?_
    rintro e w1 ⟨rfl, h1⟩
    have HB1 := hide (below_call HB.out h1)
    have HR3 := hide (HR.out.call h1)
    have HL1 := hide (HL.out.below h1)
    clear h1 x0 x1 x2 x3 x4 cd
    have x0 := HR3.out.cell (k := 0) rfl
    have x1 := HR3.out.cell (k := 1) rfl
    have x2 := HR3.out.cell (k := 2) rfl
    have x3 := HR3.out.cell (k := 3) rfl
    have x4 := HR3.out.cell (k := 4) rfl
    go_wp2_with fail
    refine (euses_any o a b c m _).mono ?_
    rintro e w5 hP
    obtain ⟨A5, c5, rfl, HL5, HA5, hb5⟩ := hP.open HU
    have HB5 := hide (below_call HB1.out hb5)
    have HL6 := hide (HL1.out.below hb5)
    clear hP hb5 x0 x1 x2 x3 x4
    go_wp2_with fail
    refine (t_union cp c5 HL6 HL5 HA HU (hide (hT.out.below HB5.out)) HR2).mono ?_
    rintro e w6 hP
    obtain ⟨A6, c6, rfl, -, -⟩ := id hP
    have HP := hide (hP.lift HB5.out)
    clear hP
    go_wp2_with fail
    go_ret
    exact HP.out
theorem ein_any (o a b c m : Int) (A : Option Addr) (n cp : Nat) (l : List Int) (w : World) (ha0 : -9223372036854775808 ≤ a) (ha1 : a ≤ 9223372036854775807) (hb0 : 0 ≤ b) (hb1 : b < 512) (hL : Hid (Lst w A n l)) (HA : Hid (Asc l)) (hT : Hid (Tab w)) :
    Calls Tryd.prog 22 #[iv o a b c m, .slice A n cp] w (OutPost (inL o a b l) w) := ein_use o a b c m A n cp l w (hide fun _ => ⟨ha0, ha1⟩) (hide (usL_asc o hb0 hb1)) hL HA hT
end Go.Proofs.YtjbgepjdohfhkaaDoor
end
