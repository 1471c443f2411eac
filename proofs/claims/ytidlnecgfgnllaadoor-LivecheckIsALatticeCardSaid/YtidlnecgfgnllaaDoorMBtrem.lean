import Derived.Test.YtidlnecgfgnllaaDoorMBof
import Derived.Test.YtidlnecgfgnllaaDoorMBtz
import Derived.Test.YtidlnecgfgnllaaDoorMOwr
import Derived.Test.YtidlnecgfgnllaaDoorMKit
import Derived.Test.YtidlnecgfgnllaaDoorMHdef
import Derived.Deep.QuietTactic
import Derived.BigQuiet
import Derived.Maps.AppendAt
set_option linter.unusedVariables false
set_option linter.unusedSimpArgs false
section
/-
  The contract of a function of package bitset, for any lists and in the reference's words: remove. Conditions: those of the types; the table of TrailingZeros64 lies as its initialiser lays it.
-/
namespace Go.Proofs.YtidlnecgfgnllaaDoor
open Go.RowKit
set_option maxHeartbeats 400000 in
theorem top_remove_any (A : Option Addr) (n c : Nat) (zs : List Int) (x : Int) (w : World) (h : Hid (Lst w A n zs)) (x0 : -9223372036854775808 ≤ x) (x1 : x ≤ 9223372036854775807) (hT : Hid (Tab w)) : Calls Tryd.prog 56 #[.slice A n c, .int .i64 x] w (OutPost (els (diff (bs zs) (one x))) w) := by
  have c0 := h.out.of c
  generalize bs zs = N0 at c0 ⊢
  go_enter Tryd.func56, Tryd.ntmps56
  go_wp2_with fail
  refine c0.mono ?_
  rintro e w1 ⟨rfl, hb1⟩
  clear c0
  have HB1 := hide hb1
  clear hb1
  go_wp2_with fail
  have hS1 := hide (SetB.made w1 N0)
  have HB2 := hide (below_call HB1.out (below1 w1 (.cells #[.int .u64 (wd N0 0 : Nat), .int .u64 (wd N0 1 : Nat), .int .u64 (wd N0 2 : Nat), .int .u64 (wd N0 3 : Nat), .int .u64 (wd N0 4 : Nat), .int .u64 (wd N0 5 : Nat), .int .u64 (wd N0 6 : Nat), .int .u64 (wd N0 7 : Nat)] 80)))
  have hg1 : w.heap.size ≤ w1.heap.size := HB1.out.size
  refine (remove_any w1.heap.size N0 x _ hS1 x0 x1).mono ?_
  rintro e w5 hP
  have HS5 := hide hP.2.1
  have HB5 := hide (below_write HB2.out hP hg1)
  obtain ⟨rfl, -, -⟩ := hP
  clear hS1 HB2
  go_wp2_with fail
  refine (list_any w1.heap.size (diff (N0) (one x)) _ HS5 (hide (hT.out.below HB5.out))).mono ?_
  rintro e w' hP
  obtain ⟨A2, c2, rfl, -, -⟩ := id hP
  have HP := hide (hP.lift HB5.out)
  clear hP HS5
  go_wp2_with fail
  go_ret
  exact HP.out
section
variable {A A' : Option Addr} {n n' : Nat} {a b r : List Int} {w : World}
theorem t_remove (c : Nat) {x : Int} (h : Hid (Lst w A n a)) (ha : Hid (Asc a)) (x0 : -9223372036854775808 ≤ x) (x1 : x ≤ 9223372036854775807) (hT : Hid (Tab w)) (hr : Hid (removeL a x = r)) : Calls Tryd.prog 56 #[.slice A n c, .int .i64 x] w (OutPost r w) := by
  have := top_remove_any A n c a x w h x0 x1 hT
  rwa [els_remove ha.out, hr.out] at this
end
end Go.Proofs.YtidlnecgfgnllaaDoor
end

section
/-
  The contract of a method of bitset.set[int] on whole sets: munion. Conditions: those of the types.
-/
namespace Go.Proofs.YtidlnecgfgnllaaDoor
open Go.RowKit
set_option maxHeartbeats 400000 in
theorem munion_any (g N M : Nat) (w : World) (h : Hid (SetB w g N)) : Calls Tryd.prog 77 #[.pointer (some ⟨g, 0, none⟩), sv (wd M)] w (WritePost g (N ||| M) w) := by
  go_enter Tryd.func77, Tryd.ntmps77
  go_wp2_with fail
  go_loopw [8] (fun i wr => Hid (MixRel (· ||| ·) g N M w i wr)) (fun i _ => 8 - (intOf i).toNat)
  case atStart => exact hide ⟨0, by omega, rfl, by rw [mix_start]; exact Row.alloc h.out _, World.grownBy_alloc _ _ _⟩
  case round =>
    obtain ⟨k, hk, rfl, hr, hg⟩ := hrel.out
    have HR := hide hr
    have HG := hide hg
    by_cases hlt : k < 8
    · have hi := index8 (wd M) hlt
      have hd : decide ((k : Int) < 8) = true := decide_eq_true (by omega)
      have c := Row.cell hr (w8_at (mixF (· ||| ·) N M k) hlt)
      rw [mix_at] at c
      have z := Row.free hr k
      have e := bits_or_u64_nat _ _ (wd_lt N k) (wd_lt M k)
      have K := hide (show (w8 (mixF (· ||| ·) N M k)).set k (.int .u64 ((wd N k ||| wd M k : Nat) : Int)) = w8 (mixF (· ||| ·) N M (k + 1)) from mix_set (· ||| ·) N M hlt)
      have hk0 : (0 : Int) ≤ (k : Int) := by omega
      have hk8 : (k : Int) < 8 := by omega
      generalize wd N k ||| wd M k = y at e K
      clear hrel hr hg
      go_wp2_with fail
      go_region
      all_goals
        go_wp2_with fail
        go_roundw
        case rel => exact hide (MixRel.next hlt HR K HG)
        case measure => simp [intOf]; omega
    · obtain rfl : k = 8 := by omega
      clear hr hg hrel
      go_wp2_with fail
      go_end0
      refine ⟨rfl, ?_, HG.out⟩
      have := HR.out
      rw [mix_end] at this
      show Row _ _ _ _
      rw [w8_congr (g := fun i => wd N i ||| wd M i) fun i _ => wd_or N M i]
      exact this

end Go.Proofs.YtidlnecgfgnllaaDoor
end

section
/-
  The contract of a function of package bitset, for any lists and in the reference's words: union. Conditions: those of the types; the table of TrailingZeros64 lies as its initialiser lays it.
-/
namespace Go.Proofs.YtidlnecgfgnllaaDoor
open Go.RowKit
set_option maxHeartbeats 400000 in
theorem top_union_any (A : Option Addr) (n c : Nat) (zs : List Int) (A' : Option Addr) (n' c' : Nat) (ys : List Int) (w : World) (h : Hid (Lst w A n zs)) (h' : Hid (Lst w A' n' ys)) (hT : Hid (Tab w)) : Calls Tryd.prog 57 #[.slice A n c, .slice A' n' c'] w (OutPost (els (bs zs ||| bs ys)) w) := by
  have c0 := h.out.of c
  obtain ⟨N0, eN⟩ : ∃ N0, bs zs = N0 := ⟨_, rfl⟩
  obtain ⟨M0, eM⟩ : ∃ M0, bs ys = M0 := ⟨_, rfl⟩
  rw [eN] at c0 ⊢
  rw [eM]
  have EM := hide eM
  clear eN eM
  go_enter Tryd.func57, Tryd.ntmps57
  go_wp2_with fail
  refine c0.mono ?_
  rintro e w1 ⟨rfl, hb1⟩
  clear c0
  have HB1 := hide hb1
  clear hb1
  go_wp2_with fail
  have hS1 := hide (SetB.made w1 N0)
  have HB2 := hide (below_call HB1.out (below1 w1 (.cells #[.int .u64 (wd N0 0 : Nat), .int .u64 (wd N0 1 : Nat), .int .u64 (wd N0 2 : Nat), .int .u64 (wd N0 3 : Nat), .int .u64 (wd N0 4 : Nat), .int .u64 (wd N0 5 : Nat), .int .u64 (wd N0 6 : Nat), .int .u64 (wd N0 7 : Nat)] 80)))
  have hg1 : w.heap.size ≤ w1.heap.size := HB1.out.size
  have h2 := h'.out.below HB2.out
  have c1 := h2.of c'
  rw [EM.out] at c1
  refine c1.mono ?_
  rintro e w2 ⟨rfl, hb2⟩
  have hS2 := hide (hS1.out.call hb2)
  have HB3 := hide (below_call HB2.out hb2)
  clear c1 hb2 h2 hS1 HB2
  go_wp2_with fail
  refine (munion_any w1.heap.size N0 M0 _ hS2).mono ?_
  rintro e w5 hP
  have HS5 := hide hP.2.1
  have HB5 := hide (below_write HB3.out hP hg1)
  obtain ⟨rfl, -, -⟩ := hP
  clear hS2 HB3
  go_wp2_with fail
  refine (list_any w1.heap.size (N0 ||| M0) _ HS5 (hide (hT.out.below HB5.out))).mono ?_
  rintro e w' hP
  obtain ⟨A2, c2, rfl, -, -⟩ := id hP
  have HP := hide (hP.lift HB5.out)
  clear hP HS5
  go_wp2_with fail
  go_ret
  exact HP.out
section
variable {A A' : Option Addr} {n n' : Nat} {a b r : List Int} {w : World}
theorem t_union (c c' : Nat) (h : Hid (Lst w A n a)) (h' : Hid (Lst w A' n' b)) (ha : Hid (Asc a)) (hb : Hid (Asc b)) (hT : Hid (Tab w)) (hr : Hid (unionL a b = r)) : Calls Tryd.prog 57 #[.slice A n c, .slice A' n' c'] w (OutPost r w) := by
  have := top_union_any A n c a A' n' c' b w h h' hT
  rwa [els_union ha.out hb.out, hr.out] at this
end
end Go.Proofs.YtidlnecgfgnllaaDoor
end

section
/-
  The contract of spillframeref04.Same: whether two lists of ints are one; it only reads. Conditions: those of the types.
-/
namespace Go.Proofs.YtidlnecgfgnllaaDoor
open Go.RowKit

/-- A way to the end that only drew. -/
def BoolPost (b : Bool) (w : World) (e : Ending) (w' : World) : Prop := e = .returned (.bool b) ∧ ∃ k, w' = w.drewN k
theorem take_ne {zs ys : List Int} {k : Nat} (h : k < zs.length) (h' : k < ys.length) (hne : zs[k] ≠ ys[k]) : decide (zs = ys) = false := by
  rw [decide_eq_false_iff_not]
  rintro rfl
  exact hne rfl

set_option maxHeartbeats 400000 in
theorem lsame_any (A : Option Addr) (n c : Nat) (zs : List Int) (A' : Option Addr) (n' c' : Nat) (ys : List Int) (w : World) (h : Hid (Lst w A n zs)) (h' : Hid (Lst w A' n' ys)) :
    Calls Tryd.prog 79 #[.slice A n c, .slice A' n' c'] w (BoolPost (decide (zs = ys)) w) := by
  have hl := h.out.le
  by_cases hnn : n = n'
  · subst hnn
    obtain ⟨b, hb⟩ : ∃ b, decide (zs = ys) = b := ⟨_, rfl⟩
    rw [hb]
    have HB := hide hb
    clear hb
    go_enter Tryd.func79, Tryd.ntmps79
    go_wp2_with fail
    go_loopw [5] (fun i wr => ∃ k : Nat, k ≤ n ∧ i = .int .i64 k ∧ Hid (zs.take k = ys.take k) ∧ ∃ m, wr = w.drewN m) (fun i _ => n - (intOf i).toNat)
    case atStart => exact ⟨0, by omega, rfl, hide rfl, 0, rfl⟩
    case round =>
      obtain ⟨k, hk, rfl, hT, m, rfl⟩ := hrel
      by_cases hlt : k < n
      · have l1 : k < zs.length := by have := h.out.len; omega
        have l2 : k < ys.length := by have := h'.out.len; omega
        obtain ⟨b1, o1, rfl, _, hc1⟩ := int_at h.out.see l1
        obtain ⟨b2, o2, rfl, _, hc2⟩ := int_at h'.out.see l2
        have N1 := hide (fun hne => take_ne l1 l2 hne)
        have N2 := hide (fun heq : zs[k] = ys[k] => (show zs.take (k + 1) = ys.take (k + 1) by rw [take_snoc l1, take_snoc l2, hT.out, heq]))
        generalize zs[k] = x at hc1 N1 N2
        generalize ys[k] = y at hc2 N1 N2
        clear l1 l2
        by_cases hxy : x = y
        · subst hxy
          have H2 := hide (N2.out rfl)
          clear N1 N2
          go_wp2_with fail
          go_quiet (fail)
          go_wp2_with fail
          go_roundw
          case rel => exact ⟨k + 1, by omega, by go_num, H2, _, rfl⟩
          case measure => simp [intOf]; omega
        · have hne : (x != y) = true := by rw [bne_iff_ne]; exact hxy
          have hB := hide (HB.out.symm.trans (N1.out hxy))
          clear N1 N2 hxy
          go_wp2_with fail
          go_quiet (fail)
          go_wp2_with fail
          go_ret
          exact ⟨by rw [hB.out]; rfl, _, World.drewN_drewN _ _ _⟩
      · obtain rfl : k = n := by omega
        have hB := hide (HB.out.symm.trans (decide_eq_true (by
          have := hT.out
          rwa [List.take_of_length_le (by have := h.out.len; omega), List.take_of_length_le (by have := h'.out.len; omega)] at this)))
        go_wp2_with fail
        go_ret
        exact ⟨by rw [hB.out]; rfl, _, rfl⟩
  · have hne : ((n : Int) != (n' : Int)) = true := by rw [bne_iff_ne]; omega
    have HB := hide (show decide (zs = ys) = false by
      rw [decide_eq_false_iff_not]
      rintro rfl
      exact hnn (h.out.len.symm.trans h'.out.len))
    rw [HB.out]
    clear hnn
    go_enter Tryd.func79, Tryd.ntmps79
    go_wp2_with fail
    go_ret
    exact ⟨rfl, 0, rfl⟩

end Go.Proofs.YtidlnecgfgnllaaDoor
end

section
/-
  What the loops of the reference's functions on sets keep. No function of the program is named here.
-/
namespace Go.Proofs.YtidlnecgfgnllaaDoor
open Go.RowKit
theorem IntRel.lst {w wr : World} {l : List Int} {A : Option Addr} {c : Nat} (h : IntRel w l (.slice A l.length c) wr) (hl : l.length ≤ 9223372036854775807) (hz : ∀ z ∈ l, -9223372036854775808 ≤ z ∧ z ≤ 9223372036854775807) : Lst wr A l.length l :=
  ⟨rfl, hl, Sees.own h.1, hz⟩
theorem asc_rng {l : List Int} (h : Asc l) : ∀ z ∈ l, -9223372036854775808 ≤ z ∧ z ≤ 9223372036854775807 := fun z hz => by have := h.2 z hz; omega
theorem OutPost.rel {l : List Int} {w w' : World} {e : Ending} (h : OutPost l w e w') : ∃ A c, e = .returned (.slice A l.length c) ∧ IntRel w l (.slice A l.length c) w' := by
  obtain ⟨A, c, he, ho, hb⟩ := h
  exact ⟨A, c, he, ho, hb⟩
theorem IntRel.post {w w' : World} {l : List Int} {A : Option Addr} {c : Nat} (h : IntRel w l (.slice A l.length c) w') : OutPost l w (.returned (.slice A l.length c)) w' := ⟨A, c, rfl, h.1, h.2⟩
/-- What a loop that filters keeps. -/
def FilRel (w : World) (p : Int → Bool) (zs : List Int) (n : Nat) (v i : Value) (wr : World) : Prop :=
  ∃ (k : Nat) (l : List Int), k ≤ n ∧ i = .int .i64 k ∧ l = (zs.take k).filter p ∧ IntRel w l v wr
/-- What a loop that adds keeps. -/
def UniRel (w : World) (bas zs : List Int) (n : Nat) (v i : Value) (wr : World) : Prop :=
  ∃ (k : Nat) (l : List Int) (A : Option Addr) (c : Nat), k ≤ n ∧ i = .int .i64 k ∧ v = .slice A l.length c ∧ l = unionL bas (zs.take k) ∧ Asc l ∧ IntRel w l v wr
theorem FilRel.len {zs l : List Int} {p : Int → Bool} {k : Nat} (h : l = (zs.take k).filter p) : l.length ≤ k := by
  rw [h]
  exact Nat.le_trans (List.length_filter_le _ _) (List.length_take_le _ _)

section
variable {A A' : Option Addr} {n n' : Nat} {a b r : List Int} {w : World}
theorem few (h : Hid (Lst w A n a)) (ha : Hid (Asc a)) : n ≤ 512 := by
  have := ha.out.length
  have := h.out.len
  omega
end
/-- What a list that comes back gives. -/
theorem OutPost.open {r : List Int} {w w' : World} {e : Ending} (h : OutPost r w e w') (ha : Hid (Asc r)) : ∃ A c, e = .returned (.slice A r.length c) ∧ Hid (Lst w' A r.length r) ∧ Hid (A = none → c = 0) ∧ Below w.heap.size w w' := by
  obtain ⟨A, c, rfl, hL⟩ := h.rel
  obtain ⟨_, _, e, hA, _⟩ := own_form hL.1
  injection e with e1 _ e3
  subst e1 e3
  exact ⟨A, c, rfl, hide (hL.lst (by have := ha.out.length; omega) (asc_rng ha.out)), hide hA, hL.2⟩
end Go.Proofs.YtidlnecgfgnllaaDoor
end

section
/-
  The contract of effect.In: which slots may be read ahead of an instruction. Conditions: those of the types; a set of slots; what is read is one; the table of TrailingZeros64 lies as its initialiser lays it.
-/
namespace Go.Proofs.YtidlnecgfgnllaaDoor
open Go.RowKit

set_option maxHeartbeats 1000000 in
theorem ein_use (o a b c m : Int) (A : Option Addr) (n cp : Nat) (l : List Int) (w : World) (hda : Hid (defB o = true → -9223372036854775808 ≤ a ∧ a ≤ 9223372036854775807)) (HU : Hid (Asc (usL o b))) (hL : Hid (Lst w A n l)) (HA : Hid (Asc l)) (hT : Hid (Tab w)) :
    Calls Tryd.prog 35 #[iv o a b c m, .slice A n cp] w (OutPost (inL o a b l) w) := by
  obtain ⟨W, hW, hR, hB⟩ := ibox w o a b c m
  have HW := hide hW
  have HB := hide hB
  have HR := hide hR
  have HL := hide (hL.out.below hB)
  have HO := hide (outL_asc o a HA.out)
  have HR2 : Hid (unionL (outL o a l) (usL o b) = inL o a b l) := hide rfl
  have x0 := hR.cell (k := 0) rfl
  have x1 := hR.cell (k := 1) rfl
  have x2 := hR.cell (k := 2) rfl
  have x3 := hR.cell (k := 3) rfl
  have x4 := hR.cell (k := 4) rfl
  have cd := edefines_any o a b c m W
  unfold DefPost at cd
  generalize inL o a b l = res at HR2 ⊢
  cases hd : defB o with
  | true =>
    obtain ⟨ha0, ha1⟩ := hda.out hd
    rw [hd, dfI_on hd] at cd
    rw [show outL o a l = removeL l a by unfold outL; rw [if_pos hd]] at HO HR2
    clear hW hR hB hd
    go_enter Tryd.func35, Tryd.ntmps35
    go_upto_region 1 with (fail)
    rw [HW.out]
    clear HW
    go_wp2_with fail
    refine cd.mono ?_
    rintro e w1 ⟨rfl, h1⟩
    have HB1 := hide (below_call HB.out h1)
    have HR3 := hide (HR.out.call h1)
    have HL1 := hide (HL.out.below h1)
    clear h1 x0 x1 x2 x3 x4 cd
    go_wp2_with fail
    refine (t_remove cp HL1 HA ha0 ha1 (hide (hT.out.below HB1.out)) (hide (Eq.refl (removeL l a)))).mono ?_
    rintro e w2 hP
    obtain ⟨A2, c2, rfl, HL2, HA2, hb2⟩ := hP.open HO
    have HB2 := hide (below_call HB1.out hb2)
    have HR4 := hide (HR3.out.call hb2)
    clear hP hb2
    have x0 := HR4.out.cell (k := 0) rfl
    have x1 := HR4.out.cell (k := 1) rfl
    have x2 := HR4.out.cell (k := 2) rfl
    have x3 := HR4.out.cell (k := 3) rfl
    have x4 := HR4.out.cell (k := 4) rfl
    go_wp2_with fail
    refine (euses_any o a b c m _).mono ?_
    rintro e w5 hP
    obtain ⟨A5, c5, rfl, HL5, HA5, hb5⟩ := hP.open HU
    have HB5 := hide (below_call HB2.out hb5)
    have HL6 := hide (HL2.out.below hb5)
    clear hP hb5 x0 x1 x2 x3 x4
    go_wp2_with fail
    refine (t_union c2 c5 HL6 HL5 HO HU (hide (hT.out.below HB5.out)) HR2).mono ?_
    rintro e w6 hP
    obtain ⟨A6, c6, rfl, -, -⟩ := id hP
    have HP := hide (hP.lift HB5.out)
    clear hP
    go_wp2_with fail
    go_ret
    exact HP.out
  | false =>
    rw [hd, dfI_off hd] at cd
    rw [show outL o a l = l by unfold outL; rw [hd]; rfl] at HO HR2
    clear hW hR hB hd
    go_enter Tryd.func35, Tryd.ntmps35
    go_upto_region 1 with (fail)
    rw [HW.out]
    clear HW
    go_wp2_with fail
    refine cd.mono ?_
    rintro e w1 ⟨rfl, h1⟩
    have HB1 := hide (below_call HB.out h1)
    have HR3 := hide (HR.out.call h1)
    have HL1 := hide (HL.out.below h1)
    clear h1 x0 x1 x2 x3 x4 cd
    have x0 := HR3.out.cell (k := 0) rfl
    have x1 := HR3.out.cell (k := 1) rfl
    have x2 := HR3.out.cell (k := 2) rfl
    have x3 := HR3.out.cell (k := 3) rfl
    have x4 := HR3.out.cell (k := 4) rfl
    go_wp2_with fail
    refine (euses_any o a b c m _).mono ?_
    rintro e w5 hP
    obtain ⟨A5, c5, rfl, HL5, HA5, hb5⟩ := hP.open HU
    have HB5 := hide (below_call HB1.out hb5)
    have HL6 := hide (HL1.out.below hb5)
    clear hP hb5 x0 x1 x2 x3 x4
    go_wp2_with fail
    refine (t_union cp c5 HL6 HL5 HA HU (hide (hT.out.below HB5.out)) HR2).mono ?_
    rintro e w6 hP
    obtain ⟨A6, c6, rfl, -, -⟩ := id hP
    have HP := hide (hP.lift HB5.out)
    clear hP
    go_wp2_with fail
    go_ret
    exact HP.out
theorem ein_any (o a b c m : Int) (A : Option Addr) (n cp : Nat) (l : List Int) (w : World) (ha0 : -9223372036854775808 ≤ a) (ha1 : a ≤ 9223372036854775807) (hb0 : 0 ≤ b) (hb1 : b < 512) (hL : Hid (Lst w A n l)) (HA : Hid (Asc l)) (hT : Hid (Tab w)) :
    Calls Tryd.prog 35 #[iv o a b c m, .slice A n cp] w (OutPost (inL o a b l) w) := ein_use o a b c m A n cp l w (hide fun _ => ⟨ha0, ha1⟩) (hide (usL_asc o hb0 hb1)) hL HA hT
end Go.Proofs.YtidlnecgfgnllaaDoor
end
