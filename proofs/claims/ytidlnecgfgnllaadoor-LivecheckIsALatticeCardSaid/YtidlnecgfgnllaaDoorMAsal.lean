import Derived.Test.YtidlnecgfgnllaaDoorMBtrem
import Derived.Test.YtidlnecgfgnllaaDoorMFrows
import Derived.Test.YtidlnecgfgnllaaDoorMArst
import Derived.Test.YtidlnecgfgnllaaDoorMPmath
import Derived.Test.YtidlnecgfgnllaaDoorMBref
import Derived.Deep.DeepCutAuto
import Derived.Deep.QuietTactic
import Derived.BigQuiet
import Derived.Deep.LoopGhost
set_option linter.unusedVariables false
set_option linter.unusedSimpArgs false
section
/-
  The contract of the reference's SameAll at any two rows of lists. Conditions: those of the types; at most 1048576 lists.
-/
namespace Go.Proofs.YtidlnecgfgnllaaDoor
open Go.RowKit

theorem ann_ne {zss yss : List (List Int)} {k : Nat} (h : k < zss.length) (h' : k < yss.length) (hne : zss.getD k [] ≠ yss.getD k []) : decide (zss = yss) = false := by
  rw [decide_eq_false_iff_not]
  rintro rfl
  exact hne rfl
theorem ann_more {zss yss : List (List Int)} {k : Nat} (h : k < zss.length) (h' : k < yss.length) (ht : zss.take k = yss.take k) (he : zss.getD k [] = yss.getD k []) : zss.take (k + 1) = yss.take (k + 1) := by
  rw [List.getD_eq_getElem?_getD, List.getD_eq_getElem?_getD, List.getElem?_eq_getElem h, List.getElem?_eq_getElem h'] at he
  rw [List.take_succ_eq_append_getElem h, List.take_succ_eq_append_getElem h', ht]
  simp only [Option.getD_some] at he
  rw [he]
set_option maxRecDepth 100000 in
set_option maxHeartbeats 1000000 in
theorem sameann_any (A : Option Addr) (n c : Nat) (A' : Option Addr) (n' c' : Nat) (zss yss : List (List Int)) (w : World) (h : Hid (Ann w A n zss)) (h' : Hid (Ann w A' n' yss)) :
    Calls Tryd.prog 59 #[.slice A n c, .slice A' n' c'] w fun e w' => e = .returned (.bool (decide (zss = yss))) ∧ Below w.heap.size w w' := by
  have hz1 := h.out.len
  have hz2 := h'.out.len
  have hz3 := h.out.le
  by_cases hnn : n = n'
  · subst hnn
    obtain ⟨b, hb⟩ : ∃ b, decide (zss = yss) = b := ⟨_, rfl⟩
    rw [hb]
    have HB := hide hb
    clear hb
    go_enter Tryd.func59, Tryd.ntmps59
    go_wp2_with fail
    go_loopw [5] (fun s wr => ∃ k : Nat, k ≤ n ∧ s = .int .i64 (k : Int) ∧ Hid (zss.take k = yss.take k) ∧ Hid (Below w.heap.size w wr)) (fun s _ => n - (intOf s).toNat)
    case atStart => exact ⟨0, by omega, rfl, hide rfl, hide (Below.refl _ _)⟩
    case round =>
      obtain ⟨k, hk, rfl, hT, hbr⟩ := hrel
      by_cases hlt : k < n
      · obtain ⟨b1, o1, A1, c1, rfl, hb1, x0, hl1, -⟩ := (h.out.below hbr.out).at_ hlt
        obtain ⟨b2, o2, A2, c2, rfl, hb2, y0, hl2, -⟩ := (h'.out.below hbr.out).at_ hlt
        have N1 := hide (fun hne => HB.out.symm.trans (ann_ne (by omega) (by omega) (k := k) hne))
        have N2 := hide (fun he => ann_more (zss := zss) (yss := yss) (by omega) (by omega) hT.out he)
        generalize zss.getD k [] = xs at x0 hl1 N1 N2
        generalize yss.getD k [] = ys at y0 hl2 N1 N2
        have q0 : ∀ p : After wr, p.w.cell? ⟨b1, o1 + k, none⟩ = some (.slice A1 xs.length c1) := fun p => after_cell x0 p
        have q1 : ∀ p : After wr, p.w.cell? ⟨b2, o2 + k, none⟩ = some (.slice A2 ys.length c2) := fun p => after_cell y0 p
        have cA : ∀ p : After wr, Calls Tryd.prog 79 #[.slice A1 xs.length c1, .slice A2 ys.length c2] p.w (fun e w' => e = .returned (.bool (decide (xs = ys))) ∧ Below p.w.heap.size p.w w') := fun p => (lsame_any A1 xs.length c1 xs A2 ys.length c2 ys p.w (hide (hl1.below p.b)) (hide (hl2.below p.b))).mono fun e w' q => by
          unfold BoolPost at q
          obtain ⟨he, j, rfl⟩ := q
          exact ⟨he, below_draws (Below.refl _ _) _⟩
        have hk0 : (0 : Int) ≤ (k : Int) := by omega
        have hkn : (k : Int) < (n : Int) := by omega
        by_cases hxy : xs = ys
        · rw [decide_eq_true hxy] at cA
          have H2 := hide (N2.out hxy)
          have C1 := hide cA
          clear cA x0 y0 hl1 hl2 hz1 hz2 N1 N2 hxy hb1 hb2
          go_upto_region 6 with (fail)
          refine wp_region_after (by kernel_rfl) (by kernel_rfl) ?_
          repeat (go_big_quiet_step (first | (go_at_call 79; with_reducible exact after_of (C1.out _))))
          refine wpQuiet_nil ?_
          intro _ hw'
          obtain ⟨p1, hw''⟩ := hw'
          subst hw''
          have HB2 := hide (below_call hbr.out p1.b)
          clear q0 q1 C1
          go_wp2_with fail
          go_roundw
          case rel => exact ⟨k + 1, by omega, by go_num, H2, HB2⟩
          case measure => simp [intOf]; omega
        · rw [decide_eq_false hxy] at cA
          have H2 := hide (N1.out hxy)
          have C1 := hide cA
          clear cA x0 y0 hl1 hl2 hz1 hz2 N1 N2 hxy hb1 hb2
          go_upto_region 6 with (fail)
          refine wp_region_after (by kernel_rfl) (by kernel_rfl) ?_
          repeat (go_big_quiet_step (first | (go_at_call 79; with_reducible exact after_of (C1.out _))))
          refine wpQuiet_nil ?_
          intro _ hw'
          obtain ⟨p1, hw''⟩ := hw'
          subst hw''
          have HB2 := hide (below_call hbr.out p1.b)
          clear q0 q1 C1
          go_wp2_with fail
          go_ret
          exact ⟨ret_bool H2.out.symm, HB2.out⟩
      · obtain rfl : k = n := by omega
        have hB := hide (HB.out.symm.trans (decide_eq_true (by
          have := hT.out
          rwa [List.take_of_length_le (by omega), List.take_of_length_le (by omega)] at this)))
        go_wp2_with fail
        go_ret
        exact ⟨ret_bool hB.out.symm, hbr.out⟩
  · have hne : ((n : Int) != (n' : Int)) = true := by rw [bne_iff_ne]; omega
    have HB := hide (show decide (zss = yss) = false by
      rw [decide_eq_false_iff_not]
      rintro rfl
      omega)
    go_enter Tryd.func59, Tryd.ntmps59
    go_wp2_with fail
    go_ret
    exact ⟨ret_bool HB.out.symm, Below.refl _ _⟩
end Go.Proofs.YtidlnecgfgnllaaDoor
end

section
/-
  The contracts of the reference's Same and Solve (chapter 16): Solve gives the least solution. Conditions: those of the types; the function is right.
-/
namespace Go.Proofs.YtidlnecgfgnllaaDoor
open Go.RowKit

set_option maxHeartbeats 1000000 in
theorem rsame16_any (A : Option Addr) (n c : Nat) (A' : Option Addr) (n' c' : Nat) (zss yss : List (List Int)) (w : World) (h : Hid (Ann w A n zss)) (h' : Hid (Ann w A' n' yss)) :
    Calls Tryd.prog 38 #[.agg #[.slice A n c], .agg #[.slice A' n' c']] w fun e w' => e = .returned (.bool (decide (zss = yss))) ∧ Below w.heap.size w w' := by
  obtain ⟨W, hW⟩ : ∃ W, (w.alloc (.cells #[.slice A n c] 25)).alloc (.cells #[.slice A' n' c'] 25) = W := ⟨_, rfl⟩
  have hb := hide (show Below w.heap.size w W by rw [← hW]; exact below2 w _ _)
  have r0 := hide (show Row W w.heap.size 25 [.slice A n c] by rw [← hW]; exact (Row.new w _ _).alloc _)
  have r1 := hide (show Row W (w.heap.size + 1) 25 [.slice A' n' c'] by rw [← hW]; exact (Row.new _ _ _).at_ (by simp))
  have cs := sameann_any A n c A' n' c' zss yss W (hide (h.out.below hb.out)) (hide (h'.out.below hb.out))
  have HW := hide hW
  clear hW
  go_enter Tryd.func38, Tryd.ntmps38
  go_upto_region 1 with (fail)
  rw [HW.out]
  have x0 := r0.out.cell (k := 0) rfl
  have x1 := r1.out.cell (k := 0) rfl
  go_wp2_with fail
  refine cs.mono ?_
  rintro e w2 ⟨rfl, hb2⟩
  have HB := hide (below_call hb.out hb2)
  clear hb2 x0 x1
  go_wp2_with fail
  go_ret
  exact ⟨rfl, HB.out⟩
/-- What Solve keeps in memory: the last annotation. -/
structure SvI (w : World) (P : Int) (A1 : Option Addr) (n1 c1 : Nat) (A2 : Option Addr) (n2 c2 : Nat) (g c : Nat) (vs sp : List Value) (zss : List (List Int)) (wr : World) : Prop where
  f : Row wr w.heap.size 30 [.int .i64 P, .slice A1 n1 c1, .slice A2 n2 c2]
  res : Row wr (w.heap.size + 1) 25 [.slice none 0 0]
  x : Row wr (w.heap.size + 2 + 1) 25 [.slice (some ⟨g, 0, none⟩) n2 c]
  o : Anw wr w.heap.size g vs sp zss
  b : Below w.heap.size w wr
section
variable {P : Int} {A1 : Option Addr} {n1 c1 : Nat} {A2 : Option Addr} {n2 c2 g c : Nat} {l : List Ins} {zss yss : List (List Int)} {M : Nat} {w wr w2 : World} {vs us sp up : List Value}
theorem SvI.call (h : SvI w P A1 n1 c1 A2 n2 c2 g c vs sp zss wr) (hb : Below wr.heap.size wr w2) : SvI w P A1 n1 c1 A2 n2 c2 g c vs sp zss w2 := ⟨h.f.call hb, h.res.call hb, h.x.call hb, h.o.below hb, below_call h.b hb⟩
theorem SvI.turn {g' c' : Nat} (h : SvI w P A1 n1 c1 A2 n2 c2 g c vs sp zss wr) (ho : Anw wr w.heap.size g' us up yss) : SvI w P A1 n1 c1 A2 n2 c2 g' c' us up yss (wr.setCell ⟨w.heap.size + 2 + 1, 0, none⟩ (.slice (some ⟨g', 0, none⟩) n2 c')) :=
  ⟨h.f.far (p := ⟨w.heap.size + 2 + 1, 0, none⟩) (by simp; omega) _, h.res.far (p := ⟨w.heap.size + 2 + 1, 0, none⟩) (by simp) _, h.x.set_ 0 _, ho.farc (p := ⟨w.heap.size + 2 + 1, 0, none⟩) h.x rfl (by decide) (by decide), h.b.setCell (p := ⟨w.heap.size + 2 + 1, 0, none⟩) (by simp; omega) _⟩
set_option maxRecDepth 100000 in
set_option maxHeartbeats 4000000 in
theorem rsolve_any (w : World) (hC : Hid (CdAt w A2 n2 l)) (hok : Hid (LvOk l M)) :
    Calls Tryd.prog 16 #[fv P A1 n1 c1 A2 n2 c2] w (LvPost (solL l M) w) := by
  obtain ⟨j0, ji, jz0, jz1, jz2⟩ := info_parts infoS
  have hlen := hC.out.len
  have hn2 := hC.out.few
  have hmk := fmade2 (P := Tryd.prog) Tryd.underlying23 ji jz0 jz1 (by omega) rfl n2 (by omega) (L := nils n2) rfl
  obtain ⟨W2, hW2⟩ : ∃ W, (w.alloc (.cells #[.int .i64 P, .slice A1 n1 c1, .slice A2 n2 c2] 30)).alloc (.cells #[.slice none 0 0] 25) = W := ⟨_, rfl⟩
  have F2 := hide (show Row W2 w.heap.size 30 [.int .i64 P, .slice A1 n1 c1, .slice A2 n2 c2] by rw [← hW2]; exact (Row.new w _ _).alloc _)
  have R2 := hide (show Row W2 (w.heap.size + 1) 25 [.slice none 0 0] by rw [← hW2]; exact (Row.new _ _ _).at_ (by simp))
  have B2 := hide (show Below w.heap.size w W2 by rw [← hW2]; exact below2 w _ _)
  have hs2 : W2.heap.size = w.heap.size + 2 := by rw [← hW2]; simp
  obtain ⟨W4, hW4⟩ : ∃ W, (W2.alloc (.cells (nils n2).toArray 42)).alloc (.cells #[.slice (some ⟨w.heap.size + 2, 0, none⟩) n2 n2] 25) = W := ⟨_, rfl⟩
  have I4 := hide (show SvI w P A1 n1 c1 A2 n2 c2 (w.heap.size + 2) n2 (nils n2) [] (itL l 0) W4 by
    rw [show itL l 0 = List.replicate l.length [] from rfl, hlen, ← hW4]
    exact ⟨(F2.out.alloc _).alloc _, (R2.out.alloc _).alloc _, (Row.new _ _ _).at_ (by simp [hs2]), (Anw.make ((Row.new W2 _ _).at_ hs2) (by omega)).below (below1 _ _), (B2.out.alloc B2.out.size _).alloc (Nat.le_trans B2.out.size (by simp)) _⟩)
  have HW4 := hide hW4
  have HW2 := hide hW2
  have HS2 := hide hs2
  clear hW2 hs2 hW4
  go_enter Tryd.func16, Tryd.ntmps16
  go_upto_region 1 with (fail)
  rw [HW2.out]
  have q2 := F2.out.cell (k := 2) rfl
  clear HW2
  go_upto_region 2 with (fail)
  rw [HS2.out, HW4.out]
  clear q2 hmk HW4 HS2 F2 R2 B2
  go_loopg [4] (l.length * M + 1) (fun gg s4 wr => ∃ (t g c : Nat) (vs sp : List Value), l.length * M + 1 ≤ gg + szL (itL l t) ∧ Hid (SvI w P A1 n1 c1 A2 n2 c2 g c vs sp (itL l t) wr))
  case atStart => exact ⟨0, _, _, _, _, by omega, I4⟩
  case round =>
    obtain ⟨t, g, c, vs, sp, hgg, hI⟩ := hrel
    clear I4
    have hLI := hide (itL_in hok.out t)
    have hB1 := it_bound hok.out t
    have hB2 := it_bound hok.out (t + 1)
    have HG := hide (fun h => it_grow hok.out t h)
    have HFS := hide (fun h => sol_first hok.out (t := t) h)
    have hl2 : (itL l t).length = n2 := by rw [hLI.out.len, hlen]
    have hl3 : (stepL l (itL l t)).length = n2 := by rw [stepL_len, hlen]
    have q0 := hI.out.f.cell (k := 0) rfl
    have q1 := hI.out.f.cell (k := 1) rfl
    have q2 := hI.out.f.cell (k := 2) rfl
    have x0 := hI.out.x.cell (k := 0) rfl
    have cs := rstep16_any (P := P) (A1 := A1) (n1 := n1) (c1 := c1) (c2 := c2) (cL := c) wr (hide (hC.out.below hI.out.b)) hok (hide (hI.out.o.ann hl2 (by omega))) (hide (by rw [← hlen]; exact hLI.out))
    have HSB := hide hI.out.b.size
    rw [show itL l (t + 1) = stepL l (itL l t) from rfl] at hB2 HG
    have HT1 := hide (show itL l (t + 1) = stepL l (itL l t) from rfl)
    obtain ⟨L, hL⟩ : ∃ L, itL l t = L := ⟨_, rfl⟩
    rw [hL] at hgg hI hLI hB1 hB2 HG HFS hl2 hl3 cs HT1
    obtain ⟨L', hL'⟩ : ∃ L', stepL l L = L' := ⟨_, rfl⟩
    rw [hL'] at hB2 HG HFS hl3 cs HT1
    clear hL hL'
    go_wp2_with fail
    refine cs.mono ?_
    rintro e w5 ⟨g5, c5, us, up, rfl, ho5, hb5⟩
    rw [hl3]
    obtain ⟨W6, hW6⟩ : ∃ W, w5.alloc (.cells #[.slice (some ⟨g5, 0, none⟩) n2 c5] 25) = W := ⟨_, rfl⟩
    have hb6 : Below w5.heap.size w5 W6 := by rw [← hW6]; exact below1 _ _
    have I6 := hide ((hI.out.call hb5).call hb6)
    have O6 := hide ((ho5.lower HSB.out).below hb6)
    have N6 := hide (show Row W6 w5.heap.size 25 [.slice (some ⟨g5, 0, none⟩) n2 c5] by rw [← hW6]; exact Row.new w5 _ _)
    have HW6 := hide hW6
    obtain ⟨X, hX⟩ : ∃ X, w5.heap.size = X := ⟨_, rfl⟩
    rw [hX] at N6
    have HX := hide hX
    have cm := rsame16_any (some ⟨g5, 0, none⟩) n2 c5 (some ⟨g, 0, none⟩) n2 c L' L W6 (hide (O6.out.ann hl3 (by omega))) (hide (I6.out.o.ann hl2 (by omega)))
    clear hb5 hb6 hW6 ho5 hI cs q0 q1 q2 x0 hX HSB
    go_upto_region 3 with (fail)
    rw [HW6.out, HX.out]
    have y0 := I6.out.x.cell (k := 0) rfl
    have y1 := N6.out.cell (k := 0) rfl
    go_wp2_with fail
    refine cm.mono ?_
    rintro e w7 ⟨rfl, hb7⟩
    have I7 := hide (I6.out.call hb7)
    have O7 := hide (O6.out.below hb7)
    have N7 := hide (N6.out.call hb7)
    clear hb7 y0 y1 cm I6 O6 N6 HW6 HX
    by_cases he : L' = L
    · rw [decide_eq_true he]
      subst he
      have HSOL := HFS.out rfl
      have x1 := I7.out.x.cell (k := 0) rfl
      have z1 := I7.out.res.cell (k := 0) rfl
      have z2 := I7.out.res.free 0
      obtain ⟨W9, hW9⟩ : ∃ W, w7.setCell ⟨w.heap.size + 1, 0, none⟩ (.slice (some ⟨g, 0, none⟩) n2 c) = W := ⟨_, rfl⟩
      have HF := hide (show LvPost (solL l M) w (.returned (.agg #[.slice (some ⟨g, 0, none⟩) n2 c])) W9 from
        ⟨g, c, vs, sp, by rw [(sol_in hok.out).len, hlen], by rw [← hW9, ← HSOL]; exact I7.out.o.farc (p := ⟨w.heap.size + 1, 0, none⟩) I7.out.res rfl (by decide) (by decide), by rw [← hW9]; exact I7.out.b.setCell (p := ⟨w.heap.size + 1, 0, none⟩) (by simp) _⟩)
      have R9 := I7.out.res.set_ 0 (.slice (some ⟨g, 0, none⟩) n2 c)
      rw [hW9] at R9
      have HW9 := hide hW9
      have hld := load_row (agg_live (w := W9)) (size_live (w := W9)) rfl R9
      clear hW9 R9 HSOL
      go_wp2_with fail
      rw [HW9.out]
      exact bodyPost_ret (results_cell1 (fn := Tryd.f16) (t := 2) (T := 25) rfl _ W9 _ _ _ rfl hld) rfl HF.out
    · rw [decide_eq_false he]
      have hgr := HG.out he
      have x1 := I7.out.x.cell (k := 0) rfl
      have z2 := I7.out.x.free 0
      have y1 := N7.out.cell (k := 0) rfl
      have I8 := hide (I7.out.turn (c' := c5) O7.out)
      rw [← HT1.out] at I8 hgr
      clear he HG HFS
      go_wp2_with fail
      go_roundg (gk - 1)
      case rel => exact ⟨t + 1, g5, c5, us, up, by omega, I8⟩
      case measure => omega
end
end Go.Proofs.YtidlnecgfgnllaaDoor
end

section
/-
  A slot added to the sets of an annotation, as mathematics. No function of the program is named here.
-/
namespace Go.Proofs.YtidlnecgfgnllaaDoor
open Go.RowKit

/-- Slot s is added to the first k sets. -/
def adI (L : List (List Int)) (s : Int) (k : Nat) : List (List Int) := (List.range L.length).map fun m => if m < k then addL (L.getD m []) s else L.getD m []
section
variable {L : List (List Int)} {s z : Int} {k n M : Nat}
theorem adI_len (L : List (List Int)) (s : Int) (k : Nat) : (adI L s k).length = L.length := by simp [adI]
theorem adI_get (m : Nat) (h : m < L.length) : (adI L s k)[m]? = some (if m < k then addL (L.getD m []) s else L.getD m []) := by simp [adI, h]
theorem adI_getD (m : Nat) (h : m < L.length) : (adI L s k).getD m [] = if m < k then addL (L.getD m []) s else L.getD m [] := by rw [List.getD_eq_getElem?_getD, adI_get m h]; rfl
theorem adI_out (m : Nat) (h : ¬ m < L.length) : (adI L s k).getD m [] = [] := by rw [List.getD_eq_getElem?_getD, List.getElem?_eq_none (by rw [adI_len]; omega)]; rfl
theorem adI_start (L : List (List Int)) (s : Int) : adI L s 0 = L := by
  refine List.ext_getElem? fun m => ?_
  by_cases h : m < L.length
  · rw [adI_get m h, if_neg (by omega), List.getD_eq_getElem?_getD, List.getElem?_eq_getElem h]; rfl
  · rw [List.getElem?_eq_none (by rw [adI_len]; omega), List.getElem?_eq_none (by omega)]
theorem adI_at (h : k < L.length) : (adI L s k)[k]? = some (L.getD k []) := by rw [adI_get k h, if_neg (by omega)]
theorem adI_step (h : k < L.length) : adI L s (k + 1) = (adI L s k).set k (addL (L.getD k []) s) := by
  refine List.ext_getElem? fun m => ?_
  by_cases hm : m < L.length
  · rw [adI_get m hm, List.getElem?_set]
    by_cases e : k = m
    · subst e
      rw [if_pos (by omega), if_pos rfl, if_pos (by rw [adI_len]; exact h)]
    · rw [if_neg e, adI_get m hm]
      by_cases e2 : m < k
      · rw [if_pos (by omega), if_pos e2]
      · rw [if_neg (by omega), if_neg e2]
  · rw [List.getElem?_eq_none (by rw [adI_len]; omega), List.getElem?_eq_none (by rw [List.length_set, adI_len]; omega)]
theorem adI_in (h : LvIn n M L) (hs : s < M) (k : Nat) : LvIn n M (adI L s k) := by
  refine ⟨by rw [adI_len]; exact h.len, fun m => ?_, fun m z hz => ?_⟩
  · by_cases hm : m < L.length
    · rw [adI_getD m hm]
      split
      · exact addL_asc (h.asc m)
      · exact h.asc m
    · rw [adI_out m hm]; exact Asc.nil
  · by_cases hm : m < L.length
    · rw [adI_getD m hm] at hz
      split at hz
      · rcases mem_addL.1 hz with ⟨e, -⟩ | e
        · omega
        · exact h.lt m z e
      · exact h.lt m z hz
    · rw [adI_out m hm] at hz; cases hz
theorem adI_sub {L0 : List (List Int)} (h : SubL L0 L) (hl : L0.length = L.length) (s : Int) (k : Nat) : SubL L0 (adI L s k) := fun m z hz => by
  by_cases hm : m < L.length
  · rw [adI_getD m hm]
    split
    · exact mem_addL.2 (.inr (h m z hz))
    · exact h m z hz
  · exfalso
    rw [List.getD_eq_getElem?_getD, List.getElem?_eq_none (by omega)] at hz
    cases hz
end
section
variable {L : List (List Int)} {s z : Int} {k n M : Nat} {l : List Ins}
theorem mem_adI (hL : L.length = n) (hk : k < n) (h0 : 0 ≤ s) (h1 : s < 512) : z ∈ (adI L s n).getD k [] ↔ z = s ∨ z ∈ L.getD k [] := by
  rw [adI_getD k (by omega), if_pos hk, mem_addL]
  constructor
  · rintro (h | h)
    · exact .inl h.1
    · exact .inr h
  · rintro (h | h)
    · exact .inl ⟨h, h0, h1⟩
    · exact .inr h
/-- A slot may be added to all sets. -/
theorem adI_acc (hok : LvOk l M) (a1 : LvIn l.length M L) (a2 : SubL (stepL l L) L) (h0 : 0 ≤ s) (h1 : s < M) : SubL (stepL l (adI L s l.length)) (adI L s l.length) := by
  have h5 := hok.few
  have hU := adI_in a1 h1 l.length
  intro k z hz
  have hk : k < l.length := by
    rcases Nat.lt_or_ge k l.length with h | h
    · exact h
    · rw [stepL_get, suc_none (by omega)] at hz
      cases hz
  rw [mem_adI a1.len hk h0 (by omega)]
  by_cases e : z = s
  · exact .inl e
  · right
    rw [stepL_get, mem_uniL hU.asc] at hz
    obtain ⟨j, hj, hz⟩ := hz
    refine a2 k z ?_
    rw [stepL_get, mem_uniL a1.asc]
    refine ⟨j, hj, ?_⟩
    cases hx : l[j]? with
    | none => unfold inK at hz; rw [hx] at hz; cases hz
    | some x =>
      have hjl : j < l.length := (List.getElem?_eq_some_iff.1 hx).1
      rw [mem_inK hok hx, mem_adI a1.len hjl h0 (by omega)] at hz
      rw [mem_inK hok hx]
      rcases hz with ⟨h | h, hn⟩ | h
      · exact (e h).elim
      · exact .inl ⟨h, hn⟩
      · exact .inr h
/-- It has all of the least solution, and all that it asks for. -/
def AccL (l : List Ins) (M : Nat) (L : List (List Int)) : Prop := SubL (solL l M) L ∧ SubL (stepL l L) L
end
end Go.Proofs.YtidlnecgfgnllaaDoor
end

section
/-
  The reference's Add on sets.
-/
namespace Go.Proofs.YtidlnecgfgnllaaDoor
open Go.RowKit
section
variable {A A' : Option Addr} {n n' : Nat} {a b r : List Int} {w : World}
theorem s_add (c : Nat) {x : Int} (h : Hid (Lst w A n a)) (ha : Hid (Asc a)) (hr : Hid (addL a x = r)) : Calls Tryd.prog 17 #[.slice A n c, .int .i64 x] w (OutPost r w) := by
  have := radd_any A n c a x w h (by have := few h ha; omega)
  rwa [hr.out] at this
end
end Go.Proofs.YtidlnecgfgnllaaDoor
end
