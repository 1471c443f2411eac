import Derived.Test.YtjbgepjdohfhkaaMArst
import Derived.Test.YtjbgepjdohfhkaaMLsam
import Derived.Test.YtjbgepjdohfhkaaMBrf
import Derived.Test.YtjbgepjdohfhkaaMBref
import Derived.Deep.LoopGhost
set_option linter.unusedVariables false
set_option linter.unusedSimpArgs false
section
/-
  The contracts of the reference's Same and Solve (chapter 16): Solve gives the least solution. Conditions: those of the types; the function is right.
-/
namespace Go.Proofs.Ytjbgepjdohfhkaa
open Go.RowKit

set_option maxHeartbeats 1000000 in
theorem rsame16_any (A : Option Addr) (n c : Nat) (A' : Option Addr) (n' c' : Nat) (zss yss : List (List Int)) (w : World) (h : Hid (Ann w A n zss)) (h' : Hid (Ann w A' n' yss)) :
    Calls Try.prog 10 #[.agg #[.slice A n c], .agg #[.slice A' n' c']] w fun e w' => e = .returned (.bool (decide (zss = yss))) ∧ Below w.heap.size w w' := by
  obtain ⟨W, hW⟩ : ∃ W, (w.alloc (.cells #[.slice A n c] 30)).alloc (.cells #[.slice A' n' c'] 30) = W := ⟨_, rfl⟩
  have hb := hide (show Below w.heap.size w W by rw [← hW]; exact below2 w _ _)
  have r0 := hide (show Row W w.heap.size 30 [.slice A n c] by rw [← hW]; exact (Row.new w _ _).alloc _)
  have r1 := hide (show Row W (w.heap.size + 1) 30 [.slice A' n' c'] by rw [← hW]; exact (Row.new _ _ _).at_ (by simp))
  have cs := sameann_any A n c A' n' c' zss yss W (hide (h.out.below hb.out)) (hide (h'.out.below hb.out))
  have HW := hide hW
  clear hW
  go_enter Try.func10, Try.ntmps10
  go_upto_region 1 with (fail)
  rw [HW.out]
  have x0 := r0.out.cell (k := 0) rfl
  have x1 := r1.out.cell (k := 0) rfl
  go_wp2_with fail
  refine cs.mono ?_
  rintro e w2 ⟨rfl, hb2⟩
  have HB := hide (below_call hb.out hb2)
  clear hb2 x0 x1
  go_wp2_with fail
  go_ret
  exact ⟨rfl, HB.out⟩
/-- What Solve keeps in memory: the last annotation. -/
structure SvI (w : World) (P : Int) (A1 : Option Addr) (n1 c1 : Nat) (A2 : Option Addr) (n2 c2 : Nat) (g c : Nat) (vs sp : List Value) (zss : List (List Int)) (wr : World) : Prop where
  f : Row wr w.heap.size 27 [.int .i64 P, .slice A1 n1 c1, .slice A2 n2 c2]
  res : Row wr (w.heap.size + 1) 30 [.slice none 0 0]
  x : Row wr (w.heap.size + 2 + 1) 30 [.slice (some ⟨g, 0, none⟩) n2 c]
  o : Anw wr w.heap.size g vs sp zss
  b : Below w.heap.size w wr
section
variable {P : Int} {A1 : Option Addr} {n1 c1 : Nat} {A2 : Option Addr} {n2 c2 g c : Nat} {l : List Ins} {zss yss : List (List Int)} {M : Nat} {w wr w2 : World} {vs us sp up : List Value}
theorem SvI.call (h : SvI w P A1 n1 c1 A2 n2 c2 g c vs sp zss wr) (hb : Below wr.heap.size wr w2) : SvI w P A1 n1 c1 A2 n2 c2 g c vs sp zss w2 := ⟨h.f.call hb, h.res.call hb, h.x.call hb, h.o.below hb, below_call h.b hb⟩
theorem SvI.turn {g' c' : Nat} (h : SvI w P A1 n1 c1 A2 n2 c2 g c vs sp zss wr) (ho : Anw wr w.heap.size g' us up yss) : SvI w P A1 n1 c1 A2 n2 c2 g' c' us up yss (wr.setCell ⟨w.heap.size + 2 + 1, 0, none⟩ (.slice (some ⟨g', 0, none⟩) n2 c')) :=
  ⟨h.f.far (p := ⟨w.heap.size + 2 + 1, 0, none⟩) (by simp; omega) _, h.res.far (p := ⟨w.heap.size + 2 + 1, 0, none⟩) (by simp) _, h.x.set_ 0 _, ho.farc (p := ⟨w.heap.size + 2 + 1, 0, none⟩) h.x rfl (by decide) (by decide), h.b.setCell (p := ⟨w.heap.size + 2 + 1, 0, none⟩) (by simp; omega) _⟩
set_option maxRecDepth 100000 in
set_option maxHeartbeats 4000000 in
theorem rsolve_any (w : World) (hC : Hid (CdAt w A2 n2 l)) (hok : Hid (LvOk l M)) :
    Calls Try.prog 9 #[fv P A1 n1 c1 A2 n2 c2] w (LvPost (solL l M) w) := by
  obtain ⟨j0, ji, jz0, jz1, jz2⟩ := info_parts infoS
  have hlen := hC.out.len
  have hn2 := hC.out.few
  have hmk := fmade2 (P := Try.prog) Try.underlying28 ji jz0 jz1 (by omega) rfl n2 (by omega) (L := nils n2) rfl
  obtain ⟨W2, hW2⟩ : ∃ W, (w.alloc (.cells #[.int .i64 P, .slice A1 n1 c1, .slice A2 n2 c2] 27)).alloc (.cells #[.slice none 0 0] 30) = W := ⟨_, rfl⟩
  have F2 := hide (show Row W2 w.heap.size 27 [.int .i64 P, .slice A1 n1 c1, .slice A2 n2 c2] by rw [← hW2]; exact (Row.new w _ _).alloc _)
  have R2 := hide (show Row W2 (w.heap.size + 1) 30 [.slice none 0 0] by rw [← hW2]; exact (Row.new _ _ _).at_ (by simp))
  have B2 := hide (show Below w.heap.size w W2 by rw [← hW2]; exact below2 w _ _)
  have hs2 : W2.heap.size = w.heap.size + 2 := by rw [← hW2]; simp
  obtain ⟨W4, hW4⟩ : ∃ W, (W2.alloc (.cells (nils n2).toArray 38)).alloc (.cells #[.slice (some ⟨w.heap.size + 2, 0, none⟩) n2 n2] 30) = W := ⟨_, rfl⟩
  have I4 := hide (show SvI w P A1 n1 c1 A2 n2 c2 (w.heap.size + 2) n2 (nils n2) [] (itL l 0) W4 by
    rw [show itL l 0 = List.replicate l.length [] from rfl, hlen, ← hW4]
    exact ⟨(F2.out.alloc _).alloc _, (R2.out.alloc _).alloc _, (Row.new _ _ _).at_ (by simp [hs2]), (Anw.make ((Row.new W2 _ _).at_ hs2) (by omega)).below (below1 _ _), (B2.out.alloc B2.out.size _).alloc (Nat.le_trans B2.out.size (by simp)) _⟩)
  have HW4 := hide hW4
  have HW2 := hide hW2
  have HS2 := hide hs2
  clear hW2 hs2 hW4
  go_enter Try.func9, Try.ntmps9
  go_upto_region 1 with (fail)
  rw [HW2.out]
  have q2 := F2.out.cell (k := 2) rfl
  clear HW2
  go_upto_region 2 with (fail)
  rw [HS2.out, HW4.out]
  clear q2 hmk HW4 HS2 F2 R2 B2
  go_loopg [4] (l.length * M + 1) (fun gg s4 wr => ∃ (t g c : Nat) (vs sp : List Value), l.length * M + 1 ≤ gg + szL (itL l t) ∧ Hid (SvI w P A1 n1 c1 A2 n2 c2 g c vs sp (itL l t) wr))
  case atStart => exact ⟨0, _, _, _, _, by omega, I4⟩
  case round =>
    obtain ⟨t, g, c, vs, sp, hgg, hI⟩ := hrel
    clear I4
    have hLI := hide (itL_in hok.out t)
    have hB1 := it_bound hok.out t
    have hB2 := it_bound hok.out (t + 1)
    have HG := hide (fun h => it_grow hok.out t h)
    have HFS := hide (fun h => sol_first hok.out (t := t) h)
    have hl2 : (itL l t).length = n2 := by rw [hLI.out.len, hlen]
    have hl3 : (stepL l (itL l t)).length = n2 := by rw [stepL_len, hlen]
    have q0 := hI.out.f.cell (k := 0) rfl
    have q1 := hI.out.f.cell (k := 1) rfl
    have q2 := hI.out.f.cell (k := 2) rfl
    have x0 := hI.out.x.cell (k := 0) rfl
    have cs := rstep16_any (P := P) (A1 := A1) (n1 := n1) (c1 := c1) (c2 := c2) (cL := c) wr (hide (hC.out.below hI.out.b)) hok (hide (hI.out.o.ann hl2 (by omega))) (hide (by rw [← hlen]; exact hLI.out))
    have HSB := hide hI.out.b.size
    rw [show itL l (t + 1) = stepL l (itL l t) from rfl] at hB2 HG
    have HT1 := hide (show itL l (t + 1) = stepL l (itL l t) from rfl)
    obtain ⟨L, hL⟩ : ∃ L, itL l t = L := ⟨_, rfl⟩
    rw [hL] at hgg hI hLI hB1 hB2 HG HFS hl2 hl3 cs HT1
    obtain ⟨L', hL'⟩ : ∃ L', stepL l L = L' := ⟨_, rfl⟩
    rw [hL'] at hB2 HG HFS hl3 cs HT1
    clear hL hL'
    go_wp2_with fail
    refine cs.mono ?_
    rintro e w5 ⟨g5, c5, us, up, rfl, ho5, hb5⟩
    rw [hl3]
    obtain ⟨W6, hW6⟩ : ∃ W, w5.alloc (.cells #[.slice (some ⟨g5, 0, none⟩) n2 c5] 30) = W := ⟨_, rfl⟩
    have hb6 : Below w5.heap.size w5 W6 := by rw [← hW6]; exact below1 _ _
    have I6 := hide ((hI.out.call hb5).call hb6)
    have O6 := hide ((ho5.lower HSB.out).below hb6)
    have N6 := hide (show Row W6 w5.heap.size 30 [.slice (some ⟨g5, 0, none⟩) n2 c5] by rw [← hW6]; exact Row.new w5 _ _)
    have HW6 := hide hW6
    obtain ⟨X, hX⟩ : ∃ X, w5.heap.size = X := ⟨_, rfl⟩
    rw [hX] at N6
    have HX := hide hX
    have cm := rsame16_any (some ⟨g5, 0, none⟩) n2 c5 (some ⟨g, 0, none⟩) n2 c L' L W6 (hide (O6.out.ann hl3 (by omega))) (hide (I6.out.o.ann hl2 (by omega)))
    clear hb5 hb6 hW6 ho5 hI cs q0 q1 q2 x0 hX HSB
    go_upto_region 3 with (fail)
    rw [HW6.out, HX.out]
    have y0 := I6.out.x.cell (k := 0) rfl
    have y1 := N6.out.cell (k := 0) rfl
    go_wp2_with fail
    refine cm.mono ?_
    rintro e w7 ⟨rfl, hb7⟩
    have I7 := hide (I6.out.call hb7)
    have O7 := hide (O6.out.below hb7)
    have N7 := hide (N6.out.call hb7)
    clear hb7 y0 y1 cm I6 O6 N6 HW6 HX
    by_cases he : L' = L
    · rw [decide_eq_true he]
      subst he
      have HSOL := HFS.out rfl
      have x1 := I7.out.x.cell (k := 0) rfl
      have z1 := I7.out.res.cell (k := 0) rfl
      have z2 := I7.out.res.free 0
      obtain ⟨W9, hW9⟩ : ∃ W, w7.setCell ⟨w.heap.size + 1, 0, none⟩ (.slice (some ⟨g, 0, none⟩) n2 c) = W := ⟨_, rfl⟩
      have HF := hide (show LvPost (solL l M) w (.returned (.agg #[.slice (some ⟨g, 0, none⟩) n2 c])) W9 from
        ⟨g, c, vs, sp, by rw [(sol_in hok.out).len, hlen], by rw [← hW9, ← HSOL]; exact I7.out.o.farc (p := ⟨w.heap.size + 1, 0, none⟩) I7.out.res rfl (by decide) (by decide), by rw [← hW9]; exact I7.out.b.setCell (p := ⟨w.heap.size + 1, 0, none⟩) (by simp) _⟩)
      have R9 := I7.out.res.set_ 0 (.slice (some ⟨g, 0, none⟩) n2 c)
      rw [hW9] at R9
      have HW9 := hide hW9
      have hld := load_row (agg_live (w := W9)) (size_live (w := W9)) rfl R9
      clear hW9 R9 HSOL
      go_wp2_with fail
      rw [HW9.out]
      exact bodyPost_ret (results_cell1 (fn := Try.f9) (t := 2) (T := 30) rfl _ W9 _ _ _ rfl hld) rfl HF.out
    · rw [decide_eq_false he]
      have hgr := HG.out he
      have x1 := I7.out.x.cell (k := 0) rfl
      have z2 := I7.out.x.free 0
      have y1 := N7.out.cell (k := 0) rfl
      have I8 := hide (I7.out.turn (c' := c5) O7.out)
      rw [← HT1.out] at I8 hgr
      clear he HG HFS
      go_wp2_with fail
      go_roundg (gk - 1)
      case rel => exact ⟨t + 1, g5, c5, us, up, by omega, I8⟩
      case measure => omega
end
end Go.Proofs.Ytjbgepjdohfhkaa
end

section
/-
  The reference's Add on sets.
-/
namespace Go.Proofs.Ytjbgepjdohfhkaa
open Go.RowKit
section
variable {A A' : Option Addr} {n n' : Nat} {a b r : List Int} {w : World}
theorem s_add (c : Nat) {x : Int} (h : Hid (Lst w A n a)) (ha : Hid (Asc a)) (hr : Hid (addL a x = r)) : Calls Try.prog 29 #[.slice A n c, .int .i64 x] w (OutPost r w) := by
  have := radd_any A n c a x w h (by have := few h ha; omega)
  rwa [hr.out] at this
end
end Go.Proofs.Ytjbgepjdohfhkaa
end
