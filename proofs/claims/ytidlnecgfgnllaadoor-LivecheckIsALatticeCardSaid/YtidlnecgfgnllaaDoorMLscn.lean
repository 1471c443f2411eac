import Derived.Test.YtidlnecgfgnllaaDoorMDprog
import Derived.Test.YtidlnecgfgnllaaDoorMAdl
set_option linter.unusedVariables false
set_option linter.unusedSimpArgs false
section
/-
  The contract of the law package's scene (chapter 17): a right function and any annotation. Conditions: those of the types.
-/
namespace Go.Proofs.YtidlnecgfgnllaaDoor
open Go.RowKit

/-- What scene hands back: a right function, an annotation that can be read, the list of choices. -/
def ScPost17 (w : World) (e : Ending) (w' : World) : Prop :=
  ∃ (P : Int) (A1 : Option Addr) (n1 c1 : Nat) (A2 : Option Addr) (n2 c2 : Nat) (f : Fn) (N : Nat) (AL : Option Addr) (nL cL : Nat) (L : List (List Int)) (g lo : Nat),
    e = .returned (.tuple #[fv P A1 n1 c1 A2 n2 c2, .agg #[.slice AL nL cL], .pointer (some ⟨g, 0, none⟩)]) ∧ HdAt w' lo w'.heap.size ⟨P, A1, n1, c1, A2, n2, c2⟩ f ∧ fnE N f = 0 ∧ f.slots.length ≤ 6 ∧
    AnwD w' (g + 1) AL nL L ∧ Codes w' g ∧ g < lo ∧ w.heap.size ≤ g ∧ Below w.heap.size w w'
theorem sc17_fin {w V : World} {g lo X : Nat} {P : Int} {A1 : Option Addr} {n1 c1 : Nat} {A2 : Option Addr} {n2 c2 : Nat} {f : Fn} {r2 r3 : List Value} {N nL cL : Nat} {AL : Option Addr} {L : List (List Int)} (h : ScI w g lo X P A1 n1 c1 A2 n2 c2 f r2 r3 V) (he : fnE N f = 0) (hs : f.slots.length ≤ 6) (hO : AnwD V (g + 1) AL nL L) :
    ScPost17 w (.returned (.tuple #[fv P A1 n1 c1 A2 n2 c2, .agg #[.slice AL nL cL], .pointer (some ⟨g, 0, none⟩)])) V :=
  ⟨P, A1, n1, c1, A2, n2, c2, f, N, AL, nL, cL, L, g, lo, rfl, h.h, he, hs, hO, h.cd, h.gl, by have := h.wg; omega, h.b⟩
set_option maxRecDepth 100000 in
set_option maxHeartbeats 4000000 in
theorem scene17_any (A0 : Option Addr) (n0 c0 : Nat) (zs : List Int) (w : World)
    (hA : Hid (A0 = none → c0 = 0)) (hn : Hid (zs.length = n0)) (hnc : n0 ≤ c0) (hm : n0 ≤ 9223372036854775807) (hs : Hid (Sees w w.heap.size A0 (cellsU8 zs))) (hz : Hid (∀ z ∈ zs, 0 ≤ z ∧ z ≤ 255)) :
    Calls Tryd.prog 9 #[.slice A0 n0 c0] w (ScPost17 w) := by
  obtain ⟨W0, hW0⟩ : ∃ V, (w.alloc (.cells #[.int .i64 0, .slice none 0 0, .slice none 0 0] 30)).alloc (.cells #[.slice none 0 0] 25) = V := ⟨_, rfl⟩
  have HW0 := hide hW0
  have HB0 := hide (show Below w.heap.size w W0 by rw [← hW0]; exact below2 _ _ _)
  have HR0 := hide (show Row W0 w.heap.size 30 [.int .i64 0, .slice none 0 0, .slice none 0 0] by rw [← hW0]; exact (Row.new w _ _).alloc _)
  have HQ0 := hide (show Row W0 (w.heap.size + 1) 25 [.slice none 0 0] by rw [← hW0]; exact (Row.new _ _ _).at_ (by simp))
  have hs0 : W0.heap.size = w.heap.size + 2 := by rw [← hW0]; simp
  have HS0 := hide hs0
  clear hW0 hs0
  go_enter Tryd.func9, Tryd.ntmps9
  go_upto_region 1 with (fail)
  rw [HW0.out]
  clear HW0
  go_wp2_with fail
  refine (new_any A0 n0 c0 zs 250 W0 hA hn hnc hm (by omega) (hide ((hs.out.below HB0.out).more HB0.out.size)) hz).mono ?_
  rintro e W1 ⟨rfl, hC1, hb1⟩
  obtain ⟨g, hg⟩ : ∃ g, W0.heap.size = g := ⟨_, rfl⟩
  have HB1 := hide (below_call HB0.out hb1)
  have HR1 := hide (HR0.out.call hb1)
  have HQ1 := hide (HQ0.out.call hb1)
  rw [hg] at hC1 ⊢
  have HC1 := hide hC1
  have hgw : g = w.heap.size + 2 := by have := HS0.out; omega
  have hg1 := hC1.lt
  have hwg : w.heap.size + 1 < g := by omega
  clear hC1 hb1 hg hgw hs hz hA hn HB0 HR0 HQ0 HS0
  go_upto_region 3 with (go_at_call 24; refine (prog_any g 3 12 W1 HC1 (by omega) (by omega) (by omega)).mono ?_; rintro e W2 ⟨A, n, c, hs, F, rfl, hpg, hgd, hC2, hG2⟩)
  obtain ⟨W3, hW3⟩ : ∃ V, W2.alloc (.cells #[.slice A n c] 58) = V := ⟨_, rfl⟩
  have hb3 : Below W2.heap.size W2 W3 := by rw [← hW3]; exact below1 _ _
  have RB := hide (show Row W3 W2.heap.size 58 [.slice A n c] by rw [← hW3]; exact Row.new W2 _ _)
  have RR := hide ((HR1.out.grown hG2 (fun e => by injection e with e; omega)).call hb3)
  have RQ := hide ((HQ1.out.grown hG2 (fun e => by injection e with e; omega)).call hb3)
  have HC3 := hide (hC2.below hb3)
  have HP3 := hide ((hpg.below hb3).more hb3.size (Nat.le_refl _))
  have HB3 := hide (show Below w.heap.size w W3 from (below_grown HB1.out hG2 (by omega) HB1.out.size).trans (hb3.mono (Nat.le_trans HB1.out.size hG2.size)))
  have hn1 : 1 ≤ n ∧ n ≤ 3 := by have h1 := hgd.one; have h2 := hgd.few; have h3 := hpg.len; omega
  obtain ⟨hn1a, hn1b⟩ := hn1
  have HE := hide hgd.err
  have HGF := hide hgd.fn
  have hgl : W1.heap.size ≤ W2.heap.size := hG2.size
  obtain ⟨gt, hgt⟩ : ∃ q, W2.heap.size = q := ⟨_, rfl⟩
  rw [hW3]
  rw [hgt] at RB hgl ⊢
  have hgg : g < gt := by omega
  obtain ⟨lo1, hlo⟩ : ∃ q, W1.heap.size = q := ⟨_, rfl⟩
  rw [hlo] at HP3 hg1 hgl
  have HSL := hide (show lo1 ≤ W3.heap.size by have h6 := hgl; have h7 := RB.out.lt; omega)
  clear hW3 hb3 hpg hgd hC2 hG2 hgt HR1 HQ1 HC1 HB1 hlo
  go_cut [7] (fun v wx => ∃ (X : Nat) (P : Int) (A1 : Option Addr) (m1 k1 : Nat) (A2 : Option Addr) (m2 k2 : Nat) (f : Fn) (N : Nat), v = .pointer (some ⟨X, 0, none⟩) ∧ Hid (fnE N f = 0) ∧ Hid (f.slots.length ≤ 6) ∧ Hid (ScI w g lo1 X P A1 m1 k1 A2 m2 k2 f [.int .i64 0, .slice none 0 0, .slice none 0 0] [.slice none 0 0] wx))
  case first =>
    obtain ⟨bA, oA, -, -, -, -, -, -, -, -, rfl, -, -, -, -, -, -, -⟩ := fn_at HP3.out (k := 0) (by omega)
    have b0 := RB.out.cell (k := 0) rfl
    have cn := fun (V : World) (h : Hid (Codes V g)) => next_any g (n : Int) V h (by omega) (by omega)
    have J0 := hide (show ScP w g lo1 gt W3.heap.size (some ⟨bA, oA, none⟩) n c hs F W3.drew from ScP.call ⟨RB.out, RR.out, RQ.out, HC3.out, HP3.out, HB3.out, hwg, hg1, hgg, Nat.le_refl _, Nat.lt_trans hgg RB.out.lt⟩ (Below.refl _ _).drew)
    have J1 := hide (J0.out.call (below1 W3.drew (.cells #[.int .i64 0, .slice none 0 0, .slice none 0 0] 30)))
    have b1 : (W3.alloc (.cells #[.int .i64 0, .slice none 0 0, .slice none 0 0] 30)).cell? ⟨gt, 0, none⟩ = some (.slice (some ⟨bA, oA, none⟩) n c) := J1.out.b.cell (k := 0) rfl
    have X1 := hide (show Row (W3.drew.alloc (.cells #[.int .i64 0, .slice none 0 0, .slice none 0 0] 30)) W3.heap.size 30 [.int .i64 0, .slice none 0 0, .slice none 0 0] from Row.new W3.drew _ _)
    have hgX : g < W3.heap.size := by have h1 := J0.out.gt; have h2 := J0.out.b.lt; exact Nat.lt_trans h1 h2
    clear RB RR RQ HC3 HP3 HB3
    go_region_law
      (first
        | (go_simp; go_at_call 25; refine (cn _ (by first | exact hide J0.out.cd | exact hide J1.out.cd)).mono ?_; rintro e w5 ⟨v, rfl, v0, v1, hC5, hG5, hz5⟩; have J5 := hide (show ScP w g lo1 gt W3.heap.size (some ⟨bA, oA, none⟩) n c hs F w5 from by first | exact J0.out.next hG5 hC5 | exact J1.out.next hG5 hC5); have b5 := J5.out.b.cell (k := 0) rfl; have b6 := (J5.out.call (below1 w5 (.cells #[.int .i64 0, .slice none 0 0, .slice none 0 0] 30))).b.cell (k := 0) rfl; obtain ⟨v', rfl⟩ : ∃ k : Nat, v = (k : Int) := ⟨v.toNat, by omega⟩; obtain ⟨b', o', P, A1, m1, k1, A2, m2, k2, f, he, -, hf, -, hd, d0, d1, d2⟩ := fn_at J5.out.p (show v' < n by omega); injection he with he; injection he with he1 he2; subst he1 he2; have g0 := keep_cellB (below1 w5 (.cells #[.int .i64 0, .slice none 0 0, .slice none 0 0] 30)) d0; have g1 := keep_cellB (below1 w5 (.cells #[.int .i64 0, .slice none 0 0, .slice none 0 0] 30)) d1; have g2 := keep_cellB (below1 w5 (.cells #[.int .i64 0, .slice none 0 0, .slice none 0 0] 30)) d2; have FE := hide (pg_fn HE.out hf); have FG := hide (HGF.out _ _ hf).1.few; have HD := hide hd; (try have X5 := hide (X1.out.grown hG5 (fun e => by injection e with e; omega))); (try have x0 := X5.out.cell (k := 0) rfl); (try have x1 := X5.out.cell (k := 1) rfl); (try have x2 := X5.out.cell (k := 2) rfl); (try have f0 := X5.out.free 0); (try have f1 := X5.out.free 1); (try have f2 := X5.out.free 2); clear hf hd hz5))
    all_goals
      first
        | (obtain ⟨W7, hW7⟩ : ∃ W, ((w5.setCell ⟨W3.heap.size, 0, none⟩ (.int .i64 P)).setCell ⟨W3.heap.size, 1, none⟩ (.slice A1 m1 k1)).setCell ⟨W3.heap.size, 2, none⟩ (.slice A2 m2 k2) = W := ⟨_, rfl⟩
           rw [hW7]
           have S7 := hide (show ScI w g lo1 W3.heap.size P A1 m1 k1 A2 m2 k2 f [.int .i64 0, .slice none 0 0, .slice none 0 0] [.slice none 0 0] W7 by rw [← hW7]; exact J5.out.stored HD.out X5.out)
           clear hW7 J0 J1 J5 X5 x0 x1 x2 f0 f1 f2 b5 b6 b1 d0 d1 d2 g0 g1 g2 X1 cn
           go_wp2_with fail
           go_meet
           exact ⟨_, _, _, _, _, _, _, _, f, _, rfl, FE, FG, S7⟩)
        | (obtain ⟨W7, hW7⟩ : ∃ W, w5.alloc (.cells #[.int .i64 P, .slice A1 m1 k1, .slice A2 m2 k2] 30) = W := ⟨_, rfl⟩
           rw [hW7]
           have S7 := hide (show ScI w g lo1 w5.heap.size P A1 m1 k1 A2 m2 k2 f [.int .i64 0, .slice none 0 0, .slice none 0 0] [.slice none 0 0] W7 by rw [← hW7]; exact J5.out.made HD.out)
           clear hW7 J0 J1 J5 b5 b6 b1 d0 d1 d2 g0 g1 g2 X1 cn
           go_wp2_with fail
           go_meet
           exact ⟨_, _, _, _, _, _, _, _, f, _, rfl, FE, FG, S7⟩)
  case rest =>
    obtain ⟨X, P, A1, m1, k1, A2, m2, k2, f, N, rfl, FE, FG, HS⟩ := hcut
    have hfl : f.code.length ≤ 1024 := (fnE_zero.1 FE.out).1
    have hc1 : 1 ≤ m2 := by have h := flow_one FE.out; have h2 : f.code.length = m2 := HS.out.h.l2; omega
    have hs1 : f.slots.length = m1 := HS.out.h.l1
    have HOK := hide (show LvOk f.code m1 by rw [← hs1]; exact lv_ok FE.out (by have := FG.out; omega))
    have LV := hide (fun (r2 r3 : List Value) (V : World) (h : Hid (ScI w g lo1 X P A1 m1 k1 A2 m2 k2 f r2 r3 V)) => dlive_any (P := P) (A1 := A1) (c1 := k1) (c2 := k2) V (hide (h.out.h.cd hfl)) HOK (hide h.out.cd) hc1)
    have J0 := hide (HS.out.call (Below.refl _ _).drew)
    have J1 := hide J0.out.st2
    have HS0 := J0.out.sees
    have HS1 := J1.out.sees
    have a0 := J0.out.r2.cell (k := 0) rfl
    have a1 := J0.out.r2.cell (k := 1) rfl
    have a2 := J0.out.r2.cell (k := 2) rfl
    have af := fun k => J0.out.r2.free k
    have hwl : w.heap.size + 1 < w.heap.size + 2 := by omega
    clear RB RR RQ HC3 HP3 HB3 HE HGF HSL HS
    go_upto_region 4 with (fail)
    go_region_held3 (fun V => V.cell? ⟨X, 0, none⟩ = some (.int .i64 P) ∧ V.cell? ⟨X, 1, none⟩ = some (.slice A1 m1 k1) ∧ V.cell? ⟨X, 2, none⟩ = some (.slice A2 m2 k2))
      (first | exact HS0 | exact HS1 | exact HS6 | exact HS7 | exact HS8 | exact HS9 | exact HS10)
      (first
        | (go_at_call 26; with_reducible refine Calls.mono (LV.out _ _ _ J1) ?_; intro e w6 h6; unfold DlPost at h6; obtain ⟨AL, nL, cL, L, rfl, hO, hC6, hG6⟩ := h6; have J6 := hide (J1.out.next hG6 hC6); have HS6 := J6.out.sees; have O6 := hide (hO.lower (show g + 1 ≤ _ from by have := J1.out.cd.lt; omega)); have J8 := hide (J6.out.st3 (.slice AL nL cL)); have HS8 := J8.out.sees; have e0 := J6.out.r3.cell (k := 0) rfl; have e1 := J6.out.r3.free 0; clear hO hC6 hG6)
        | (go_at_call 26; with_reducible refine Calls.mono (LV.out _ _ _ J0) ?_; intro e w6 h6; unfold DlPost at h6; obtain ⟨AL, nL, cL, L, rfl, hO, hC6, hG6⟩ := h6; have J6 := hide (J0.out.next hG6 hC6); have HS6 := J6.out.sees; have O6 := hide (hO.lower (show g + 1 ≤ _ from by have := J0.out.cd.lt; omega)); have J7 := hide J6.out.st2; have HS7 := J7.out.sees; have J8 := hide (J7.out.st3 (.slice AL nL cL)); have HS8 := J8.out.sees; have J9 := hide (J6.out.st3 (.slice AL nL cL)); have HS9 := J9.out.sees; have J10 := hide J9.out.st2; have HS10 := J10.out.sees; have e0 := J6.out.r3.cell (k := 0) rfl; have e1 := J6.out.r3.free 0; have b0 := J6.out.r2.cell (k := 0) rfl; have b1 := J6.out.r2.cell (k := 1) rfl; have b2 := J6.out.r2.cell (k := 2) rfl; have bf := fun k => J6.out.r2.free k; have c0 := J7.out.r3.cell (k := 0) rfl; have c1 := J7.out.r3.free 0; have d0 := J9.out.r2.cell (k := 0) rfl; have d1 := J9.out.r2.cell (k := 1) rfl; have d2 := J9.out.r2.cell (k := 2) rfl; have df := fun k => J9.out.r2.free k; clear hO hC6 hG6))
    all_goals
      first
        | (obtain ⟨W9, hW9⟩ : ∃ W, (w6.setCell ⟨w.heap.size + 1, 0, none⟩ (.slice AL nL cL)) = W := ⟨_, rfl⟩
           rw [hW9]
           have F9 := hide (show ScI w g lo1 X P A1 m1 k1 A2 m2 k2 f [.int .i64 P, .slice A1 m1 k1, .slice A2 m2 k2] [(.slice AL nL cL)] W9 by rw [← hW9]; exact J8.out)
           have O9 := hide (show AnwD W9 (g + 1) AL nL L by rw [← hW9]; exact (O6.out.away (by omega)))
           have y0 := F9.out.r2.cell (k := 0) rfl
           have y1 := F9.out.r2.cell (k := 1) rfl
           have y2 := F9.out.r2.cell (k := 2) rfl
           have y3 := F9.out.r3.cell (k := 0) rfl
           have HFIN := hide (sc17_fin (cL := cL) F9.out FE.out FG.out O9.out)
           clear hW9 HS0 HS1 HS6 a0 a1 a2 af e0 e1 J0 J1 J6 J8 LV
           go_wp2_with fail
           exact bodyPost_ret (v := .tuple #[fv P A1 m1 k1 A2 m2 k2, .agg #[(.slice AL nL cL)], .pointer (some ⟨g, 0, none⟩)]) (by simp [results, Tryd.results9, go_sem, y0, y1, y2, y3]) rfl HFIN.out)
        | (obtain ⟨W9, hW9⟩ : ∃ W, ((((w6.setCell ⟨w.heap.size, 0, none⟩ (.int .i64 P)).setCell ⟨w.heap.size, 1, none⟩ (.slice A1 m1 k1)).setCell ⟨w.heap.size, 2, none⟩ (.slice A2 m2 k2)).setCell ⟨w.heap.size + 1, 0, none⟩ (.slice AL nL cL)) = W := ⟨_, rfl⟩
           rw [hW9]
           have F9 := hide (show ScI w g lo1 X P A1 m1 k1 A2 m2 k2 f [.int .i64 P, .slice A1 m1 k1, .slice A2 m2 k2] [(.slice AL nL cL)] W9 by rw [← hW9]; exact J8.out)
           have O9 := hide (show AnwD W9 (g + 1) AL nL L by rw [← hW9]; exact ((((O6.out.away (by omega)).away (by omega)).away (by omega)).away (by omega)))
           have y0 := F9.out.r2.cell (k := 0) rfl
           have y1 := F9.out.r2.cell (k := 1) rfl
           have y2 := F9.out.r2.cell (k := 2) rfl
           have y3 := F9.out.r3.cell (k := 0) rfl
           have HFIN := hide (sc17_fin (cL := cL) F9.out FE.out FG.out O9.out)
           clear hW9 HS0 HS1 HS6 a0 a1 a2 af e0 e1 J0 J1 J6 J8 LV
           go_wp2_with fail
           exact bodyPost_ret (v := .tuple #[fv P A1 m1 k1 A2 m2 k2, .agg #[(.slice AL nL cL)], .pointer (some ⟨g, 0, none⟩)]) (by simp [results, Tryd.results9, go_sem, y0, y1, y2, y3]) rfl HFIN.out)
        | (obtain ⟨W9, hW9⟩ : ∃ W, ((((w6.setCell ⟨w.heap.size + 1, 0, none⟩ (.slice AL nL cL)).setCell ⟨w.heap.size, 0, none⟩ (.int .i64 P)).setCell ⟨w.heap.size, 1, none⟩ (.slice A1 m1 k1)).setCell ⟨w.heap.size, 2, none⟩ (.slice A2 m2 k2)) = W := ⟨_, rfl⟩
           rw [hW9]
           have F9 := hide (show ScI w g lo1 X P A1 m1 k1 A2 m2 k2 f [.int .i64 P, .slice A1 m1 k1, .slice A2 m2 k2] [(.slice AL nL cL)] W9 by rw [← hW9]; exact J10.out)
           have O9 := hide (show AnwD W9 (g + 1) AL nL L by rw [← hW9]; exact ((((O6.out.away (by omega)).away (by omega)).away (by omega)).away (by omega)))
           have y0 := F9.out.r2.cell (k := 0) rfl
           have y1 := F9.out.r2.cell (k := 1) rfl
           have y2 := F9.out.r2.cell (k := 2) rfl
           have y3 := F9.out.r3.cell (k := 0) rfl
           have HFIN := hide (sc17_fin (cL := cL) F9.out FE.out FG.out O9.out)
           clear hW9 HS0 HS1 HS6 a0 a1 a2 af e0 e1 J0 J1 J6 J8 LV
           go_wp2_with fail
           exact bodyPost_ret (v := .tuple #[fv P A1 m1 k1 A2 m2 k2, .agg #[(.slice AL nL cL)], .pointer (some ⟨g, 0, none⟩)]) (by simp [results, Tryd.results9, go_sem, y0, y1, y2, y3]) rfl HFIN.out)
end Go.Proofs.YtidlnecgfgnllaaDoor
end
