import Derived.Test.YtjgoldlebmfiiaaMModt
import Derived.Test.YtjgoldlebmfiiaaMMch
import Derived.Test.YtjgoldlebmfiiaaMMrch
import Derived.Test.YtjgoldlebmfiiaaMKj
import Derived.Test.YtjgoldlebmfiiaaMMawk
import Derived.Deep.CutRange
import Derived.Deep.RegionLaw
set_option linter.unusedVariables false
set_option linter.unusedSimpArgs false
section
/-
  The walk of the law MachStaysInside: for all choices it returns true, and what was in memory before the call is as it was. Conditions: those of the types.
-/
namespace Go.Proofs.Ytjgoldlebmfiiaa
open Go.RowKit

set_option maxRecDepth 100000 in
set_option maxHeartbeats 4000000 in
theorem mstalaw_walk (A0 : Option Addr) (n0 c0 : Nat) (zs : List Int) (w : World)
    (hA : Hid (A0 = none → c0 = 0)) (hn : Hid (zs.length = n0)) (hnc : n0 ≤ c0) (hm : n0 ≤ 9223372036854775807) (hs : Hid (Sees w w.heap.size A0 (cellsU8 zs))) (hz : Hid (∀ z ∈ zs, 0 ≤ z ∧ z ≤ 255)) :
    Calls Try.prog 4 #[.slice A0 n0 c0] w fun e w' => e = .returned (.bool true) ∧ Below w.heap.size w w' := by
  have ca := awake10_any w
  go_enter Try.func4, Try.ntmps4
  go_wp2_with fail
  refine ca.mono ?_
  rintro e W1 ⟨rfl, hb1⟩
  have HB1 := hide hb1
  have hs1 := hb1.size
  clear hb1 ca
  go_wp2_with fail
  refine (new_any A0 n0 c0 zs 250 _ hA hn hnc hm (by omega) (hide ((hs.out.below HB1.out).more hs1)) hz).mono ?_
  rintro e W2 ⟨rfl, hC2, hb2⟩
  obtain ⟨g, hg⟩ : ∃ g, W1.heap.size = g := ⟨_, rfl⟩
  rw [hg] at hC2 ⊢
  have HC2 := hide hC2
  have HB2 := hide (below_call HB1.out hb2)
  have hwg : w.heap.size ≤ g := by omega
  have hg2 := hC2.lt
  have hs2 := HB2.out.size
  clear hC2 hb2 hg hs hz hA hn hs1 HB1
  go_upto_region 5 with (first
    | (go_at_call 14; refine (dtgt_any g 4 10 _ HC2 (by omega) (by omega) (by omega)).mono ?_; rintro e W3 ⟨Lx, Ax, nx, cx, hx, Gx, rfl, htx, hx1, hx3, hxo, -, hC3, hG3⟩)
    | (go_at_call 13; refine (otgt_any g W2.heap.size Lx Ax nx cx hx Gx W3 (hide hC3) (hide htx) hx1 (by omega) (hide (fun q hq => ⟨(hxo q hq).2.1, (hxo q hq).2.2.1⟩)) hg2 hG3.size).mono ?_; rintro e W4 ⟨Ly, Ay, cy, hy, Gy, rfl, hty, hC4, hG4⟩))
  obtain ⟨W5, hW5⟩ : ∃ V, W4.alloc (.cells #[.int .i64 Ly, .slice Ay nx cy] 39) = V := ⟨_, rfl⟩
  have hb45 : Below W4.heap.size W4 W5 := by rw [← hW5]; exact below1 _ _
  have RY5 := hide (show Row W5 W4.heap.size 39 [.int .i64 Ly, .slice Ay nx cy] by rw [← hW5]; exact Row.new W4 _ _)
  have HY5 := hide (hty.call hb45)
  have HG25 := hide ((hG3.trans hG4).andThen (grown_below hb45 none) (fun k hk => by cases hk))
  have HB5 := hide (below_grown HB2.out HG25.out hwg hs2)
  have hny : nx ≤ 4 := by omega
  rw [hW5]
  obtain ⟨gy, hgy⟩ : ∃ g, W4.heap.size = g := ⟨_, rfl⟩
  rw [hgy] at RY5 ⊢
  have hlo : W2.heap.size ≤ W5.heap.size := HG25.out.size
  obtain ⟨lo, hlo'⟩ : ∃ l, W2.heap.size = l := ⟨_, rfl⟩
  rw [hlo'] at HY5 hlo
  clear hW5 hb45 hty hC4 hG4 hG3 hC3 htx hxo hgy HC2 HG25 hlo'
  have ck := chktg_any Ly Ay nx cy hy Gy lo W5.heap.size W5 HY5 (Nat.le_refl _)
  have TOK := hide (fun h : tgE Ly Gy = 0 => tgE_ins h)
  obtain ⟨E, hE⟩ : ∃ E, tgE Ly Gy = E := ⟨_, rfl⟩
  rw [hE] at ck TOK
  have HE := hide hE
  have CK := hide ck
  clear ck hE
  have y0 := RY5.out.cell (k := 0) rfl
  have y1 := RY5.out.cell (k := 1) rfl
  by_cases h0 : E = 0
  · subst h0
    have hok := TOK.out rfl
    have OK := hide hok
    clear hok TOK HE
    go_wp2_with fail
    refine CK.out.mono ?_
    rintro e W6 ⟨rfl, hb6⟩
    have HB6 := hide (below_call HB5.out hb6)
    have RY6 := hide (RY5.out.call hb6)
    have HY6 := hide (HY5.out.call hb6)
    clear hb6 y0 y1 RY5 HY5 HB5 CK
    go_wp2_with fail
    go_loopw [5] (fun s wr => ∃ i : Nat, i ≤ nx ∧ s = .int .i64 i ∧ Hid (Below W6.heap.size W6 wr)) (fun s _ => nx - (intOf s).toNat)
    case atStart => exact ⟨0, by omega, rfl, hide (Below.refl _ _)⟩
    case round =>
      obtain ⟨i, hin, rfl, hbr⟩ := hrel
      have RY := hide (RY6.out.call hbr.out)
      have y1 := RY.out.cell (k := 1) rfl
      by_cases hlt : i < nx
      · have HT := hide (HY6.out.call hbr.out)
        obtain ⟨b, off, P, S, A1, n1, c1, f, rfl, hb, hf, hhi, hd, p0, p1, p2⟩ := fm_at HT.out hlt
        have HP : P = f.params := hd.p
        have HS : S = f.size := hd.s
        have hOK := OK.out f (List.mem_of_getElem? hf)
        have hPS := hOK.1
        rw [← HP, ← HS] at hPS
        have OKF := hide hOK.2
        have HPS := hide (And.intro HP HS)
        have HL := hide (show f.code.length = n1 from hd.l)
        have hn1 : n1 ≤ 8796093022208 := hd.k.2.2
        have hiz : (0 : Int) ≤ (i : Int) := by omega
        have hiz' : (i : Int) < (nx : Int) := by omega
        have HD := hide hd
        clear hOK HP HS hd hf hhi
        go_upto_region 11 with (fail)
        obtain ⟨W7, hW7⟩ : ∃ V, wr.alloc (.cells #[.int .i64 P, .int .i64 S, .slice A1 n1 c1] 24) = V := ⟨_, rfl⟩
        have hb7 : Below wr.heap.size wr W7 := by rw [← hW7]; exact below1 _ _
        have RF7 := hide (show Row W7 wr.heap.size 24 [.int .i64 P, .int .i64 S, .slice A1 n1 c1] by rw [← hW7]; exact Row.new wr _ _)
        have RY7 := hide (RY.out.call hb7)
        have HB7 := hide (below_call hbr.out hb7)
        have HC7 := hide ((HD.out.below hb7).more hb7.size (Nat.le_refl _)).c
        have HY7 := hide (HT.out.call hb7)
        rw [hW7]
        obtain ⟨gf, hgf⟩ : ∃ g, wr.heap.size = g := ⟨_, rfl⟩
        rw [hgf] at RF7 ⊢
        clear hW7 hb7 hgf y1 p0 p1 p2 HD HT RY
        have f2 := RF7.out.cell (k := 2) rfl
        go_wp2_with fail
        clear f2
        go_loopw [7] (fun s wr => ∃ k : Nat, k ≤ n1 ∧ s = .int .i64 k ∧ Hid (Below W7.heap.size W7 wr)) (fun s _ => n1 - (intOf s).toNat)
        case atStart => exact ⟨0, by omega, rfl, hide (Below.refl _ _)⟩
        case round =>
          obtain ⟨k, hk, rfl, hbq⟩ := hrel
          have RF := hide (RF7.out.call hbq.out)
          have f0 := RF.out.cell (k := 0) rfl
          have f1 := RF.out.cell (k := 1) rfl
          have f2 := RF.out.cell (k := 2) rfl
          by_cases hlt2 : k < n1
          · have hkl : k < f.code.length := by have := HL.out; omega
            obtain ⟨bb, oo, rfl, hbb, x0, x1, x2, x3, x4⟩ := ins_at HC7.out hkl
            have hIO := OKF.out _ (List.getElem_mem hkl)
            obtain ⟨x, hxx⟩ : ∃ x, f.code[k] = x := ⟨_, rfl⟩
            rw [hxx] at hIO x0 x1 x2 x3 x4
            obtain ⟨o, a, b', d, m⟩ := x
            simp only at x0 x1 x2 x3 x4
            obtain ⟨q1, hq1⟩ : ∃ p, rdI ⟨o, a, b', d, m⟩ = p := ⟨_, rfl⟩
            obtain ⟨q2, hq2⟩ : ∃ p, wrI ⟨o, a, b', d, m⟩ = p := ⟨_, rfl⟩
            obtain ⟨s1, s2⟩ := q1
            obtain ⟨t1, t2⟩ := q2
            obtain ⟨bx, hbx⟩ : ∃ p, rdB o = p := ⟨_, rfl⟩
            obtain ⟨by_, hby⟩ : ∃ p, wrB o = p := ⟨_, rfl⟩
            have cr : ∀ W, Calls Try.prog 8 #[mv P S (some ⟨bb, oo, none⟩) n1 c1, iv o a b' d m] W fun e w' => e = .returned (.tuple #[pv s1 s2, .bool bx]) ∧ Below W.heap.size W w' := fun W => by
              have c := reads_any P S (some ⟨bb, oo, none⟩) n1 c1 o a b' d m W
              rw [hq1, hbx] at c
              exact c
            have cw : ∀ W, Calls Try.prog 10 #[mv P S (some ⟨bb, oo, none⟩) n1 c1, iv o a b' d m] W fun e w' => e = .returned (.tuple #[pv t1 t2, .bool by_]) ∧ Below W.heap.size W w' := fun W => by
              have c := writes_any P S (some ⟨bb, oo, none⟩) n1 c1 o a b' d m W
              rw [hq2, hby] at c
              exact c
            have HR := hide (show bx = true → decide (s1 < 0) = false ∧ IntKind.i64.wrap (s1 + s2) = s1 + s2 ∧ decide (S + 16 * P < s1 + s2) = false from fun h => by
              subst hbx
              have g1 := hIO.r h
              rw [← HPS.out.1, ← HPS.out.2] at g1
              unfold rdI at hq1
              simp only at hq1 g1 h
              rw [if_pos h] at hq1
              injection hq1 with e1 e2
              subst e1 e2
              exact ⟨decide_eq_false (by omega), wrap_i64 _ (by omega) (by omega), decide_eq_false (by omega)⟩)
            have HW := hide (show by_ = true → decide (t1 < 0) = false ∧ IntKind.i64.wrap (t1 + t2) = t1 + t2 ∧ decide (S < t1 + t2) = false from fun h => by
              subst hby
              have g1 := hIO.w h
              rw [← HPS.out.2] at g1
              unfold wrI at hq2
              simp only at hq2 g1 h
              rw [if_pos h] at hq2
              injection hq2 with e1 e2
              subst e1 e2
              exact ⟨decide_eq_false (by omega), wrap_i64 _ (by omega) (by omega), decide_eq_false (by omega)⟩)
            have HC := hide hIO.c
            have HX := hide (fun W (hB : Below W7.heap.size W7 W) => And.intro ((hB.cell (p := ⟨bb, oo + k * 5, none⟩) hbb).trans x0) (And.intro ((hB.cell (p := ⟨bb, oo + k * 5 + 1, none⟩) hbb).trans x1) (And.intro ((hB.cell (p := ⟨bb, oo + k * 5 + 2, none⟩) hbb).trans x2) (And.intro ((hB.cell (p := ⟨bb, oo + k * 5 + 3, none⟩) hbb).trans x3) ((hB.cell (p := ⟨bb, oo + k * 5 + 4, none⟩) hbb).trans x4)))))
            have CR := hide cr
            have CW := hide cw
            have w1 : IntKind.i64.wrap (16 * P) = 16 * P := wrap_i64 _ (by omega) (by omega)
            have w2 : IntKind.i64.wrap (S + 16 * P) = S + 16 * P := wrap_i64 _ (by omega) (by omega)
            have hkz : (0 : Int) ≤ (k : Int) := by omega
            have hkz' : (k : Int) < (n1 : Int) := by omega
            clear cr cw hIO hq1 hq2 hbx hby hxx x0 x1 x2 x3 x4
            obtain ⟨x0, x1, x2, x3, x4⟩ := HX.out _ hbq.out
            go_upto_region 14 with (fail)
            clear w1 w2
            go_cut [8, 9] from 41 to 126 (fun v8 v9 wx => ∃ gi, v8 = .pointer (some ⟨gi, 0, none⟩) ∧ v9 = .bool bx ∧ Hid (Row wx gi 30 [.int .i64 s1, .int .i64 s2]) ∧ Hid (Below wr.heap.size wr wx))
            case first =>
              obtain ⟨w0, w1, w2, w3, w4⟩ := HX.out _ (hbq.out.alloc hbq.out.size (.cells #[.int .i64 0, .int .i64 0] 30))
              have k0 := (RF.out.alloc (.cells #[.int .i64 0, .int .i64 0] 30)).cell (k := 0) rfl
              have k1 := (RF.out.alloc (.cells #[.int .i64 0, .int .i64 0] 30)).cell (k := 1) rfl
              have k2 := (RF.out.alloc (.cells #[.int .i64 0, .int .i64 0] 30)).cell (k := 2) rfl
              go_region_law
                (first
                  | (go_simp; go_at_call 8; refine (CR.out _).mono ?_; rintro e w3 ⟨rfl, hb3⟩; have hA3 : Below wr.heap.size wr w3 := (Below.refl wr.heap.size wr).drew.trans hb3)
                  | (go_simp; go_at_call 8; refine (CR.out _).mono ?_; rintro e w3 ⟨rfl, hb3⟩; have h1 := (below1 wr (.cells #[.int .i64 0, .int .i64 0] 30)).drew; have hbz := h1.trans (hb3.mono h1.size); have hR : Row w3 wr.heap.size 30 [.int .i64 0, .int .i64 0] := Row.call (w := (wr.alloc (.cells #[.int .i64 0, .int .i64 0] 30)).drew) (Row.new wr _ _) hb3; have v0 := hR.cell (k := 0) rfl; have v1 := hR.cell (k := 1) rfl; have u0 := hR.free 0; have u1 := hR.free 1))
              all_goals
                go_wp2_with fail
                go_meet
                first
                  | exact ⟨_, rfl, rfl, hide (Row.new w3 _ [.int .i64 s1, .int .i64 s2]), hide (hA3.alloc hA3.size _)⟩
                  | exact ⟨_, rfl, rfl, hide ((hR.set_ 0 (.int .i64 s1)).set_ 1 (.int .i64 s2)), hide ((hbz.setCell (p := ⟨wr.heap.size, 0, none⟩) (by simp) _).setCell (p := ⟨wr.heap.size, 1, none⟩) (by simp) _)⟩
            case rest =>
              obtain ⟨gr, rfl, rfl, hr8, hb8⟩ := hcut
              have HB8 := hide (below_call hbq.out hb8.out)
              have RF8 := hide (RF.out.call hb8.out)
              clear f0 f1 f2 x0 x1 x2 x3 x4 hb8 RF hbq CR
              have f0 := RF8.out.cell (k := 0) rfl
              have f1 := RF8.out.cell (k := 1) rfl
              have f2 := RF8.out.cell (k := 2) rfl
              obtain ⟨x0, x1, x2, x3, x4⟩ := HX.out _ HB8.out
              go_upto_region 15 with (fail)
              go_cut [10, 11] from 41 to 126 (fun v8 v9 wx => ∃ gi, v8 = .pointer (some ⟨gi, 0, none⟩) ∧ v9 = .bool by_ ∧ Hid (Row wx gi 30 [.int .i64 t1, .int .i64 t2]) ∧ Hid (Below wc.heap.size wc wx))
              case first =>
                obtain ⟨w0, w1, w2, w3, w4⟩ := HX.out _ (HB8.out.alloc HB8.out.size (.cells #[.int .i64 0, .int .i64 0] 30))
                have k0 := (RF8.out.alloc (.cells #[.int .i64 0, .int .i64 0] 30)).cell (k := 0) rfl
                have k1 := (RF8.out.alloc (.cells #[.int .i64 0, .int .i64 0] 30)).cell (k := 1) rfl
                have k2 := (RF8.out.alloc (.cells #[.int .i64 0, .int .i64 0] 30)).cell (k := 2) rfl
                go_region_law
                  (first
                    | (go_simp; go_at_call 10; refine (CW.out _).mono ?_; rintro e w3 ⟨rfl, hb3⟩; have hA3 : Below wc.heap.size wc w3 := (Below.refl wc.heap.size wc).drew.trans hb3)
                    | (go_simp; go_at_call 10; refine (CW.out _).mono ?_; rintro e w3 ⟨rfl, hb3⟩; have h1 := (below1 wc (.cells #[.int .i64 0, .int .i64 0] 30)).drew; have hbz := h1.trans (hb3.mono h1.size); have hR : Row w3 wc.heap.size 30 [.int .i64 0, .int .i64 0] := Row.call (w := (wc.alloc (.cells #[.int .i64 0, .int .i64 0] 30)).drew) (Row.new wc _ _) hb3; have v0 := hR.cell (k := 0) rfl; have v1 := hR.cell (k := 1) rfl; have u0 := hR.free 0; have u1 := hR.free 1))
                all_goals
                  go_wp2_with fail
                  go_meet
                  first
                    | exact ⟨_, rfl, rfl, hide (Row.new w3 _ [.int .i64 t1, .int .i64 t2]), hide (hA3.alloc hA3.size _)⟩
                    | exact ⟨_, rfl, rfl, hide ((hR.set_ 0 (.int .i64 t1)).set_ 1 (.int .i64 t2)), hide ((hbz.setCell (p := ⟨wc.heap.size, 0, none⟩) (by simp) _).setCell (p := ⟨wc.heap.size, 1, none⟩) (by simp) _)⟩
              case rest =>
                obtain ⟨gw, rfl, rfl, hr9, hb9⟩ := hcut
                have HB9 := hide (below_call HB8.out hb9.out)
                have RF9 := hide (RF8.out.call hb9.out)
                have RR9 := hide (hr8.out.call hb9.out)
                have RY9 := hide (RY7.out.call HB9.out)
                clear f0 f1 f2 x0 x1 x2 x3 x4 hb9 RF8 hr8 HB8 CW
                have f0 := RF9.out.cell (k := 0) rfl
                have f1 := RF9.out.cell (k := 1) rfl
                have f2 := RF9.out.cell (k := 2) rfl
                have r0 := RR9.out.cell (k := 0) rfl
                have r1 := RR9.out.cell (k := 1) rfl
                have v0 := hr9.out.cell (k := 0) rfl
                have v1 := hr9.out.cell (k := 1) rfl
                obtain ⟨x0, x1, x2, x3, x4⟩ := HX.out _ HB9.out
                have w1 : IntKind.i64.wrap (16 * P) = 16 * P := wrap_i64 _ (by omega) (by omega)
                have w2 : IntKind.i64.wrap (S + 16 * P) = S + 16 * P := wrap_i64 _ (by omega) (by omega)
                obtain ⟨W10, hW10⟩ : ∃ V, wc.alloc (.cells #[.int .i64 o, .int .i64 a, .int .i64 b', .int .i64 d, .int .u64 m] 27) = V := ⟨_, rfl⟩
                have hb10 : Below wc.heap.size wc W10 := by rw [← hW10]; exact below1 _ _
                have RZ10 := hide (show Row W10 wc.heap.size 27 [.int .i64 o, .int .i64 a, .int .i64 b', .int .i64 d, .int .u64 m] by rw [← hW10]; exact Row.new wc _ _)
                have RF10 := hide (RF9.out.call hb10)
                have RY10 := hide (RY9.out.call hb10)
                have HB10 := hide (below_call HB9.out hb10)
                clear hb10 hb hnc hm
                cases bx <;> cases by_
                all_goals
                  try (obtain ⟨l1, l2, l3⟩ := HR.out rfl)
                  try (obtain ⟨m1, m2, m3⟩ := HW.out rfl)
                  go_upto_region 19 with (fail)
                  try rw [hW10]
                  obtain ⟨gz, hgz⟩ : ∃ g, wc.heap.size = g := ⟨_, rfl⟩
                  rw [hgz] at RZ10 ⊢
                  clear hW10 hgz f0 f1 f2 r0 r1 v0 v1 x0 x1 x2 x3 x4
                  have g1 := RF10.out.cell (k := 1) rfl
                  have y1 := RY10.out.cell (k := 1) rfl
                  have z0 := RZ10.out.cell (k := 0) rfl
                  have z1 := RZ10.out.cell (k := 1) rfl
                  by_cases h22 : o = 22
                  · subst h22
                    obtain ⟨a0, a1, a2⟩ := HC.out rfl
                    simp only at a0 a1 a2
                    obtain ⟨j, rfl⟩ := Int.eq_ofNat_of_zero_le a0
                    rw [HY7.out.len] at a1
                    obtain ⟨b2, o2, P2, S2, A2, n2, c2, f2, e, -, hf2, -, hd2, y2, -, -⟩ := fm_at (HY7.out.call HB10.out) (k := j) (by omega)
                    injection e with e
                    injection e with e1 e2
                    subst e1 e2
                    have hP2 : P2 = f2.params := hd2.p
                    obtain ⟨⟨P20, P21⟩, -⟩ := (OK.out f2 (List.mem_of_getElem? hf2)).1
                    rw [← hP2] at P20 P21
                    rw [callB_at rfl rfl hf2, ← hP2, ← HPS.out.2, decide_eq_true_eq] at a2
                    have e16 : IntKind.i64.wrap (16 * P2) = 16 * P2 := wrap_i64 _ (by omega) (by omega)
                    have hd' : decide (S < 16 * P2) = false := decide_eq_false (by omega)
                    clear hf2 hd2 hP2
                    go_quiet (fail)
                    go_wp2_with fail
                    go_roundw
                    case rel => exact ⟨k + 1, by omega, by go_num, hide (drewN_below HB10.out _)⟩
                    case measure => simp [intOf]; omega
                  · have hne : (o == 22) = false := by simpa using h22
                    clear h22
                    go_quiet (fail)
                    go_wp2_with fail
                    go_roundw
                    case rel => exact ⟨k + 1, by omega, by go_num, hide (drewN_below HB10.out _)⟩
                    case measure => simp [intOf]; omega
          · obtain rfl : k = n1 := by omega
            have HBE := hide (below_call HB7.out hbq.out)
            go_wp2_with fail
            go_roundw
            case rel => exact ⟨i + 1, by omega, by go_num, HBE⟩
            case measure => simp [intOf]; omega
      · obtain rfl : i = nx := by omega
        have HBE := hide (below_call HB6.out hbr.out)
        go_wp2_with fail
        go_ret
        exact ⟨rfl, HBE.out⟩
  · have hne : (E != 0) = true := by rw [bne_iff_ne]; exact h0
    clear h0 TOK
    go_wp2_with fail
    refine CK.out.mono ?_
    rintro e W6 ⟨rfl, hb6⟩
    have HB6 := hide (below_call HB5.out hb6)
    have RY6 := hide (RY5.out.call hb6)
    have HY6 := hide (HY5.out.call hb6)
    clear hb6 y0 y1 RY5 HY5 HB5 CK
    go_upto_region 6 with (fail)
    have y0 := after_cell (RY6.out.cell (k := 0) rfl)
    have y1 := after_cell (RY6.out.cell (k := 1) rfl)
    have k1 : ∀ p : After W6, Calls Try.prog 15 #[tv Ly Ay nx cy] p.w fun e w' => e = .returned (.int .i64 E) ∧ Below p.w.heap.size p.w w' := fun p => by
      rw [← HE.out]; exact chktg_any Ly Ay nx cy hy Gy lo W6.heap.size p.w (hide (HY6.out.below p.b)) p.b.size
    have k2 : ∀ p : After W6, Calls Try.prog 16 #[tv Ly Ay nx cy] p.w fun e w' => e = .returned (.int .i64 E) ∧ Below p.w.heap.size p.w w' := fun p => by
      rw [← HE.out]; exact rchktg_any Ly Ay nx cy hy Gy lo W6.heap.size p.w (hide (HY6.out.below p.b)) p.b.size
    have K1 := hide k1
    have K2 := hide k2
    have e1 : (E == E) = true := by simp
    have hs6 := HB6.out.size
    clear k1 k2
    refine wp_region_after (by kernel_rfl) (by kernel_rfl) ?_
    repeat (go_big_quiet_step ((first
      | (go_at_call 15; with_reducible exact after_of (K1.out _))
      | (go_at_call 16; with_reducible exact after_of (K2.out _)))))
    refine wpQuiet_nil ?_
    intro _ hw'
    obtain ⟨p1, hw''⟩ := hw'
    subst hw''
    have HBE := hide (HB6.out.trans (p1.b.mono hs6))
    clear y0 y1 K1 K2
    go_wp2_with fail
    go_ret
    exact ⟨rfl, HBE.out⟩
end Go.Proofs.Ytjgoldlebmfiiaa
end
