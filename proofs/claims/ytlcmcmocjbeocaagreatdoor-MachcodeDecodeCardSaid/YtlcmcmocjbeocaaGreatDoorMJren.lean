import Derived.Test.YtlcmcmocjbeocaaGreatDoorMMins
import Derived.Test.YtlcmcmocjbeocaaGreatDoorMJrp
import Derived.Test.YtlcmcmocjbeocaaGreatDoorMMrcal
import Derived.Lib.SlBytesConst
import Derived.Deep.DeepCutAuto
import Derived.Deep.RegionLaw
import Derived.Deep.RegionHeld3
import Derived.Deep.DrawnRows
set_option linter.unusedVariables false
set_option linter.unusedSimpArgs false
section
/-
  The contract of the reference's Encode (chapter 11). Conditions: those of the types.
-/
namespace Go.Proofs.YtlcmcmocjbeocaaGreatDoor
open Go.RowKit

theorem half_pow (m : Nat) : Int.tdiv ((2 : Int) ^ (m + 1)) 2 = (2 : Int) ^ m := by
  rw [Int.pow_succ, Int.mul_tdiv_cancel _ (by decide)]
theorem pow_gt (m : Nat) : (1 : Int) < (2 : Int) ^ (m + 1) := by
  have := two_pos m
  rw [Int.pow_succ]
  omega
theorem own_val {w : World} {base : Nat} {r : Value} {zs : List Int} (h : w.ownsRow base 5 1 r zs.length (cellsU8 zs)) : ∃ A c, r = .slice A zs.length c ∧ (A = none → c = 0) ∧ zs.length ≤ c ∧ Sees w w.heap.size A (cellsU8 zs) := by
  obtain ⟨A, c, e, h1, h2, _, h3⟩ := own_seen h
  exact ⟨A, c, e, h1, h2, h3⟩

/-- The bytes so far: a row of the call's own, since w1. -/
structure JV (w1 : World) (B : Nat) (wr : World) (r : Value) (zs : List Int) : Prop where
  own : wr.ownsRow B 5 1 r zs.length (cellsU8 zs)
  b : Below B w1 wr
theorem JV.put {w1 wr w2 : World} {B : Nat} {r r2 : Value} {zs : List Int} {u : Nat} (h : JV w1 B wr r zs) (hB : B ≤ w1.heap.size) (ho : w2.ownsRow wr.heap.size 5 1 r2 (zs.length + lenv u) (cellsU8 (zs ++ digsI u))) (hb : Below wr.heap.size wr w2) : JV w1 B w2 r2 (zs ++ digsI u) :=
  ⟨by rw [List.length_append, digsI_length]; exact own_less ho (Nat.le_trans hB h.b.size), h.b.trans (hb.mono (Nat.le_trans hB h.b.size))⟩
theorem JV.drew {w1 wr : World} {B : Nat} {r : Value} {zs : List Int} (h : JV w1 B wr r zs) : JV w1 B wr.drew r zs := ⟨own_below h.own (Below.refl _ _).drew, h.b.drew⟩
theorem own_fresh {w : World} {b X n : Nat} {r : Value} {xs : List Value} {t : TypeId} {sz : Nat} (h : w.ownsRow b t sz r n xs) (hx : X < b) : ∀ q, r.ownBlock = some q → q ≠ X := fun q hq => by have := (h.lt q hq).1; omega
theorem ex_of {Al : Int} {F : Tg} (h : tgE Al F = 0) : ∀ f ∈ F, ∀ x ∈ f.code, exB x.op = true := fun f hf x hx => by
  have hz := fmE_zero (firstE_zero.1 (tgE_ok h).1 _ (List.mem_map.2 ⟨f, hf, rfl⟩))
  exact (mins_all (hz.2.2.1 x hx)).1

set_option maxRecDepth 100000 in
set_option maxHeartbeats 16000000 in
theorem rencode_any (Al bd : Int) (A : Option Addr) (n c : Nat) (hs : List Fd) (F : Tg) (lo : Nat) (w : World) (HT : Hid (TgAt w lo w.heap.size A n c hs F)) (HI : Hid (ImmT F)) :
    Calls Tryz.prog 17 #[tv Al A n c, .int .i64 bd] w (JcPost Al bd F w) := by
  obtain ⟨i0, hi, hz0, hz1, hz2⟩ := info_parts Tryz.info5
  obtain ⟨W, hW⟩ : ∃ W, w.alloc (.cells #[.int .i64 Al, .slice A n c] 53) = W := ⟨_, rfl⟩
  have HW := hide hW
  have R0 := hide (show Row W w.heap.size 53 [.int .i64 Al, .slice A n c] by rw [← hW]; exact Row.new w _ _)
  have HB := hide (show Below w.heap.size w W by rw [← hW]; exact below1 w _)
  have HT1 := hide (HT.out.call HB.out)
  have cc := rchktg_any Al A n c hs F lo W.heap.size W HT1 (Nat.le_refl _)
  have x0 := R0.out.cell (k := 0) rfl
  have x1 := R0.out.cell (k := 1) rfl
  clear hW
  by_cases h1 : tgE Al F = 0
  · rw [h1] at cc
    have E1 := hide h1
    clear h1
    cases hb : bndB bd with
    | false =>
      have hA := fun w => rbound_any bd w
      rw [hb] at hA
      have HE := hide (show encJE Al bd F = 4 by unfold encJE; rw [if_neg (by rw [E1.out]; decide), if_pos hb])
      clear hb
      go_enter Tryz.func17, Tryz.ntmps17
      go_upto_region 1 with (fail)
      rw [HW.out]
      go_wp2_with fail
      refine cc.mono ?_
      rintro e w1 ⟨rfl, hb1⟩
      have HB1 := hide (below_call HB.out hb1)
      clear hb1 cc
      go_wp2_with fail
      refine (hA w1).mono ?_
      rintro e w' ⟨rfl, rfl⟩
      go_wp2_with fail
      go_ret2
      exact jc_bad HE.out (by decide) HB1.out
    | true =>
      have hA := fun w => rbound_any bd w
      rw [hb] at hA
      have HW2 := hide (tgW_of E1.out hb HI.out)
      have EB := hide hb
      clear hb
      go_enter Tryz.func17, Tryz.ntmps17
      go_upto_region 1 with (fail)
      rw [HW.out]
      go_wp2_with fail
      refine cc.mono ?_
      rintro e w1 ⟨rfl, hb1⟩
      have HB1 := hide (below_call HB.out hb1)
      have HTT := hide (HT1.out.call hb1)
      have RT := hide (R0.out.call hb1)
      have y0 := RT.out.cell (k := 0) rfl
      obtain ⟨k, hk4, hk, hAl⟩ := HW2.out.al
      have hbd := HW2.out.b
      have hn80 := HW2.out.n
      have hln := HTT.out.len
      have HAL := hide hAl
      have hTw : w.heap.size < w1.heap.size := RT.out.lt
      clear hb1 cc hAl R0 HB HT1 HW x0 x1
      go_wp2_with fail
      refine (hA w1).mono ?_
      rintro e w' ⟨rfl, rfl⟩
      go_upto_region 8 with (fail)
      go_loop [7, 8] (fun mkv nv => ∃ j : Nat, j ≤ k ∧ mkv = .int .u64 (j : Int) ∧ nv = .int .i64 ((2 : Int) ^ (k - j))) (fun mkv _ => k - (intOf mkv).toNat)
      case atStart => exact ⟨0, Nat.zero_le _, rfl, by rw [HAL.out]; rfl⟩
      case round =>
        obtain ⟨j, hj, rfl, rfl⟩ := hrel
        by_cases hjk : j < k
        · obtain ⟨m, hm⟩ : ∃ m, k - j = m + 1 := ⟨k - j - 1, by omega⟩
          have hg := pow_gt m
          have hh := half_pow m
          have hp1 := two_pos m
          have hpl : (2 : Int) ^ m ≤ 16777216 := by
            have := powB_b (powB_iff.2 ⟨m, by omega, rfl⟩)
            exact this.2
          rw [hm]
          obtain ⟨p, hp⟩ : ∃ p, (2 : Int) ^ (m + 1) = p := ⟨_, rfl⟩
          obtain ⟨q, hq⟩ : ∃ q, (2 : Int) ^ m = q := ⟨_, rfl⟩
          rw [hp] at hg hh ⊢
          rw [hq] at hh hp1 hpl
          have hjz : (0 : Int) ≤ (j : Int) := by omega
          have wq := wrap_i64 q (by omega) (by omega)
          have HQ := hide hq
          clear hp hq
          go_wp2_with fail
          exact ⟨⟨j + 1, by omega, rfl, by rw [show k - (j + 1) = m by omega, HQ.out]⟩, by simp [intOf]; omega⟩
        · obtain rfl : j = k := by omega
          rw [Nat.sub_self, Int.pow_zero]
          obtain ⟨B, hBe⟩ : ∃ B, w1.heap.size = B := ⟨_, rfl⟩
          have hcv := Go.Lib.run_convert_bytes_const (P := Tryz.prog) w1 22 5 #[.int .u8 70, .int .u8 82, .int .u8 77, .int .u8 49] 4 4 Tryz.underlying22 Tryz.underlying5
          obtain ⟨W1, hW1⟩ : ∃ W1, w1.alloc (.cells #[.int .u8 70, .int .u8 82, .int .u8 77, .int .u8 49] 5 ((#[.int .u8 70, .int .u8 82, .int .u8 77, .int .u8 49] : Array Value).size, (#[.int .u8 70, .int .u8 82, .int .u8 77, .int .u8 49] : Array Value).size + 1)) = W1 := ⟨_, rfl⟩
          rw [hW1] at hcv
          have hb2 : Below w1.heap.size w1 W1 := by rw [← hW1]; exact below1 w1 _
          have C0 : Sees W1 (w1.heap.size + 1) (some ⟨w1.heap.size, 0, none⟩) (cellsU8 jmagic) := fun q u hu => ⟨w1.heap.size, 0, rfl, by omega, by
            have hb : W1.heap[w1.heap.size]? = some (.cells #[.int .u8 70, .int .u8 82, .int .u8 77, .int .u8 49] 5 ((#[.int .u8 70, .int .u8 82, .int .u8 77, .int .u8 49] : Array Value).size, (#[.int .u8 70, .int .u8 82, .int .u8 77, .int .u8 49] : Array Value).size + 1)) := by rw [← hW1]; exact heap_alloc_new _ _
            unfold World.cell?
            simp only [hb]
            rcases q with _ | _ | _ | _ | q
            all_goals first | exact hu | (simp [cellsU8, jmagic] at hu)⟩
          have cp := refput_any (some ⟨w1.heap.size, 0, none⟩) 4 4 jmagic (j : Int) (w1.heap.size + 1) W1 (hide (fun e => by cases e)) (hide rfl) (by omega) C0 (by omega) (by omega)
          rw [show ((j : Int)).toNat = j by omega] at cp
          rw [hBe] at hcv cp hTw
          have HBE := hide hBe
          clear hW1 C0 hjk
          go_wp2_with fail
          refine cp.mono ?_
          rintro e w2 ⟨r0, rfl, ho0, hb3⟩
          have HJ0 := hide (show JV w1 B w2 r0 (jmagic ++ digsI j) from by
            have hs : W1.heap.size ≥ w1.heap.size := hb2.size
            rw [← HBE.out]
            exact ⟨by rw [List.length_append, digsI_length]; exact own_less ho0 hs, hb2.trans (hb3.mono hs)⟩)
          have hB1 : B ≤ w1.heap.size := by rw [HBE.out]; exact Nat.le_refl _
          clear cp hcv hb2 ho0 hb3 y0 hBe
          have TK := hide (show ∀ wr, Below B w1 wr → Row wr w.heap.size 53 [.int .i64 Al, .slice A n c] ∧ TgAt wr lo B A n c hs F from fun wr hb =>
            ⟨RT.out.below hb (by omega), by have h := HTT.out; rw [HBE.out] at h; exact h.below hb⟩)
          obtain ⟨A0, c0, rfl, hA0, hc0, hs0⟩ := own_val HJ0.out.own
          have wbd := wrap_u64_in bd hbd.1 (by omega)
          have wn := wrap_u64_in (n : Int) (by omega) (by omega)
          have l1 := lenv10 (u := j) (by omega)
          have hml : jmagic.length = 4 := rfl
          obtain ⟨z0, hz0'⟩ : ∃ z, jmagic ++ digsI j = z := ⟨_, rfl⟩
          have hzl0 : z0.length ≤ 14 := by rw [← hz0', List.length_append, digsI_length]; omega
          rw [hz0'] at HJ0 hc0 hs0 ⊢
          have HZ0 := hide hz0'
          have JD := hide HJ0.out.drew
          have c1 := refput_any A0 z0.length c0 z0 bd w2.heap.size w2.drew (hide hA0) (hide rfl) (by omega) (hs0.draws 1) hbd.1 (by omega)
          have x1 := (TK.out _ JD.out.b).1.cell (k := 1) rfl
          clear hA0 hc0 hs0 hz0' l1
          go_upto_region 12 with (fail)
          go_cut [9] (fun v wx => JV w1 B wx v (z0 ++ (digsI bd.toNat ++ digsI n)))
          case first =>
            go_region_law
              (first
                | (go_simp; go_at_call 38; refine c3.mono ?_; rintro e w4 ⟨r4, rfl, ho4, hb4⟩)
                | (go_simp; go_at_call 38; refine c1.mono ?_; rintro e w3 ⟨r2, rfl, ho2, hb2⟩; have J3 := JD.out.put hB1 ho2 hb2; obtain ⟨z1, hz1⟩ : ∃ z, z0 ++ digsI bd.toNat = z := ⟨_, rfl⟩; have hl1 : z1.length ≤ 24 := (by rw [← hz1, List.length_append, digsI_length]; have := lenv10 (u := bd.toNat) (by omega); omega); rw [hz1] at J3; have HZ1 := hide hz1; clear hz1 ho2; obtain ⟨A2, c2, rfl, hA2, hc2, hs2⟩ := own_val J3.own; have x2 := (TK.out _ J3.b).1.cell (k := 1) rfl; have c3 := refput_any A2 z1.length c2 z1 (n : Int) w3.heap.size w3 (hide hA2) (hide rfl) (by omega) hs2 (by omega) (by omega)))
            all_goals
              have J5 := J3.put (u := n) hB1 (by rw [show ((n : Int)).toNat = n by omega] at ho4; exact ho4) hb4
              rw [← HZ1.out, List.append_assoc] at J5
              clear hb2 ho4 hb4 c1 c3 x2
              go_wp2_with fail
              go_meet
              exact J5
          case rest =>
            clear c1 JD x1 wbd wn HJ0
            obtain ⟨Y0, hY0⟩ : ∃ Y, z0 ++ (digsI bd.toNat ++ digsI n) = Y := ⟨_, rfl⟩
            have HY := hide (show tgY Al bd F = Y0 ++ F.flatMap (frY Al) by
              rw [← hY0, ← HZ0.out]
              unfold tgY
              rw [HAL.out, expo_pow, hln]
              simp [List.append_assoc])
            have hYl : Y0.length ≤ 100 := by
              rw [← hY0]
              simp only [List.length_append, digsI_length]
              have e2 := lenv10 (u := bd.toNat) (by omega)
              have e3 := lenv10 (u := n) (by omega)
              omega
            rw [hY0] at hcut
            have HC := hide hcut
            have HEX := hide (ex_of E1.out)
            have HFW := hide HW2.out.f
            have hAl1 : 1 ≤ Al ∧ Al ≤ 16777216 := by rw [HAL.out]; exact powB_b (powB_iff.2 ⟨j, hk, rfl⟩)
            clear hcut hY0 hzl0
            go_upto_region 14 with (fail)
            go_loopw [9, 10, 11, 12, 13, 14, 15, 16] (fun bv iv _ _ _ _ _ _ wr => ∃ i : Nat, i ≤ n ∧ iv = .int .i64 (i : Int) ∧ Hid (JV w1 B wr bv (Y0 ++ (F.take i).flatMap (frY Al))) ∧ Hid ((Y0 ++ (F.take i).flatMap (frY Al)).length ≤ 100 + i * 50000)) (fun _ iv _ _ _ _ _ _ _ => n - (intOf iv).toNat)
            case atStart => exact ⟨0, Nat.zero_le _, rfl, by simpa using HC, hide (by simpa using hYl)⟩
            case round =>
              obtain ⟨i, hin, rfl, HJ, HL⟩ := hrel
              clear HC
              obtain ⟨tr, tt⟩ := TK.out _ HJ.out.b
              have t1 := tr.cell (k := 1) rfl
              have t0 := tr.cell (k := 0) rfl
              by_cases hlt : i < n
              · have hlz : (i : Int) < (n : Int) := by omega
                have hiz : (0 : Int) ≤ (i : Int) := by omega
                obtain ⟨b1, o1, P, S, A1, n1, c1, f, rfl, hbB, hFi, hhi, hfd, f0, f1, f2⟩ := fm_at tt hlt
                have hfw := HFW.out f (List.mem_of_getElem? hFi)
                have hfx := hide (HEX.out f (List.mem_of_getElem? hFi))
                have hP := hfd.p
                have hS := hfd.s
                have hn1 := hfd.l
                simp only at hP hS hn1
                have bP := hfw.p
                have bS := hfw.s
                have bc := hfw.c
                rw [← hP] at bP
                rw [← hS] at bS
                rw [hn1] at bc
                obtain ⟨Q, hQ⟩ : ∃ Q, S / Al = Q := ⟨_, rfl⟩
                have bQ : 0 ≤ Q ∧ Q ≤ 2147483647 := by rw [← hQ]; have := div_in (k := j) bS; rwa [← HAL.out] at this
                have hq : Int.tdiv S Al = Q := by rw [Int.tdiv_eq_ediv_of_nonneg bS.1]; exact hQ
                have wP := wrap_u64_in P bP.1 (by omega)
                have wQ := wrap_u64_in Q bQ.1 (by omega)
                have wn1 := wrap_u64_in (n1 : Int) (by omega) (by omega)
                have wq := wrap_i64 Q (by omega) (by omega)
                have hAl0 : ¬ (Al = 0) := by omega
                obtain ⟨X, hX⟩ : ∃ X, wr.heap.size = X := ⟨_, rfl⟩
                obtain ⟨V, hV⟩ : ∃ V, wr.alloc (.cells #[.int .i64 P, .int .i64 S, .slice A1 n1 c1] 90) = V := ⟨_, rfl⟩
                have HV := hide hV
                have HX := hide hX
                have hVB : Below wr.heap.size wr V := by rw [← hV]; exact below1 wr _
                have hBX : B ≤ X := by rw [← hX]; exact Nat.le_trans hB1 HJ.out.b.size
                have RX := hide (show Row V X 90 [.int .i64 P, .int .i64 S, .slice A1 n1 c1] by rw [← hV, ← hX]; exact Row.new wr _ _)
                obtain ⟨Y, hY⟩ : ∃ Y, Y0 ++ (F.take i).flatMap (frY Al) = Y := ⟨_, rfl⟩
                have HN := hide (show Y0 ++ (F.take (i + 1)).flatMap (frY Al) = Y ++ frY Al f by rw [← hY, List.take_add_one, hFi]; simp)
                rw [hY] at HL HJ
                have hyl := HL.out
                have JVV := hide (show JV w1 B V u9 Y from ⟨own_below HJ.out.own hVB, HJ.out.b.trans (hVB.mono (Nat.le_trans hB1 HJ.out.b.size))⟩)
                have hro : ∀ q, u9.ownBlock = some q → q < X := fun q hq => by have := (HJ.out.own.lt q hq).2; omega
                obtain ⟨Ab, cb, hbe, hAb, hcb, hsb⟩ := own_val JVV.out.own
                subst hbe
                have JD := hide JVV.out.drew
                have hyl2 : Y.length ≤ 5000000 := by omega
                have c1' := refput_any Ab Y.length cb Y P V.heap.size V.drew (hide hAb) (hide rfl) (by omega) (hsb.draws 1) bP.1 (by omega)
                have hVs : V.heap.size = X + 1 := by rw [← hV, ← hX]; simp
                have v0 := RX.out.drew.cell (k := 0) rfl
                have v1 := RX.out.drew.cell (k := 1) rfl
                have d0 := (TK.out _ JD.out.b).1.cell (k := 0) rfl
                have HPf := hide hP
                have HSf := hide hS
                have Hnf := hide hn1
                have HQf := hide hQ
                clear hV hX hVB hQ hP hS hn1 hAb hcb hsb hY
                go_upto_region 17 with (fail)
                rw [HV.out, HX.out]
                clear t0 t1 f0 f1 f2 HV HX
                go_cut [9] (fun v wx => JV w1 B wx v (Y ++ (digsI P.toNat ++ digsI Q.toNat)) ∧ Row wx X 90 [.int .i64 P, .int .i64 S, .slice A1 n1 c1])
                case first =>
                  go_region_law
                    (first
                      | (go_simp; go_at_call 38; refine c3.mono ?_; rintro e w4 ⟨r4, rfl, ho4, hb4⟩)
                      | (go_simp; go_at_call 38; refine c1'.mono ?_; rintro e w3 ⟨r2, rfl, ho2, hb2⟩; have J3 := JD.out.put hB1 ho2 hb2; have RX3 := RX.out.drew.call hb2; have v2 := RX3.cell (k := 1) rfl; have d2 := (TK.out _ J3.b).1.cell (k := 0) rfl; obtain ⟨z1, hz1⟩ : ∃ z, Y ++ digsI P.toNat = z := ⟨_, rfl⟩; have hl1 : z1.length ≤ 5000010 := (by rw [← hz1, List.length_append, digsI_length]; have := lenv10 (u := P.toNat) (by omega); omega); rw [hz1] at J3; have HZ1 := hide hz1; clear hz1 ho2; obtain ⟨A2, c2, rfl, hA2, hc2, hs2⟩ := own_val J3.own; have c3 := refput_any A2 z1.length c2 z1 Q w3.heap.size w3 (hide hA2) (hide rfl) (by omega) hs2 bQ.1 (by omega)))
                  all_goals
                    have J5 := J3.put (u := Q.toNat) hB1 ho4 hb4
                    rw [← HZ1.out, List.append_assoc] at J5
                    have R5 := RX3.call hb4
                    clear hb2 ho4 hb4 c1' c3 v2 d2
                    go_wp2_with fail
                    go_meet
                    exact ⟨J5, R5⟩
                case rest =>
                  obtain ⟨hJ5, hR5⟩ := hcut
                  clear c1' JD v0 v1 d0
                  obtain ⟨z2, hz2⟩ : ∃ z, Y ++ (digsI P.toNat ++ digsI Q.toNat) = z := ⟨_, rfl⟩
                  have hzl2 : z2.length ≤ Y.length + 20 := by
                    rw [← hz2]
                    simp only [List.length_append, digsI_length]
                    have e1 := lenv10 (u := P.toNat) (by omega)
                    have e2 := lenv10 (u := Q.toNat) (by omega)
                    omega
                  rw [hz2] at hJ5
                  have HZ2 := hide hz2
                  have HJ5 := hide hJ5
                  have HR5 := hide hR5
                  obtain ⟨A5, c5, hbe, hA5, hc5, hs5⟩ := own_val hJ5.own
                  subst hbe
                  have x2 := hR5.cell (k := 2) rfl
                  have cn := refput_any A5 z2.length c5 z2 (n1 : Int) _ _ (hide hA5) (hide rfl) (by omega) hs5 (by omega) (by omega)
                  clear hz2 hJ5 hR5 hA5 hc5 hs5
                  go_wp2_with fail
                  refine cn.mono ?_
                  rintro e w6 ⟨r6, rfl, ho6, hb6⟩
                  have hXl : X < w6.heap.size := Nat.lt_of_lt_of_le HR5.out.lt hb6.size
                  have R6 := hide (HR5.out.call hb6)
                  have J6 := HJ5.out.put (u := n1) hB1 (by rw [show ((n1 : Int)).toNat = n1 by omega] at ho6; exact ho6) hb6
                  have hne6 := own_fresh ho6 HR5.out.lt
                  obtain ⟨Z, hZ⟩ : ∃ Z, z2 ++ digsI n1 = Z := ⟨_, rfl⟩
                  have hZl : Z.length ≤ Y.length + 30 := by
                    rw [← hZ, List.length_append, digsI_length]
                    have e3 := lenv10 (u := n1) (by omega)
                    omega
                  have HFR := hide (show Y ++ frY Al f = Z ++ f.code.flatMap minsY by
                    rw [← hZ, ← HZ2.out]
                    unfold frY
                    rw [← HPf.out, ← HSf.out, HQf.out, Hnf.out]
                    simp [List.append_assoc])
                  rw [hZ] at J6
                  have HJ6 := hide J6
                  have HN6 := hide hne6
                  clear hZ J6 ho6 hb6 cn hne6 x2 HJ5 HR5 RX JVV HJ
                  go_upto_region 20 with (fail)
                  go_loopw [9, 12, 13, 14, 15, 16] (fun bv jv _ _ _ _ wk => ∃ j2 : Nat, j2 ≤ n1 ∧ jv = .int .i64 (j2 : Int) ∧ Hid (JV w1 B wk bv (Z ++ (f.code.take j2).flatMap minsY)) ∧ Hid (Row wk X 90 [.int .i64 P, .int .i64 S, .slice A1 n1 c1]) ∧ Hid (∀ q, bv.ownBlock = some q → q ≠ X) ∧ Hid ((Z ++ (f.code.take j2).flatMap minsY).length ≤ Y.length + 30 + j2 * 41)) (fun _ jv _ _ _ _ _ => n1 - (intOf jv).toNat)
                  case atStart => exact ⟨0, Nat.zero_le _, rfl, by simpa using HJ6, R6, HN6, hide (by simpa using hZl)⟩
                  case round =>
                    obtain ⟨j2, hjn, rfl, HJj, HRj, HNj, HLj⟩ := hrel
                    clear HJ6 R6 HN6
                    have y2 := HRj.out.cell (k := 2) rfl
                    by_cases hjl : j2 < n1
                    · have hjz : (j2 : Int) < (n1 : Int) := by omega
                      have hjz0 : (0 : Int) ≤ (j2 : Int) := by omega
                      have hfd2 := (TK.out _ HJj.out.b).2.hd.at_ i _ _ hhi hFi
                      have hjc : j2 < f.code.length := by rw [Hnf.out]; exact hjl
                      obtain ⟨b2, o2, hA1, hb2, g0, g1, g2, g3, g4⟩ := ins_at hfd2.c hjc
                      have hA1' : A1 = some ⟨b2, o2, none⟩ := hA1
                      subst hA1'
                      have hxj : f.code[j2]? = some f.code[j2] := List.getElem?_eq_getElem hjc
                      have HXW := hide (hfw.cd f.code[j2] (List.getElem_mem hjc))
                      have hex := hfx.out f.code[j2] (List.getElem_mem hjc)
                      obtain ⟨x, hx⟩ : ∃ x, f.code[j2] = x := ⟨_, rfl⟩
                      rw [hx] at g0 g1 g2 g3 g4 hxj HXW hex
                      have hxo := HXW.out.o
                      have hn1c : n1 ≤ c1 := hfd2.k.2.1
                      obtain ⟨zj, hzj⟩ : ∃ Y, Z ++ (f.code.take j2).flatMap minsY = Y := ⟨_, rfl⟩
                      have HNJ := hide (show Z ++ (f.code.take (j2 + 1)).flatMap minsY = zj ++ minsY x by rw [← hzj, List.take_add_one, hxj]; simp)
                      have hml := minsY_len HXW.out
                      rw [hzj] at HLj HJj
                      have hzl := HLj.out
                      have co := fun w => rop10_any x.op w hxo.1 hxo.2 hex
                      have cpi := fun w => rputm_any none 0 0 [] x 0 w (hide fun _ => rfl) (hide (Nat.le_refl _)) (hide rfl) (by omega) (hide (Sees.nil_ _ _ _)) (hide (Nat.zero_le _)) HXW
                      obtain ⟨rj, hrj⟩ : ∃ r, u9 = r := ⟨_, rfl⟩
                      rw [hrj] at HJj HNj ⊢
                      clear hx hfd2 hA1 hxj hzj hrj
                      go_upto_region 23 with (go_at_call 39; refine (co _).mono ?_; rintro e w' ⟨rfl, rfl⟩)
                      go_wp2_with fail
                      refine (cpi wr).mono ?_
                      rintro e w7 ⟨r7, l7, rfl, hl7, ho7, hb7⟩
                      rw [Nat.zero_add] at hl7
                      subst hl7
                      rw [List.nil_append] at ho7
                      have h0 : 0 < (minsY x).length := by unfold minsY; simp
                      have hX7 : X < wr.heap.size := HRj.out.lt
                      have own7 := own_below HJj.out.own hb7
                      have R7 := hide (HRj.out.call hb7)
                      have hBw : B ≤ wr.heap.size := by omega
                      have hb17 := hide (HJj.out.b.trans (hb7.mono hBw))
                      have hrl : ∀ q, rj.ownBlock = some q → B ≤ q := fun q hq => (HJj.out.own.lt q hq).1
                      obtain ⟨A7, c7, rfl, hA7, hc7, hs7⟩ := own_val ho7
                      obtain ⟨b7, o7, rfl⟩ : ∃ b o, A7 = some ⟨b, o, none⟩ := by
                        obtain ⟨b, o, e, -, -⟩ := hs7 0 (.int .u8 ((minsY x)[0])) (by simp [cellsU8])
                        exact ⟨b, o, e⟩
                      have hm7 : ∀ q u, (cellsU8 (minsY x))[q]? = some u → w7.cell? ⟨b7, o7 + q, none⟩ = some u := fun q u hu => by
                        obtain ⟨b, o, e, -, hc⟩ := hs7 q u hu
                        cases e
                        exact hc
                      have hl7 : (cellsU8 (minsY x)).length = (minsY x).length * 1 := by rw [Nat.mul_one]; simp [cellsU8]
                      have hzn : n1 ≤ 1024 := bc
                      clear ho7 hs7 hA7 cpi co g0 g1 g2 g3 g4 y2
                      go_wp2_with (at_builtin; refine wpList_append_where rfl (.tmp 95) (.tmp 105) 22 rfl B 5 i0 (.int .u8 0) 1 1 Tryz.underlying22 hi hz0 hz1 hz2 rfl (by decide) rj zj.length (cellsU8 zj) ?a1 ?a2 ⟨b7, o7, none⟩ (minsY x).length c7 (cellsU8 (minsY x)) ?a3 ?a4 ?a5 (one_u8 _) ?a7 ?a8 ?a9 ?a10)
                      case a1 => rfl
                      case a2 => exact own7
                      case a3 => rfl
                      case a4 => exact hl7
                      case a5 => exact fun q u hu => by rw [WideShapes.add_plain]; exact hm7 q u hu
                      case a7 => unfold maxLen; omega
                      case a8 => omega
                      case a9 => have := hb7.size; omega
                      case a10 =>
                        intro v' w8 ho8 hg8 hwh
                        have hB7 := hb17.out.size
                        have hw7 := hb7.size
                        have R8 := hide (R7.out.grown hg8 (fun e => HNj.out X e.symm rfl))
                        have hne8 : Hid (∀ q, v'.ownBlock = some q → q ≠ X) := hide fun q hq => by
                          rcases hwh q hq with e | e
                          · exact HNj.out q e
                          · omega
                        have J8 : JV w1 B w8 v' (zj ++ minsY x) := ⟨by rw [cellsU8_app, List.length_append]; exact ho8, hb17.out.grown hg8 (by omega) (fun q hq => hrl q hq)⟩
                        rw [← HNJ.out] at J8
                        have HJ8 := hide J8
                        have HL8 := hide (show (Z ++ (f.code.take (j2 + 1)).flatMap minsY).length ≤ Y.length + 30 + (j2 + 1) * 41 by rw [HNJ.out, List.length_append]; omega)
                        clear J8 ho8 hg8 hwh
                        go_wp2_with fail
                        go_roundw
                        case rel => exact ⟨j2 + 1, by omega, by go_num, HJ8, R8, hne8, HL8⟩
                        case measure => simp [intOf]; omega
                    · obtain rfl : j2 = n1 := by omega
                      have hjz : ¬ ((j2 : Int) < (j2 : Int)) := by omega
                      have hcl : f.code.take j2 = f.code := List.take_of_length_le (by rw [Hnf.out]; exact Nat.le_refl _)
                      rw [hcl, ← HFR.out, ← HN.out] at HJj
                      have HLo := hide (show (Y0 ++ (F.take (i + 1)).flatMap (frY Al)).length ≤ 100 + (i + 1) * 50000 by
                        have h := HLj.out
                        rw [hcl, ← HFR.out, ← HN.out] at h
                        omega)
                      clear hjl HLj
                      go_wp2_with fail
                      go_roundw
                      case rel => exact ⟨i + 1, by omega, by go_num, HJj, HLo⟩
                      case measure => simp [intOf]; omega
              · obtain rfl : i = n := by omega
                have hlz : ¬ ((i : Int) < (i : Int)) := by omega
                have hfl : F.take i = F := List.take_of_length_le (by omega)
                rw [hfl, ← HY.out] at HJ HL
                have hl9 := HL.out
                have HBy := hide (tgY_byt HW2.out)
                obtain ⟨ys, hys⟩ : ∃ ys, tgY Al bd F = ys := ⟨_, rfl⟩
                rw [hys] at HBy HJ hl9
                have HEL := hide (show encJ Al bd F = withY ys by rw [← hys]; rfl)
                have hEl : (encJ Al bd F).length = ys.length + 4 := by rw [HEL.out]; exact List.length_append
                have hBw : B ≤ wr.heap.size := Nat.le_trans hB1 HJ.out.b.size
                have HBw := hide (show Below w.heap.size w wr from HB1.out.trans (HJ.out.b.mono (by omega)))
                obtain ⟨Ar, cr, hr, -, -, -, -⟩ := own_seen HJ.out.own
                subst hr
                have hro : ∀ q, (Value.slice Ar ys.length cr).ownBlock = some q → B ≤ q := fun q hq => (HJ.out.own.lt q hq).1
                have cs := rputcrc_any (.slice Ar ys.length cr) ys.length ys B wr (hide HJ.out.own) (hide hBw) (by omega) HBy
                clear hfl hys hlt HL t0
                go_upto_region 24 with (fail)
                by_cases hlim : 1048576 < ys.length + 4
                · have hlz2 : (1048576 : Int) < (ys.length : Int) + 4 := by omega
                  have HE := hide (show encJE Al bd F = 3 by unfold encJE; rw [if_neg (by rw [E1.out]; decide), if_neg (by rw [EB.out]; decide), hEl, if_pos hlim])
                  go_wp2_with fail
                  go_ret2
                  exact jc_bad HE.out (by decide) HBw.out
                · have hlz2 : ¬ ((1048576 : Int) < (ys.length : Int) + 4) := by omega
                  have HE := hide (show encJE Al bd F = 0 by unfold encJE; rw [if_neg (by rw [E1.out]; decide), if_neg (by rw [EB.out]; decide), hEl, if_neg hlim])
                  go_wp2_with fail
                  refine cs.mono ?_
                  rintro e w8 ⟨r8, rfl, ho8, hg8⟩
                  obtain ⟨A8, c8, rfl, -, -, -, -⟩ := own_seen ho8
                  have FIN := hide (show JcPost Al bd F w (.returned (.tuple #[.slice A8 (ys.length + 4) c8, .int .i64 0])) w8 from ⟨A8, ys.length + 4, c8, by rw [HE.out], fun _ => ⟨hEl.symm, by rw [HEL.out]; exact own_less ho8 (by omega)⟩, fun h => absurd HE.out h, HBw.out.grown hg8 HBw.out.size (fun q hq => by have := hro q hq; omega)⟩)
                  clear ho8 hg8 cs hlim
                  go_wp2_with fail
                  go_ret2
                  exact FIN.out
  · have hne : (tgE Al F == 0) = false := by simpa using h1
    have HE := hide (show encJE Al bd F = tgE Al F by unfold encJE; rw [if_pos h1])
    have HN := hide h1
    obtain ⟨x, hx⟩ : ∃ x, tgE Al F = x := ⟨_, rfl⟩
    rw [hx] at cc hne HE HN
    clear h1 hx
    go_enter Tryz.func17, Tryz.ntmps17
    go_upto_region 1 with (fail)
    rw [HW.out]
    go_wp2_with fail
    refine cc.mono ?_
    rintro e w1 ⟨rfl, hb1⟩
    have HB1 := hide (below_call HB.out hb1)
    clear hb1 cc
    go_wp2_with fail
    go_ret2
    exact jc_bad HE.out HN.out HB1.out
end Go.Proofs.YtlcmcmocjbeocaaGreatDoor
end
