import Derived.Test.YtlcmcmocjbeocaaGreatDoorMRct
import Derived.Test.YtlcmcmocjbeocaaGreatDoorMPmem
import Derived.Lib.SlBytesConst
set_option linter.unusedVariables false
set_option linter.unusedSimpArgs false
section
/-
  The program's encoded: the bytes of a target and a bound that can be written. Conditions: the table of TrailingZeros64 lies as it is laid.
-/
namespace Go.Proofs.YtlcmcmocjbeocaaGreatDoor
open Go.RowKit

theorem minsY_len {x : Ins} (h : MInsW x) : (minsY x).length ≤ 41 := by
  rw [opsU_bytes h, List.length_cons]
  have h1 := flat_le (f := digsI) (m := 10) (opsU x) (fun a ha => by rw [digsI_length]; exact lenv_le _ (by have := opsU_le h a ha; omega))
  have h2 := opsU_len x
  have := Nat.mul_le_mul_right 10 h2
  omega
theorem lenv10 {u : Nat} (h : u ≤ 18446744073709551615) : lenv u ≤ 10 := lenv_le u (by omega)
theorem minsY_byt {x : Ins} (h : MInsW x) : Byt (minsY x) := by
  rw [opsU_bytes h]
  have ho := h.o
  exact Byt.cons ho.1 (by omega) (Byt.flat fun a _ => Byt.digs a)
theorem frY_byt {Al : Int} {f : Fm} (h : FmW Al f) : Byt (frY Al f) := (Byt.digs _).app ((Byt.digs _).app ((Byt.digs _).app (Byt.flat fun x hx => minsY_byt (h.cd x hx))))
theorem jmagic_byt : Byt jmagic := by intro z hz; simp [jmagic] at hz; omega
theorem tgY_byt {Al b : Int} {F : Tg} (h : TgW Al b F) : Byt (tgY Al b F) := jmagic_byt.app ((Byt.digs _).app ((Byt.digs _).app ((Byt.digs _).app (Byt.flat fun f hf => frY_byt (h.f f hf)))))
/-- What encoded leaves. -/
def EcPost (ys : List Int) (w : World) (e : Ending) (w' : World) : Prop :=
  ∃ A c, e = .returned (.slice A ys.length c) ∧ w'.ownsRow w.heap.size 5 1 (.slice A ys.length c) ys.length (cellsU8 ys) ∧ Below w.heap.size w w'

set_option maxRecDepth 100000 in
set_option maxHeartbeats 16000000 in
theorem jencoded_any (Al bd : Int) (A : Option Addr) (n c : Nat) (hs : List Fd) (F : Tg) (lo : Nat) (w : World) (HT : Hid (TgAt w lo w.heap.size A n c hs F)) (HW : Hid (TgW Al bd F)) (hTab : Hid (Tab w)) :
    Calls Tryz.prog 65 #[tv Al A n c, .int .i64 bd] w (EcPost (encJ Al bd F) w) := by
  obtain ⟨i0, hi, hz0, hz1, hz2⟩ := info_parts Tryz.info5
  obtain ⟨k, hk4, hk, hAl⟩ := HW.out.al
  have hbd := HW.out.b
  have hn80 := HW.out.n
  have hln := HT.out.len
  have hAl1 : 1 ≤ Al ∧ Al ≤ 16777216 := by rw [hAl]; exact powB_b (powB_iff.2 ⟨k, hk, rfl⟩)
  obtain ⟨T, hT⟩ : ∃ T, w.heap.size = T := ⟨_, rfl⟩
  have hcv := Go.Lib.run_convert_bytes_const (P := Tryz.prog) (w.alloc (.cells #[.int .i64 Al, .slice A n c] 53)) 22 5 #[.int .u8 70, .int .u8 82, .int .u8 77, .int .u8 49] 4 4 Tryz.underlying22 Tryz.underlying5
  rw [show (w.alloc (.cells #[.int .i64 Al, .slice A n c] 53)).heap.size = T + 1 by rw [← hT]; simp] at hcv
  obtain ⟨W1, hW1⟩ : ∃ W1, (w.alloc (.cells #[.int .i64 Al, .slice A n c] 53)).alloc (.cells #[.int .u8 70, .int .u8 82, .int .u8 77, .int .u8 49] 5 ((#[.int .u8 70, .int .u8 82, .int .u8 77, .int .u8 49] : Array Value).size, (#[.int .u8 70, .int .u8 82, .int .u8 77, .int .u8 49] : Array Value).size + 1)) = W1 := ⟨_, rfl⟩
  rw [hW1] at hcv
  obtain ⟨W, hW⟩ : ∃ W, W1.alloc (.cells #[.slice (some ⟨T + 1, 0, none⟩) 4 4] 22) = W := ⟨_, rfl⟩
  have HWW := hide hW
  have hW1s : W1.heap.size = T + 2 := by rw [← hW1, ← hT]; simp
  have RT := hide (show Row W T 53 [.int .i64 Al, .slice A n c] by rw [← hW, ← hW1, ← hT]; exact ((Row.new w _ _).alloc _).alloc _)
  have HB := hide (show Below w.heap.size w W by rw [← hW, ← hW1]; exact (below2 w _ _).alloc (below2 w _ _).size _)
  have hWs : W.heap.size = T + 3 := by rw [← hW]; simp [hW1s]
  have R0 := hide (show Row W (T + 2) 22 [.slice (some ⟨T + 1, 0, none⟩) jmagic.length jmagic.length] from by
    rw [← hW]
    exact (Row.new _ 22 [.slice (some ⟨T + 1, 0, none⟩) 4 4]).at_ (by rw [hW1s]))
  have C0 := hide (show ∀ j q, (cellsU8 jmagic)[j]? = some q → W.cell? ⟨T + 1, j, none⟩ = some q from fun j q hq => by
    have h1 : (w.alloc (.cells #[.int .i64 Al, .slice A n c] 53)).heap.size = T + 1 := by rw [← hT]; simp
    rw [← hW]
    refine Go.Lib.cell?_alloc_marked _ ?_
    rw [← hW1, ← h1]
    have hb : ((w.alloc (.cells #[.int .i64 Al, .slice A n c] 53)).alloc (.cells #[.int .u8 70, .int .u8 82, .int .u8 77, .int .u8 49] 5 ((#[.int .u8 70, .int .u8 82, .int .u8 77, .int .u8 49] : Array Value).size, (#[.int .u8 70, .int .u8 82, .int .u8 77, .int .u8 49] : Array Value).size + 1))).heap[(w.alloc (.cells #[.int .i64 Al, .slice A n c] 53)).heap.size]? = some (.cells #[.int .u8 70, .int .u8 82, .int .u8 77, .int .u8 49] 5 ((#[.int .u8 70, .int .u8 82, .int .u8 77, .int .u8 49] : Array Value).size, (#[.int .u8 70, .int .u8 82, .int .u8 77, .int .u8 49] : Array Value).size + 1)) := heap_alloc_new _ _
    unfold World.cell?
    simp only [hb]
    rcases j with _ | _ | _ | _ | j
    all_goals first | exact hq | (simp [cellsU8, jmagic] at hq))
  have HTb := hide (hTab.out.below HB.out)
  have HTW := hide ((HT.out.below HB.out))
  rw [hT] at HTW
  have w1 := wrap_u64_in Al (by omega) (by omega)
  have w2 := wrap_u64_in bd hbd.1 (by omega)
  have w3 := wrap_u64_in (n : Int) (by omega) (by omega)
  have w4 := wrap_u64_in (k : Int) (by omega) (by omega)
  have ctz := fun w' (h : Hid (Tab w')) => tzp_any k w' hk h
  rw [← hAl] at ctz
  have x0 := RT.out.drew.cell (k := 0) rfl
  have x1 := RT.out.drew.cell (k := 1) rfl
  have HAL := hide hAl
  clear hW hAl hW1
  go_enter Tryz.func65, Tryz.ntmps65
  go_upto_region 3 with (fail)
  rw [HWW.out]
  clear HWW hcv
  have hFl := HT.out.hd.len
  have V0 := hide (show Below W.heap.size W (W.alloc (.cells #[.int .u64 (k : Int), .int .u64 bd, .int .u64 (n : Int)] 35)).drew from ((Below.refl W.heap.size W).alloc (Nat.le_refl _) _).drew)
  have cput := jput_lit (T + 1) (T + 2) (T + 1) jmagic (some ⟨T + 3, 0, none⟩) 3 3 (T + 4) [k, bd.toNat, n] (W.alloc (.cells #[.int .u64 (k : Int), .int .u64 bd, .int .u64 (n : Int)] 35)).drew (hide (R0.out.call V0.out)) (hide fun j q hq => by
    have h := C0.out j q hq
    rw [← h]
    exact V0.out.cell (show (⟨T + 1, j, none⟩ : Addr).block < W.heap.size by simp; omega)) (by omega) ⟨Nat.le_refl _, Nat.lt_of_lt_of_le (show T + 1 < W.heap.size by omega) V0.out.size⟩ (Nat.le_trans (show T + 1 ≤ W.heap.size by omega) V0.out.size) (by decide) (by omega) (hide rfl) (by
    have r := (Row.new W 35 [.int .u64 (k : Int), .int .u64 bd, .int .u64 (n : Int)]).drew
    have e : wds [k, bd.toNat, n] = [.int .u64 (k : Int), .int .u64 bd, .int .u64 (n : Int)] := by
      unfold wds
      simp only [List.map_cons, List.map_nil]
      rw [Int.toNat_of_nonneg hbd.1]
    rw [e]
    intro j q hq
    exact ⟨T + 3, 0, rfl, by omega, by
      rw [Nat.zero_add]
      have h := r.cell hq
      rwa [show W.heap.size = T + 3 from hWs] at h⟩) (by show T + 4 ≤ (W.alloc _).heap.size; simp [hWs]) (hide fun b off e => by injection e with e; injection e with e1 e2; omega) (hide fun u hu => by simp at hu; omega) (by omega)
  have HY0 := hide (show jmagic ++ [k, bd.toNat, n].flatMap digsI = jmagic ++ (digsI k ++ (digsI bd.toNat ++ digsI n)) by simp)
  go_cut [] (fun wx => ∃ r, JW wx (T + 1) (T + 2) r (jmagic ++ (digsI k ++ (digsI bd.toNat ++ digsI n))) ∧ JKp W wx (T + 2) (.slice (some ⟨T + 1, 0, none⟩) 4 4) r)
  case first =>
    go_region_law
      (first
        | (go_simp; go_at_call 99; refine (ctz _ (hide (HTb.out.below (Below.refl _ _).drew))).mono ?_; rintro e w' ⟨rfl, rfl⟩)
        | (go_simp; go_at_call 97; refine cput.mono ?_; rintro e w4 ⟨rfl, r4, J4, K4⟩))
    all_goals
      rw [HY0.out] at J4
      have K5 : JKp W w4 (T + 2) (.slice (some ⟨T + 1, 0, none⟩) 4 4) r4 := (JKp.of_below V0.out _ _).trans K4
      go_wp2_with fail
      go_meet
      exact ⟨r4, J4, K5⟩
  case rest =>
    obtain ⟨r0, hJ0, hK0⟩ := hcut
    clear cput ctz hTab HTb V0 HY0 C0 R0 w1 w2 w3 w4 x0 x1
    obtain ⟨v0, hv0⟩ : ∃ v, Value.slice (some ⟨T + 1, 0, none⟩) 4 4 = v := ⟨_, rfl⟩
    have VO := hide (show ∀ q, v0.ownBlock = some q → q = T + 1 from fun q hq => by rw [← hv0] at hq; simp [Value.ownBlock] at hq; exact hq.symm)
    rw [hv0] at hK0
    clear hv0
    obtain ⟨Y0, hY0⟩ : ∃ Y, jmagic ++ (digsI k ++ (digsI bd.toNat ++ digsI n)) = Y := ⟨_, rfl⟩
    have HY := hide (show tgY Al bd F = Y0 ++ F.flatMap (frY Al) by
      rw [← hY0]
      unfold tgY
      rw [HAL.out, expo_pow, hln]
      simp [List.append_assoc])
    have hYl : Y0.length ≤ 100 := by
      rw [← hY0]
      simp only [List.length_append, digsI_length]
      have e1 := lenv10 (u := k) (by omega)
      have e2 := lenv10 (u := bd.toNat) (by omega)
      have e3 := lenv10 (u := n) (by omega)
      have e4 : jmagic.length = 4 := rfl
      omega
    rw [hY0] at hJ0
    clear hY0
    have TK := hide (show ∀ wr r, JKp W wr (T + 2) v0 r → Row wr T 53 [.int .i64 Al, .slice A n c] ∧ TgAt wr lo T A n c hs F ∧ Below w.heap.size w wr from fun wr r hk =>
      have hb : Below T W wr := hk.below (by omega) (by omega) (fun q hq => by have := VO.out q hq; omega)
      ⟨hk.row RT.out (by omega) (fun e => by have := VO.out T e; omega), HTW.out.below hb, by rw [hT]; rw [hT] at HB; exact HB.out.trans hb⟩)
    have x1 := (TK.out _ _ hK0).1.cell (k := 1) rfl
    have HJ0 := hide hJ0
    have HK0 := hide hK0
    have HFW := hide HW.out.f
    clear hJ0 hK0 RT HTW HB HT
    go_upto_region 5 with (fail)
    go_loopw [8, 10, 31] (fun _ _ iv wr => ∃ (i : Nat) (r : Value), i ≤ n ∧ iv = .int .i64 (i : Int) ∧ Hid (JW wr (T + 1) (T + 2) r (Y0 ++ (F.take i).flatMap (frY Al))) ∧ Hid (JKp W wr (T + 2) v0 r) ∧ Hid ((Y0 ++ (F.take i).flatMap (frY Al)).length ≤ 100 + i * 50000)) (fun _ _ iv _ => n - (intOf iv).toNat)
    case atStart => exact ⟨0, r0, Nat.zero_le _, rfl, by simpa using HJ0, HK0, hide (by simpa using hYl)⟩
    case round =>
      obtain ⟨i, r, hin, rfl, HJ, HK, HL⟩ := hrel
      clear HJ0 HK0 x1
      by_cases hlt : i < n
      · have hlz : (i : Int) < (n : Int) := by omega
        have hiz : (0 : Int) ≤ (i : Int) := by omega
        obtain ⟨tr, tt, tb⟩ := TK.out _ _ HK.out
        have t0 := tr.cell (k := 0) rfl
        obtain ⟨b1, o1, P, S, A1, n1, c1, f, rfl, hbB, hFi, hhi, hfd, f0, f1, f2⟩ := fm_at tt hlt
        have hfw := HFW.out f (List.mem_of_getElem? hFi)
        have hP := hfd.p
        have hS := hfd.s
        have hn1 := hfd.l
        simp only at hP hS hn1
        have bP := hfw.p
        have bS := hfw.s
        have bc := hfw.c
        rw [← hP] at bP
        rw [← hS] at bS
        rw [hn1] at bc
        obtain ⟨Q, hQ⟩ : ∃ Q, S / Al = Q := ⟨_, rfl⟩
        have bQ : 0 ≤ Q ∧ Q ≤ 2147483647 := by rw [← hQ]; have := div_in (k := k) bS; rwa [← HAL.out] at this
        have hq : Int.tdiv S Al = Q := by rw [Int.tdiv_eq_ediv_of_nonneg bS.1]; exact hQ
        have w1 := wrap_u64_in P bP.1 (by omega)
        have w2 := wrap_u64_in Q bQ.1 (by omega)
        have w3 := wrap_u64_in (n1 : Int) (by omega) (by omega)
        have w5 := wrap_i64 Q (by omega) (by omega)
        have hAl0 : ¬ (Al = 0) := by omega
        obtain ⟨X, hX⟩ : ∃ X, wr.heap.size = X := ⟨_, rfl⟩
        obtain ⟨V, hV⟩ : ∃ V, wr.alloc (.cells #[.int .i64 P, .int .i64 S, .slice A1 n1 c1] 90) = V := ⟨_, rfl⟩
        have HV := hide hV
        have HX := hide hX
        have hVB : Below wr.heap.size wr V := by rw [← hV]; exact below1 wr _
        have RX := hide (show Row V X 90 [.int .i64 P, .int .i64 S, .slice A1 n1 c1] by rw [← hV, ← hX]; exact Row.new wr _ _)
        have hVs : V.heap.size = X + 1 := by rw [← hV, ← hX]; simp
        have JV := hide (HJ.out.kept hVB)
        have HKV := hide (HK.out.trans (JKp.of_below hVB (T + 2) r))
        have hTX : T + 2 < X := by rw [← hX]; exact HJ.out.row.lt
        have TV := TK.out V r HKV.out
        have y0 := RX.out.drew.cell (k := 0) rfl
        have y1 := RX.out.drew.cell (k := 1) rfl
        have y2 := RX.out.drew.cell (k := 2) rfl
        have z0 := TV.1.drew.cell (k := 0) rfl
        have y3 := RX.out.cell (k := 2) rfl
        have hro := hide (show ∀ q, r.ownBlock = some q → T + 1 ≤ q ∧ q < X from fun q hq => by have := HJ.out.lo q hq; rw [hX] at this; exact this)
        obtain ⟨Y, hY⟩ : ∃ Y, Y0 ++ (F.take i).flatMap (frY Al) = Y := ⟨_, rfl⟩
        have HN := hide (show Y0 ++ (F.take (i + 1)).flatMap (frY Al) = Y ++ frY Al f by rw [← hY, List.take_add_one, hFi]; simp)
        rw [hY] at HL JV
        have hyl := HL.out
        have HU7 := hide (show Y ++ [P.toNat, Q.toNat, n1].flatMap digsI = Y ++ (digsI P.toNat ++ (digsI Q.toNat ++ digsI n1)) by simp)
        have VN := hide (show Below V.heap.size V (V.alloc (.cells #[.int .u64 P, .int .u64 Q, .int .u64 (n1 : Int)] 35)).drew from ((Below.refl V.heap.size V).alloc (Nat.le_refl _) _).drew)
        have cput := jput_any (T + 1) (T + 2) r Y (some ⟨X + 1, 0, none⟩) 3 3 (X + 2) [P.toNat, Q.toNat, n1] (V.alloc (.cells #[.int .u64 P, .int .u64 Q, .int .u64 (n1 : Int)] 35)).drew (hide (JV.out.kept VN.out)) (by have := VN.out.size; omega) (hide rfl) (by
          have rr := (Row.new V 35 [.int .u64 P, .int .u64 Q, .int .u64 (n1 : Int)]).drew
          have e : wds [P.toNat, Q.toNat, n1] = [.int .u64 P, .int .u64 Q, .int .u64 (n1 : Int)] := by
            unfold wds
            simp only [List.map_cons, List.map_nil]
            rw [Int.toNat_of_nonneg bP.1, Int.toNat_of_nonneg bQ.1]
          rw [e]
          intro j q hq
          exact ⟨X + 1, 0, rfl, by omega, by
            rw [Nat.zero_add]
            have h := rr.cell hq
            rwa [show V.heap.size = X + 1 from hVs] at h⟩) (by show X + 2 ≤ (V.alloc _).heap.size; simp [hVs]) (hide fun b off e => by
              injection e with e; injection e with e1 e2
              exact ⟨by omega, fun h => by have := hro.out b h; omega⟩) (hide fun u hu => by simp at hu; omega) (by omega) (by omega)
        have HPf := hide hP
        have HSf := hide hS
        have Hnf := hide hn1
        have HQf := hide hQ
        clear hV hX hVB tr tt tb hQ TV hP hS hn1
        go_upto_region 7 with (fail)
        rw [HV.out, HX.out]
        clear t0 f0 f1 f2 HV HX
        go_cut [] (fun wx => ∃ r', JW wx (T + 1) (T + 2) r' (Y ++ (digsI P.toNat ++ (digsI Q.toNat ++ digsI n1))) ∧ JKp V wx (T + 2) r r')
        case first =>
          go_region_law
            (first
              | (go_simp; go_at_call 97; refine cput.mono ?_; rintro e w4 ⟨rfl, r4, J4, K4⟩))
          all_goals
            rw [HU7.out] at J4
            have K5 : JKp V w4 (T + 2) r r4 := (JKp.of_below VN.out _ _).trans K4
            go_wp2_with fail
            go_meet
            exact ⟨r4, J4, K5⟩
        case rest =>
          obtain ⟨r1, hJ1, hK1⟩ := hcut
          clear cput w1 w2 w3 w5 y0 y1 y2 z0 VN HU7
          have HJ1 := hide hJ1
          have HK1 := hide hK1
          have RX1 := hide (hK1.row RX.out (by omega) (fun e => by have := hro.out X e; omega))
          have y2 := RX1.out.cell (k := 2) rfl
          obtain ⟨Z, hZ⟩ : ∃ Z, Y ++ (digsI P.toNat ++ (digsI Q.toNat ++ digsI n1)) = Z := ⟨_, rfl⟩
          have HFR := hide (show Y ++ frY Al f = Z ++ f.code.flatMap minsY by
            rw [← hZ]
            unfold frY
            rw [← HPf.out, ← HSf.out, HQf.out, Hnf.out]
            simp [List.append_assoc])
          have hZl : Z.length ≤ Y.length + 30 := by
            rw [← hZ]
            simp only [List.length_append, digsI_length]
            have e1 := lenv10 (u := P.toNat) (by omega)
            have e2 := lenv10 (u := Q.toNat) (by omega)
            have e3 := lenv10 (u := n1) (by omega)
            omega
          rw [hZ] at HJ1
          clear hZ hJ1 hK1 RX HJ HK
          go_upto_region 9 with (fail)
          go_loopw [10, 54] (fun _ jv wk => ∃ (j : Nat) (rj : Value), j ≤ n1 ∧ jv = .int .i64 (j : Int) ∧ Hid (JW wk (T + 1) (T + 2) rj (Z ++ (f.code.take j).flatMap minsY)) ∧ Hid (JKp V wk (T + 2) r rj) ∧ Hid ((Z ++ (f.code.take j).flatMap minsY).length ≤ Y.length + 30 + j * 41)) (fun _ jv _ => n1 - (intOf jv).toNat)
          case atStart => exact ⟨0, r1, Nat.zero_le _, rfl, by simpa using HJ1, HK1, hide (by simpa using hZl)⟩
          case round =>
            obtain ⟨j, rj, hjn, rfl, HJj, HKj, HLj⟩ := hrel
            clear HJ1 HK1 y2 RX1
            by_cases hjl : j < n1
            · have hjz : (j : Int) < (n1 : Int) := by omega
              have hjz0 : (0 : Int) ≤ (j : Int) := by omega
              have hwk := TK.out wr rj (HKV.out.trans HKj.out)
              have hfd2 := hwk.2.1.hd.at_ i _ _ hhi hFi
              have hjc : j < f.code.length := by rw [Hnf.out]; exact hjl
              obtain ⟨b2, o2, hA1, hb2, g0, g1, g2, g3, g4⟩ := ins_at hfd2.c hjc
              have hA1' : A1 = some ⟨b2, o2, none⟩ := hA1
              subst hA1'
              have hxj : f.code[j]? = some f.code[j] := List.getElem?_eq_getElem hjc
              have HXW := hide (hfw.cd f.code[j] (List.getElem_mem hjc))
              obtain ⟨x, hx⟩ : ∃ x, f.code[j] = x := ⟨_, rfl⟩
              rw [hx] at g0 g1 g2 g3 g4 hxj HXW
              have hxo := HXW.out.o
              have hwo : IntKind.u8.wrap x.op = x.op := by rw [IntKind.wrap_u8']; omega
              obtain ⟨X2, hX2⟩ : ∃ X, wr.heap.size = X := ⟨_, rfl⟩
              obtain ⟨V2, hV2⟩ : ∃ V, wr.alloc (.cells #[.int .i64 x.op, .int .i64 x.a, .int .i64 x.b, .int .i64 x.c, .int .u64 x.imm] 64) = V := ⟨_, rfl⟩
              have HV2 := hide hV2
              have HX2 := hide hX2
              have hVB2 : Below wr.heap.size wr V2 := by rw [← hV2]; exact below1 wr _
              have RX2 := hide (show Row V2 X2 64 [.int .i64 x.op, .int .i64 x.a, .int .i64 x.b, .int .i64 x.c, .int .u64 x.imm] by rw [← hV2, ← hX2]; exact Row.new wr _ _)
              have hVs2 : V2.heap.size = X2 + 1 := by rw [← hV2, ← hX2]; simp
              obtain ⟨zj, hzj⟩ : ∃ Y, Z ++ (f.code.take j).flatMap minsY = Y := ⟨_, rfl⟩
              have HNJ := hide (show Z ++ (f.code.take (j + 1)).flatMap minsY = (zj ++ [x.op]) ++ (opsU x).flatMap digsI by rw [← hzj, List.take_add_one, hxj]; simp [opsU_bytes HXW.out])
              have hml := minsY_len HXW.out
              have HML := hide (show (Z ++ (f.code.take (j + 1)).flatMap minsY).length = zj.length + (minsY x).length by rw [← hzj, List.take_add_one, hxj]; simp; omega)
              rw [hzj] at HLj HJj
              have hzl := HLj.out
              have hTX2 : T + 2 < X2 := by rw [← hX2]; exact HJj.out.row.lt
              have hrj := hide (show ∀ q, rj.ownBlock = some q → T + 1 ≤ q ∧ q < X2 from fun q hq => by have := HJj.out.lo q hq; rw [hX2] at this; exact this)
              have JV2 := hide (HJj.out.kept hVB2)
              have KV2 := hide (HKj.out.trans (JKp.of_below hVB2 (T + 2) rj))
              have j0 := JV2.out.row.cell (k := 0) rfl
              have u0 := RX2.out.cell (k := 0) rfl
              have hn1c : n1 ≤ c1 := hfd2.k.2.1
              clear hV2 hX2 hVB2 hx hwk hfd2 hA1 HJj HKj hxj hzj
              go_upto_region 11 with (fail)
              rw [HV2.out, HX2.out]
              clear HV2 HX2 g0 g1 g2 g3 g4
              go_wp2_with (at_builtin; refine wpList_append_where rfl (.tmp 58) (.tmp 62) 22 rfl (T + 1) 5 i0 (.int .u8 0) 1 1 Tryz.underlying22 hi hz0 hz1 hz2 rfl (by decide) rj zj.length (cellsU8 zj) ?a1 ?a2 ⟨X2 + 1, 0, none⟩ 1 1 [.int .u8 x.op] ?a3 ?a4 ?a5 (one_byte _) ?a7 ?a8 ?a9 ?a10)
              case a1 => rfl
              case a2 => exact JV2.out.own.alloc _
              case a3 => rfl
              case a4 => rfl
              case a5 =>
                have h := one_new V2 (.int .u8 x.op) 5
                rw [hVs2] at h
                exact h
              case a7 => unfold maxLen; omega
              case a8 => omega
              case a9 => simp [hVs2]; omega
              case a10 =>
                intro v' w2 ho2 hg2' hwh
                obtain ⟨A9, c9, rfl, -, -, -, -⟩ := own_seen ho2
                have hV3 : Below V2.heap.size V2 (V2.alloc (.cells #[.int .u8 x.op] 5)) := below1 V2 _
                have r2 := (JV2.out.row.call hV3).grown hg2' (fun e => JV2.out.ne _ e.symm rfl)
                have y2 := r2.cell (k := 0) rfl
                have f2 := r2.free 0
                obtain ⟨v3, hv3⟩ : ∃ v, Value.slice A9 (zj.length + 1) c9 = v := ⟨_, rfl⟩
                have hwh2 : ∀ q, v3.ownBlock = some q → rj.ownBlock = some q ∨ (V2.alloc (.cells #[.int .u8 x.op] 5)).heap.size ≤ q := fun q hq => by rw [← hv3] at hq; exact (hwh q hq).imp id (fun e => by simp [hVs2]; omega)
                have hne2 : ∀ q, v3.ownBlock = some q → q ≠ T + 2 := fun q hq => by
                  rcases hwh2 q hq with e | e
                  · exact JV2.out.ne q e
                  · simp [hVs2] at e; omega
                have K3 := hide (show JKp V2 (w2.setCell ⟨T + 2, 0, none⟩ v3) (T + 2) rj v3 from (JKp.of_below hV3 (T + 2) rj).trans ((JKp.of_row hg2' hwh2 (T + 2)).trans (JKp.set w2 (T + 2) 0 _ v3)))
                have J3 := hide (show JW (w2.setCell ⟨T + 2, 0, none⟩ v3) (T + 1) (T + 2) v3 (zj ++ [x.op]) from by
                  refine ⟨r2.set_ 0 _, ?_, hne2⟩
                  have h : w2.ownsRow (T + 1) 5 1 v3 (zj ++ [x.op]).length (cellsU8 (zj ++ [x.op])) := by rw [← hv3, cellsU8_app, List.length_append]; exact ho2
                  exact h.kept (grown_put w2 (T + 2) 0 _) (by
                    rcases e : v3.ownBlock with _ | q
                    · exact .inl rfl
                    · exact .inr (fun h => hne2 q e (by injection h))))
                have RX3 := hide (K3.out.row RX2.out (by omega) (fun e => by have := hrj.out X2 e; omega))
                obtain ⟨w3, hw3⟩ : ∃ V, w2.setCell ⟨T + 2, 0, none⟩ v3 = V := ⟨_, rfl⟩
                have HW3 := hide hw3
                have HV3 := hide hv3
                rw [hw3] at K3 J3 RX3
                have s0 := RX3.out.cell (k := 0) rfl
                have s1 := RX3.out.cell (k := 1) rfl
                have s2 := RX3.out.cell (k := 2) rfl
                have s3 := RX3.out.cell (k := 3) rfl
                have s4 := RX3.out.cell (k := 4) rfl
                clear ho2 hg2' hwh hV3 r2 hwh2 hne2 hw3 hv3 j0 u0
                go_upto_region 12 with (fail)
                rw [HV3.out, HW3.out]
                clear y2 f2 HW3
                go_wp2_with fail
                refine (joperands_any x w3 HXW).mono ?_
                rintro e w5 ⟨Ao, co, rfl, hso, hbo, hb5⟩
                have hol := opsU_len x
                have J5 := hide (J3.out.kept hb5)
                have hTw3 : T + 2 < w3.heap.size := J3.out.row.lt
                have hv3o : ∀ q, v3.ownBlock = some q → q < w3.heap.size := fun q hq => (J3.out.lo q hq).2
                have cq := jput_any (T + 1) (T + 2) v3 (zj ++ [x.op]) Ao (opsU x).length co w5.heap.size (opsU x) w5 J5 (by have := hb5.size; omega) (hide rfl) hso (Nat.le_refl _) (hide fun b off e => by
                  have h := hbo _ e
                  simp only at h
                  exact ⟨by omega, fun h2 => by have := hv3o b h2; omega⟩) (hide (opsU_le HXW.out)) (by omega) (by rw [List.length_append]; simp; omega)
                have KT := hide (KV2.out.trans (K3.out.trans (JKp.of_below hb5 (T + 2) v3)))
                clear hso hbo hb5 J5 s0 s1 s2 s3 s4 K3 J3 RX3 hTw3 hv3o
                go_wp2_with fail
                refine cq.mono ?_
                rintro e w6 ⟨rfl, r6, J6, K6⟩
                rw [← HNJ.out] at J6
                have HJ6 := hide J6
                have HK6 := hide (KT.out.trans K6)
                have HL6 := hide (show (Z ++ (f.code.take (j + 1)).flatMap minsY).length ≤ Y.length + 30 + (j + 1) * 41 by rw [HML.out]; omega)
                clear J6 K6 cq KT
                go_wp2_with fail
                go_roundw
                case rel => exact ⟨j + 1, r6, by omega, by go_num, HJ6, HK6, HL6⟩
                case measure => simp [intOf]; omega
            · obtain rfl : j = n1 := by omega
              have hjz : ¬ ((j : Int) < (j : Int)) := by omega
              have hcl : f.code.take j = f.code := List.take_of_length_le (by rw [Hnf.out]; exact Nat.le_refl _)
              rw [hcl, ← HFR.out, ← HN.out] at HJj
              have HKo := hide (HKV.out.trans HKj.out)
              have HLo := hide (show (Y0 ++ (F.take (i + 1)).flatMap (frY Al)).length ≤ 100 + (i + 1) * 50000 by
                have h := HLj.out
                rw [hcl, ← HFR.out, ← HN.out] at h
                omega)
              clear hjl HKj HLj
              go_wp2_with fail
              go_roundw
              case rel => exact ⟨i + 1, rj, by omega, by go_num, HJj, HKo, HLo⟩
              case measure => simp [intOf]; omega
      · obtain rfl : i = n := by omega
        have hlz : ¬ ((i : Int) < (i : Int)) := by omega
        have hfl : F.take i = F := List.take_of_length_le (by omega)
        rw [hfl, ← HY.out] at HJ HL
        have hb9 := (TK.out _ _ HK.out).2.2
        have HB9 := hide hb9
        have y0 := HJ.out.row.drew.cell (k := 0) rfl
        have hl9 := HL.out
        have HBy := hide (tgY_byt HW.out)
        obtain ⟨ys, hys⟩ : ∃ ys, tgY Al bd F = ys := ⟨_, rfl⟩
        rw [hys] at HBy
        have HE := hide (show encJ Al bd F = ys ++ crcI (crcN ys) by rw [← hys]; rfl)
        rw [hys] at HJ hl9
        obtain ⟨Ar, cr, hr, -, -, -, -⟩ := own_seen HJ.out.own
        subst hr
        have JD := hide (show JW wr.drew (T + 1) (T + 2) (.slice Ar ys.length cr) ys from HJ.out.kept (Below.refl _ _).drew)
        have cs := jsum_any Ar ys.length cr ys wr.drew.heap.size wr.drew (hide rfl) (by omega) (hide (Sees.ownN JD.out.own)) HBy
        clear hlt HK hb9 hfl hys
        have hcl4 : (cellsU8 (crcI (crcN ys))).length = 4 * 1 := rfl
        go_upto_region 15 with (fail)
        go_region_law
          (first
            | (go_simp; go_at_call 101; refine cs.mono ?_; rintro e w2 ⟨g, rfl, hg, rG, hb2⟩; have J2 := JD.out.kept hb2; have y1 := J2.row.cell (k := 0) rfl)
            | (refine wp_append_where (.tmp 70) (.tmp 72) 22 rfl (T + 1) 5 i0 (.int .u8 0) 1 1 Tryz.underlying22 hi hz0 hz1 hz2 rfl (by decide) (.slice Ar ys.length cr) ys.length (cellsU8 ys) rfl J2.own ⟨g, 0, none⟩ 4 4 (cellsU8 (crcI (crcN ys))) rfl hcl4 (fun j q hq => by rw [WideShapes.add_plain, Nat.zero_add]; exact rG.cell hq) (one_u8 _) (by unfold maxLen; omega) (by omega) (by have h1 := (JD.out.lo); have h2 := hb2.size; have h3 := JD.out.row.lt; omega) ?_; intro v' w3 ho3 hg3 hwh))
        all_goals
          obtain ⟨A9, c9, rfl, -, -, -, -⟩ := own_seen ho3
          have hB3 : Below w.heap.size w w3 := by
            have h1 : Below w.heap.size w w2 := HB9.out.drew.trans (hb2.mono HB9.out.size)
            exact h1.grown hg3 h1.size (fun q hq => by have := (J2.lo q hq).1; omega)
          have FIN := hide (show EcPost (encJ Al bd F) w (.returned (.slice A9 (ys.length + 4) c9)) w3 from by
           rw [HE.out]
           exact ⟨A9, c9, by rw [List.length_append]; rfl, by
            rw [List.length_append, cellsU8_app]
            exact own_less ho3 (by omega), hB3⟩)
          clear ho3 hg3 hwh hB3 J2 y1 rG hb2 cs
          go_wp2_with fail
          go_ret
          exact FIN.out
end Go.Proofs.YtlcmcmocjbeocaaGreatDoor
end
