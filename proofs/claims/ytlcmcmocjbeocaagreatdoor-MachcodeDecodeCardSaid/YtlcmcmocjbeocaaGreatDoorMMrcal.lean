import Derived.Test.YtlcmcmocjbeocaaGreatDoorMPmem
import Derived.Test.YtlcmcmocjbeocaaGreatDoorMMrci
set_option linter.unusedVariables false
set_option linter.unusedSimpArgs false
section
/-
  The reference's calls (chapter 10) at a frame that there is: whether it has room for the parameters of what it calls. Conditions: each Call names a frame, and each frame has at most 8 parameters.
-/
namespace Go.Proofs.YtlcmcmocjbeocaaGreatDoor
open Go.RowKit

set_option maxHeartbeats 2000000 in
theorem rcalls_any (Al : Int) (A : Option Addr) (n c : Nat) (hs : List Fd) (F : Tg) (lo B i : Nat) (P S : Int) (A1 : Option Addr) (n1 c1 : Nat) (f' : Fm) (w : World) (H : Hid (TgAt w lo B A n c hs F)) (hB : B ≤ w.heap.size) (hf : Hid (F[i]? = some f')) (hh : Hid (hs[i]? = some ⟨P, S, A1, n1, c1⟩))
    (hcall : Hid (∀ x ∈ f'.code, x.op = 22 → 0 ≤ x.a ∧ x.a < n)) (hpar : Hid (∀ g ∈ F, 0 ≤ g.params ∧ g.params ≤ 8)) :
    Calls Tryz.prog 68 #[tv Al A n c, mv P S A1 n1 c1] w fun e w' => e = .returned (.bool (roomB F f')) ∧ Below w.heap.size w w' := by
  have hin : i < n := by rw [← H.out.len]; exact (List.getElem?_eq_some_iff.1 hf.out).1
  obtain ⟨b, off, rfl, hb, h, -, -, -⟩ := fm_at' H.out hf.out hh.out
  have hn := H.out.cap.2.2
  have HL := hide (show f'.code.length = n1 from h.l)
  have HS := hide (show S = f'.size from h.s)
  have HC := hide h.c
  have hn1 : n1 ≤ 8796093022208 := h.k.2.2
  obtain ⟨W3, hW3, hb3, hs3, r0, r1⟩ := boxes2q w [.int .i64 Al, .slice (some ⟨b, off, none⟩) n c] [.int .i64 P, .int .i64 S, .slice A1 n1 c1] 53 90
  have HW3 := hide hW3
  have HB3 := hide hb3
  have T3 := hide r0
  have R3 := hide r1
  have x2 := r1.cell (k := 2) rfl
  clear h hh hW3 hb3 hs3 r0 r1
  go_enter Tryz.func68, Tryz.ntmps68
  go_upto_region 1 with (fail)
  rw [HW3.out]
  clear HW3
  obtain ⟨g, hg⟩ : ∃ g, w.heap.size + 1 = g := ⟨_, rfl⟩
  rw [hg] at R3 x2 ⊢
  clear hg
  go_wp2_with fail
  clear x2
  go_loopw [5] (fun s wr => ∃ k : Nat, k ≤ n1 ∧ s = .int .i64 k ∧ Hid (∀ j (hj : j < f'.code.length), j < k → callB F f' f'.code[j] = true) ∧ Hid (Below W3.heap.size W3 wr)) (fun s _ => n1 - (intOf s).toNat)
  case atStart => exact ⟨0, by omega, rfl, hide (fun j hj h => by omega), hide (Below.refl _ _)⟩
  case round =>
    obtain ⟨k, hk, rfl, hno, hbr⟩ := hrel
    have HB4 := hide (HB3.out.trans (hbr.out.mono HB3.out.size))
    have R4 := hide (R3.out.call hbr.out)
    have T4 := hide (T3.out.call hbr.out)
    have f1 := R4.out.cell (k := 1) rfl
    have f2 := R4.out.cell (k := 2) rfl
    have t1 := T4.out.cell (k := 1) rfl
    by_cases hlt : k < n1
    · have hkl : k < f'.code.length := by have := HL.out; omega
      obtain ⟨bb, oo, rfl, hbb, x0, x1, -, -, -⟩ := ins_at (HC.out.below (HB4.out.mono hB)) hkl
      have HNO := hide (fun (h : callB F f' f'.code[k] = false) => roomB_no hkl h)
      have HCA := hide (hcall.out _ (List.getElem_mem hkl))
      obtain ⟨x, hx⟩ : ∃ x, f'.code[k] = x := ⟨_, rfl⟩
      have HX := hide hx
      rw [hx] at HNO HCA x0 x1
      obtain ⟨o, a, b', d, m⟩ := x
      simp only at x0 x1
      have hkz : (0 : Int) ≤ (k : Int) := by omega
      have hkz' : (k : Int) < (n1 : Int) := by omega
      clear hx
      by_cases h22 : o = 22
      · subst h22
        obtain ⟨a0, a1⟩ := HCA.out rfl
        simp only at a0 a1
        obtain ⟨j, rfl⟩ := Int.eq_ofNat_of_zero_le a0
        obtain ⟨b2, o2, P2, S2, A2, n2, c2, f2', e, -, hf2, -, hd2, y0, -, -⟩ := fm_at (H.out.below (HB4.out.mono hB)) (k := j) (by omega)
        injection e with e
        injection e with e1 e2
        subst e1 e2
        have hP2 : P2 = f2'.params := hd2.p
        obtain ⟨P20, P21⟩ := hpar.out f2' (List.mem_of_getElem? hf2)
        rw [← hP2] at P20 P21
        have HCB := hide (show callB F f' ⟨22, (j : Int), b', d, m⟩ = decide (16 * P2 ≤ S) by rw [callB_at rfl rfl hf2, ← hP2, HS.out])
        have e16 : IntKind.i64.wrap (16 * P2) = 16 * P2 := wrap_i64 _ (by omega) (by omega)
        clear hf2 hd2 hP2
        by_cases hgt : S < 16 * P2
        · have hd : decide (S < 16 * P2) = true := decide_eq_true hgt
          have HR := hide (HNO.out (by rw [HCB.out]; exact decide_eq_false (by omega)))
          go_upto_region 4 with (fail)
          go_quiet (fail)
          go_wp2_with fail
          go_ret
          exact ⟨ret_bool HR.out.symm, drewN_below HB4.out _⟩
        · have hd : decide (S < 16 * P2) = false := decide_eq_false hgt
          have HT := hide (show callB F f' ⟨22, (j : Int), b', d, m⟩ = true by rw [HCB.out]; exact decide_eq_true (by omega))
          go_upto_region 4 with (fail)
          go_quiet (fail)
          go_wp2_with fail
          go_roundw
          case rel =>
            refine ⟨k + 1, by omega, by go_num, hide fun q hq hqk => ?_, hide (drewN_below hbr.out _)⟩
            by_cases e : q = k
            · subst e; rw [HX.out]; exact HT.out
            · exact hno.out q hq (by omega)
          case measure => simp [intOf]; omega
      · have hne : (o == 22) = false := by simpa using h22
        have HT := hide (callB_other (F := F) (f := f') (x := ⟨o, a, b', d, m⟩) h22)
        clear h22
        go_upto_region 4 with (fail)
        go_quiet (fail)
        go_wp2_with fail
        go_roundw
        case rel =>
          refine ⟨k + 1, by omega, by go_num, hide fun q hq hqk => ?_, hide (drewN_below hbr.out _)⟩
          by_cases e : q = k
          · subst e; rw [HX.out]; exact HT.out
          · exact hno.out q hq (by omega)
        case measure => simp [intOf]; omega
    · obtain rfl : k = n1 := by omega
      have HE := hide (roomB_yes (F := F) (f := f') (fun j hj => hno.out j hj (by have := HL.out; omega)))
      go_wp2_with fail
      go_ret
      exact ⟨ret_bool HE.out.symm, HB3.out.trans (hbr.out.mono HB3.out.size)⟩
end Go.Proofs.YtlcmcmocjbeocaaGreatDoor
end

section
/-
  The contract of the reference's Check (chapter 10): the first error of a target. Conditions: those of the types.
-/
namespace Go.Proofs.YtlcmcmocjbeocaaGreatDoor
open Go.RowKit

set_option maxHeartbeats 4000000 in
theorem rchktg_any (Al : Int) (A : Option Addr) (n c : Nat) (hs : List Fd) (F : Tg) (lo B : Nat) (w : World) (H : Hid (TgAt w lo B A n c hs F)) (hB : B ≤ w.heap.size) :
    Calls Tryz.prog 36 #[tv Al A n c] w fun e w' => e = .returned (.int .i64 (tgE Al F)) ∧ Below w.heap.size w w' := by
  have hn := cap_le H.out.cap
  have HL := hide H.out.len
  by_cases hmany : 80 < n
  · have HR := hide (show tgE Al F = 3 from tgE_many (by rw [HL.out]; exact hmany))
    have hz : (80 : Int) < (n : Int) := by omega
    go_enter Tryz.func36, Tryz.ntmps36
    go_wp2_with fail
    go_ret
    exact ⟨ret_int HR.out.symm, below1 _ _⟩
  · by_cases hzero : n = 0
    · subst hzero
      have HR := hide (show tgE Al F = 4 by rw [List.eq_nil_of_length_eq_zero HL.out]; rfl)
      go_enter Tryz.func36, Tryz.ntmps36
      go_wp2_with fail
      go_ret
      exact ⟨ret_int HR.out.symm, below1 _ _⟩
    · have hpos : 0 < n := by omega
      obtain ⟨b, off, P, S, A1, n1, c1, f0, rfl, hbB, hf0, _, h, p0, p1, p2⟩ := fm_at H.out hpos
      have hP : P = f0.params := h.p
      have hbw : b < w.heap.size := by omega
      have hle : F.length ≤ 80 := by have := HL.out; omega
      have hz : ¬ (80 : Int) < (n : Int) := by omega
      have hz0 : ((n : Int) == 0) = false := by simp; omega
      have hzn : (0 : Int) < (n : Int) := by omega
      rw [Nat.zero_mul, Nat.add_zero] at p0
      have cp := rpower_any Al
      have hHL := hide hle
      have HF0 := hide hf0
      have HP := hide hP
      clear h hf0 p1 p2 hP hzero hle
      cases hpw : powB Al with
      | false =>
        rw [hpw] at cp
        have HR := hide (tgE_align hHL.out HF0.out (.inl hpw))
        clear hpw
        go_enter Tryz.func36, Tryz.ntmps36
        go_wp2_with fail
        refine (cp _).mono ?_
        rintro e w' ⟨rfl, rfl⟩
        go_wp2_with fail
        go_ret
        exact ⟨ret_int HR.out.symm, below1 _ _⟩
      | true =>
        rw [hpw] at cp
        by_cases hal : Al < 16
        · have HR := hide (tgE_align hHL.out HF0.out (.inr hal))
          clear hpw
          go_enter Tryz.func36, Tryz.ntmps36
          go_wp2_with fail
          refine (cp _).mono ?_
          rintro e w' ⟨rfl, rfl⟩
          go_wp2_with fail
          go_ret
          exact ⟨ret_int HR.out.symm, below1 _ _⟩
        · by_cases hp : P = 0
          · subst hp
            have HR := hide (tgE_rest hHL.out HF0.out ⟨hpw, by omega⟩ HP.out.symm)
            have HB0 := hide (below1 w (.cells #[.int .i64 Al, .slice (some ⟨b, off, none⟩) n c] 53))
            have R0 := hide (Row.new w 53 [.int .i64 Al, .slice (some ⟨b, off, none⟩) n c])
            clear hpw
            go_enter Tryz.func36, Tryz.ntmps36
            go_wp2_with fail
            refine (cp _).mono ?_
            rintro e w' ⟨rfl, rfl⟩
            go_wp2_with fail
            obtain ⟨W1, hW1⟩ : ∃ V, (w.alloc (.cells #[.int .i64 Al, .slice (some ⟨b, off, none⟩) n c] 53)) = V := ⟨_, rfl⟩
            rw [show ([.int .i64 Al, .slice (some ⟨b, off, none⟩) n c] : List Value).toArray = #[.int .i64 Al, .slice (some ⟨b, off, none⟩) n c] from rfl] at R0
            rw [hW1] at HB0 R0 ⊢
            clear hW1 p0 cp
            go_loopw [3] (fun s wr => ∃ k : Nat, k ≤ n ∧ s = .int .i64 k ∧ Hid (∀ j (hj : j < F.length), j < k → fmE Al n F[j] = 0) ∧ Hid (Below W1.heap.size W1 wr)) (fun s _ => n - (intOf s).toNat)
            case atStart => exact ⟨0, by omega, rfl, hide (fun j hj h => by omega), hide (Below.refl _ _)⟩
            case round =>
              obtain ⟨k, hk, rfl, hno, hbr⟩ := hrel
              have v0 := (R0.out.call hbr.out).cell (k := 0) rfl
              have v1 := (R0.out.call hbr.out).cell (k := 1) rfl
              have HBR := hide (HB0.out.trans (hbr.out.mono HB0.out.size))
              by_cases hlt : k < n
              · have hkl : k < F.length := by have := HL.out; omega
                have hx := List.getElem?_eq_getElem hkl
                have ci := rchkfm_any Al (some ⟨b, off, none⟩) n c hs F lo B k F[k] wr (hide (H.out.below (HBR.out.mono hB))) (Nat.le_trans hB HBR.out.size) (hide hx)
                have HIT := hide (fun h0 : fmE Al n F[k] ≠ 0 => show tgE Al F = fmE Al n F[k] by
                  have hf : firstE (F.map (fmE Al F.length)) = fmE Al n F[k] := by
                    rw [HL.out]
                    exact firstE_hit (k := k) (by rw [List.getElem?_map, List.getElem?_eq_getElem hkl]; rfl) h0 fun j hj => by
                      have hl : j < F.length := by omega
                      rw [List.getElem?_map, List.getElem?_eq_getElem hl]; simp [hno.out j hl hj]
                  rw [HR.out, if_pos (by rw [hf]; exact h0), hf])
                obtain ⟨ie, hie⟩ : ∃ ie, fmE Al n F[k] = ie := ⟨_, rfl⟩
                rw [hie] at ci HIT
                have HIE := hide hie
                have CI := hide ci
                clear ci hie hx
                by_cases h0 : ie = 0
                · subst h0
                  go_wp2_with fail
                  refine (CI.out).mono ?_
                  rintro e w2 ⟨rfl, hb2⟩
                  have HB2 := hide (below_call hbr.out hb2)
                  clear hb2 v0 v1
                  go_wp2_with fail
                  go_roundw
                  case rel =>
                    refine ⟨k + 1, by omega, by go_num, hide fun j hj hjk => ?_, HB2⟩
                    by_cases e : j = k
                    · subst e; exact HIE.out
                    · exact hno.out j hj (by omega)
                  case measure => simp [intOf]; omega
                · have hne : (ie != 0) = true := by rw [bne_iff_ne]; exact h0
                  have HR' := hide (HIT.out h0)
                  clear HIT h0
                  go_wp2_with fail
                  refine (CI.out).mono ?_
                  rintro e w2 ⟨rfl, hb2⟩
                  have HB2 := hide (below_call HBR.out hb2)
                  clear hb2 v0 v1
                  go_wp2_with fail
                  go_ret
                  exact ⟨ret_int HR'.out.symm, HB2.out⟩
              · obtain rfl : k = n := by omega
                have HALL := hide (show ∀ j (hj : j < F.length), fmE Al k F[j] = 0 from fun j hj => hno.out j hj (by have := HL.out; omega))
                have HE := hide (show tgE Al F = if F.all (roomB F) then 0 else 7 by
                  have hf : firstE (F.map (fmE Al F.length)) = 0 := by
                    rw [firstE_zero, HL.out]
                    intro e he
                    obtain ⟨x, hx, rfl⟩ := List.mem_map.1 he
                    obtain ⟨j, hj, rfl⟩ := List.mem_iff_getElem.1 hx
                    exact HALL.out j hj
                  rw [HR.out, if_neg (by rw [hf]; simp)])
                have HPAR := hide (show ∀ g ∈ F, 0 ≤ g.params ∧ g.params ≤ 8 from fun g hg => by
                  obtain ⟨j, hj, rfl⟩ := List.mem_iff_getElem.1 hg
                  exact (shB_b (fmE_zero (HALL.out j hj)).1).1)
                have hbs := hbr.out.size
                go_wp2_with fail
                clear v0 v1
                go_loopw [5] (fun s wr => ∃ q : Nat, q ≤ k ∧ s = .int .i64 q ∧ Hid (∀ j (hj : j < F.length), j < q → roomB F F[j] = true) ∧ Hid (Below W1.heap.size W1 wr)) (fun s _ => k - (intOf s).toNat)
                case atStart => exact ⟨0, by omega, rfl, hide (fun j hj h => by omega), hbr⟩
                case round =>
                  obtain ⟨q, hq, rfl, hno2, hbq⟩ := hrel
                  have v0 := (R0.out.call hbq.out).cell (k := 0) rfl
                  have v1 := (R0.out.call hbq.out).cell (k := 1) rfl
                  have HBQ := hide (HB0.out.trans (hbq.out.mono HB0.out.size))
                  by_cases hlt : q < k
                  · have hkl : q < F.length := by have := HL.out; omega
                    have hx := List.getElem?_eq_getElem hkl
                    obtain ⟨bq, oq, Pq, Sq, Aq, nq, cq, fq, eq_, -, hfq, hhq, -, e0, e1, e2⟩ := fm_at (H.out.below (HBQ.out.mono hB)) (k := q) (by omega)
                    injection eq_ with eq_
                    injection eq_ with eqa eqb
                    subst eqa eqb
                    obtain rfl : fq = F[q] := by rw [hx] at hfq; injection hfq with hfq; exact hfq.symm
                    have ci : ∀ p : After wr, Calls Tryz.prog 68 #[tv Al (some ⟨b, off, none⟩) k c, mv Pq Sq Aq nq cq] p.w fun e w' => e = .returned (.bool (roomB F F[q])) ∧ Below p.w.heap.size p.w w' := fun p => rcalls_any Al (some ⟨b, off, none⟩) k c hs F lo B q Pq Sq Aq nq cq F[q] p.w (hide (H.out.below ((HBQ.out.trans (p.b.mono HBQ.out.size)).mono hB))) (Nat.le_trans hB (Nat.le_trans HBQ.out.size p.b.size)) (hide hx) (hide hhq) (hide fun x hx h22 => mins_call ((fmE_zero (HALL.out q hkl)).2.2.1 x hx) h22) HPAR
                    have v0' := after_cell v0
                    have v1' := after_cell v1
                    have e0' := after_cell e0
                    have e1' := after_cell e1
                    have e2' := after_cell e2
                    have hqz : (0 : Int) ≤ (q : Int) := by omega
                    have hqz' : (q : Int) < (k : Int) := by omega
                    have HIT := hide (fun h0 : roomB F F[q] = false => show tgE Al F = 7 by
                      rw [HE.out, if_neg (by
                        rw [Bool.not_eq_true, List.all_eq_false]
                        exact ⟨_, List.getElem_mem hkl, by simp [h0]⟩)])
                    obtain ⟨rb, hrb⟩ : ∃ v, roomB F F[q] = v := ⟨_, rfl⟩
                    rw [hrb] at ci HIT
                    have HRB := hide hrb
                    have CI := hide ci
                    clear ci hrb hx hfq hhq e0 e1 e2
                    cases rb with
                    | true =>
                      go_upto_region 18 with (fail)
                      refine wp_region_after (by kernel_rfl) (by kernel_rfl) ?_
                      repeat (go_big_quiet_step ((go_at_call 68; with_reducible exact after_of (CI.out _))))
                      refine wpQuiet_nil ?_
                      intro _ hw'
                      obtain ⟨p1, hw''⟩ := hw'
                      subst hw''
                      have HB2 := hide (below_call hbq.out p1.b)
                      clear v0 v1 v0' v1' e0' e1' e2'
                      go_wp2_with fail
                      go_roundw
                      case rel =>
                        refine ⟨q + 1, by omega, by go_num, hide fun j hj hjk => ?_, HB2⟩
                        by_cases e : j = q
                        · subst e; exact HRB.out
                        · exact hno2.out j hj (by omega)
                      case measure => simp [intOf]; omega
                    | false =>
                      have HR' := hide (HIT.out rfl)
                      clear HIT
                      go_upto_region 18 with (fail)
                      refine wp_region_after (by kernel_rfl) (by kernel_rfl) ?_
                      repeat (go_big_quiet_step ((go_at_call 68; with_reducible exact after_of (CI.out _))))
                      refine wpQuiet_nil ?_
                      intro _ hw'
                      obtain ⟨p1, hw''⟩ := hw'
                      subst hw''
                      have HB2 := hide (below_call HBQ.out p1.b)
                      clear v0 v1 v0' v1' e0' e1' e2'
                      go_wp2_with fail
                      go_ret
                      exact ⟨ret_int HR'.out.symm, HB2.out⟩
                  · obtain rfl : q = k := by omega
                    have HZ := hide (show tgE Al F = 0 by
                      rw [HE.out, if_pos]
                      rw [List.all_eq_true]
                      intro x hx
                      obtain ⟨j, hj, rfl⟩ := List.mem_iff_getElem.1 hx
                      exact hno2.out j hj (by have := HL.out; omega))
                    go_wp2_with fail
                    go_ret
                    exact ⟨ret_int HZ.out.symm, HBQ.out⟩
          · have hne : (P != 0) = true := by rw [bne_iff_ne]; exact hp
            have HR := hide (tgE_entry hHL.out HF0.out ⟨hpw, by omega⟩ (by rw [← HP.out]; exact hp))
            clear hpw hp
            go_enter Tryz.func36, Tryz.ntmps36
            go_wp2_with fail
            refine (cp _).mono ?_
            rintro e w' ⟨rfl, rfl⟩
            go_wp2_with fail
            go_ret
            exact ⟨ret_int HR.out.symm, below1 _ _⟩
end Go.Proofs.YtlcmcmocjbeocaaGreatDoor
end
