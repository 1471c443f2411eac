import Derived.Test.YtlcmcmocjbeocaaGreatDoorMPcon
import Derived.Test.YtlcmcmocjbeocaaGreatDoorMMrw
import Derived.Test.YtlcmcmocjbeocaaGreatDoorMMfro
import Derived.Test.YtlcmcmocjbeocaaGreatDoorMPmem
import Derived.Test.YtlcmcmocjbeocaaGreatDoorMJenc
set_option linter.unusedVariables false
set_option linter.unusedSimpArgs false
section
/-
  The contract of mach's method checkInstr: the first error of an instruction. Condition: the frame's shape is right.
-/
namespace Go.Proofs.YtlcmcmocjbeocaaGreatDoor
open Go.RowKit

theorem minsE_out {N : Nat} {f : Fm} {x : Ins} (h : exB x.op = false) : minsE N f x = 4 := by unfold minsE; rw [if_pos h]
theorem minsE_in {N : Nat} {f : Fm} {x : Ins} (h : exB x.op = true) : minsE N f x = mrank (mfound N f.code.length x) (covB f.params f.size x) := by unfold minsE; rw [if_neg (by simp [h])]
theorem exB_b {o : Int} (h : exB o = true) : 0 ≤ o ∧ o < 25 := by
  unfold exB at h
  simp only [Bool.and_eq_true] at h
  exact withB_true.1 h.1
theorem mfound_len (N C : Int) (x : Ins) : (mfound N C x).length ≤ 4 := by unfold mfound foundE; split <;> simp
set_option maxHeartbeats 1000000 in
theorem chkinsm_any (P S : Int) (A : Option Addr) (n cp : Nat) (N : Nat) (o a b d m : Int) (w : World) (f : Fm) (hf : Hid (f.params = P ∧ f.size = S ∧ f.code.length = n)) (hP : 0 ≤ P ∧ P ≤ 8) (hS : 0 ≤ S ∧ S ≤ 2147483519) :
    Calls Tryz.prog 136 #[xv P S A n cp N, iv o a b d m] w fun e w' => e = .returned (.int .i64 (minsE N f ⟨o, a, b, d, m⟩)) ∧ Below w.heap.size w w' := by
  obtain ⟨W2, hW2, hb2, hs2, r0, r1⟩ := boxes2q w [.int .i64 P, .int .i64 S, .slice A n cp, .int .i64 N] [.int .i64 o, .int .i64 a, .int .i64 b, .int .i64 d, .int .u64 m] 187 64
  have ce := mexists_any o
  have HW2 := hide hW2
  have HB2 := hide hb2
  have R0 := hide r0
  have R1 := hide r1
  have x0 := r0.cell (k := 0) rfl
  have x1 := r0.cell (k := 1) rfl
  have x2 := r0.cell (k := 2) rfl
  have x3 := r0.cell (k := 3) rfl
  have z0 := r1.cell (k := 0) rfl
  have z1 := r1.cell (k := 1) rfl
  have z2 := r1.cell (k := 2) rfl
  have z3 := r1.cell (k := 3) rfl
  have z4 := r1.cell (k := 4) rfl
  clear hW2 hb2 hs2 r0 r1
  cases he : exB o with
  | false =>
    rw [he] at ce
    have HR := hide (minsE_out (N := N) (f := f) (x := ⟨o, a, b, d, m⟩) he)
    clear he
    go_enter Tryz.func136, Tryz.ntmps136
    go_upto_region 1 with (fail)
    rw [HW2.out]
    go_wp2_with fail
    refine (ce _).mono ?_
    rintro e w' ⟨rfl, rfl⟩
    go_wp2_with fail
    go_ret
    exact ⟨ret_int HR.out.symm, HB2.out⟩
  | true =>
    rw [he] at ce
    have ho := exB_b he
    have HR0 := hide (minsE_in (N := N) (f := f) (x := ⟨o, a, b, d, m⟩) he)
    have HR : Hid (minsE N f ⟨o, a, b, d, m⟩ = mrank (mfound N n ⟨o, a, b, d, m⟩) (covB P S ⟨o, a, b, d, m⟩)) := by
      show minsE N f ⟨o, a, b, d, m⟩ = _
      rw [HR0.out, hf.out.1, hf.out.2.1, hf.out.2.2]
    have HL := hide (mfound_len N n ⟨o, a, b, d, m⟩)
    clear he HR0
    have co := operrm_any P S A n cp N o a b d m W2 ho.1 ho.2
    have cc := fun W => covers_any P S A n cp N o a b d m W hP hS
    obtain ⟨es, hes⟩ : ∃ es, mfound N n ⟨o, a, b, d, m⟩ = es := ⟨_, rfl⟩
    obtain ⟨cv, hcv⟩ : ∃ v, covB P S ⟨o, a, b, d, m⟩ = v := ⟨_, rfl⟩
    rw [hes] at co HR HL
    rw [hcv] at cc HR
    have CC := hide cc
    clear hes hcv cc ho
    go_enter Tryz.func136, Tryz.ntmps136
    go_upto_region 1 with (fail)
    rw [HW2.out]
    clear HW2
    go_wp2_with fail
    refine (ce _).mono ?_
    rintro e w' ⟨rfl, rfl⟩
    go_wp2_with fail
    refine co.mono ?_
    rintro e w3 ⟨A', c', rfl, hsee, hb3⟩
    have R3 := R0.out.call hb3
    have R4 := R1.out.call hb3
    have HB3 := hide (below_call HB2.out hb3)
    clear hb3 co ce x0 x1 x2 x3 z0 z1 z2 z3 z4 R0 R1 HB2
    have x0 := R3.cell (k := 0) rfl
    have x1 := R3.cell (k := 1) rfl
    have x2 := R3.cell (k := 2) rfl
    have x3 := R3.cell (k := 3) rfl
    have z0 := R4.cell (k := 0) rfl
    have z1 := R4.cell (k := 1) rfl
    have z2 := R4.cell (k := 2) rfl
    have z3 := R4.cell (k := 3) rfl
    have z4 := R4.cell (k := 4) rfl
    have hel : es.length ≤ 4611686018427387904 := by have := HL.out; omega
    have k2 := econt_any A' es.length c' es 2 _ w3 (hide rfl) hel (hide hsee)
    have k4 := econt_any A' es.length c' es 4 _ w3 (hide rfl) hel (hide hsee)
    have k5 := econt_any A' es.length c' es 5 _ w3 (hide rfl) hel (hide hsee)
    have k6 := fun W (h : Below w3.heap.size w3 W) => econt_any A' es.length c' es 6 _ W (hide rfl) hel (hide (hsee.below h))
    obtain ⟨q2, hq2⟩ : ∃ q2, es.contains 2 = q2 := ⟨_, rfl⟩
    obtain ⟨q4, hq4⟩ : ∃ q4, es.contains 4 = q4 := ⟨_, rfl⟩
    obtain ⟨q5, hq5⟩ : ∃ q5, es.contains 5 = q5 := ⟨_, rfl⟩
    obtain ⟨q6, hq6⟩ : ∃ q6, es.contains 6 = q6 := ⟨_, rfl⟩
    rw [hq2] at k2
    rw [hq4] at k4
    rw [hq5] at k5
    rw [hq6] at k6
    have HRR : Hid (minsE N f ⟨o, a, b, d, m⟩ = if q2 then 2 else if q4 then 4 else if q5 then 5 else if cv = false then 4 else if q6 then 6 else 0) := by
      show minsE N f ⟨o, a, b, d, m⟩ = _
      rw [HR.out]; unfold mrank; rw [hq2, hq4, hq5, hq6]
    have K2 := hide k2
    have K4 := hide k4
    have K5 := hide k5
    have K6 := hide k6
    clear hq2 hq4 hq5 hq6 k2 k4 k5 k6 HR R3 R4 hsee hel
    go_wp2_with fail
    refine K2.out.mono ?_
    rintro e w' ⟨rfl, rfl⟩
    cases q2 with
    | true =>
      go_wp2_with fail
      go_ret
      exact ⟨ret_int HRR.out.symm, HB3.out⟩
    | false =>
      go_wp2_with fail
      refine K4.out.mono ?_
      rintro e w' ⟨rfl, rfl⟩
      cases q4 with
      | true =>
        go_wp2_with fail
        go_ret
        exact ⟨ret_int HRR.out.symm, HB3.out⟩
      | false =>
        go_wp2_with fail
        refine K5.out.mono ?_
        rintro e w' ⟨rfl, rfl⟩
        cases q5 with
        | true =>
          go_wp2_with fail
          go_ret
          exact ⟨ret_int HRR.out.symm, HB3.out⟩
        | false =>
          go_wp2_with fail
          refine (CC.out _).mono ?_
          rintro e w5 ⟨rfl, hb5⟩
          have K7 := hide (K6.out w5 hb5)
          have HB5 := hide (below_call HB3.out hb5)
          clear hb5 x0 x1 x2 x3 z0 z1 z2 z3 z4
          cases cv with
          | false =>
            go_wp2_with fail
            go_ret
            exact ⟨ret_int HRR.out.symm, HB5.out⟩
          | true =>
            go_wp2_with fail
            refine K7.out.mono ?_
            rintro e w' ⟨rfl, rfl⟩
            cases q6 with
            | true =>
              go_wp2_with fail
              go_ret
              exact ⟨ret_int HRR.out.symm, HB5.out⟩
            | false =>
              go_wp2_with fail
              go_ret
              exact ⟨ret_int HRR.out.symm, HB5.out⟩
end Go.Proofs.YtlcmcmocjbeocaaGreatDoor
end

section
/-
  The contract of mach.CheckFrame at a frame that there is: its first error. Conditions: those of the types.
-/
namespace Go.Proofs.YtlcmcmocjbeocaaGreatDoor
open Go.RowKit

theorem fmE_shape {Al : Int} {N : Nat} {f : Fm} (h : shB Al f = false) : fmE Al N f = 4 := by unfold fmE; rw [if_pos h]
theorem fmE_long {Al : Int} {N : Nat} {f : Fm} (h : shB Al f = true) (h2 : 1024 < f.code.length) : fmE Al N f = 3 := by unfold fmE; rw [if_neg (by simp [h]), if_pos h2]
theorem fmE_instr {Al : Int} {N : Nat} {f : Fm} {k : Nat} {e : Int} (h : shB Al f = true) (h2 : f.code.length ≤ 1024) (hk : k < f.code.length) (he : minsE N f f.code[k] = e) (h0 : e ≠ 0) (hb : ∀ j (hj : j < f.code.length), j < k → minsE N f f.code[j] = 0) : fmE Al N f = e := by
  have hf : firstE (f.code.map (minsE N f)) = e := firstE_hit (k := k) (by rw [List.getElem?_map, List.getElem?_eq_getElem hk]; simp [he]) h0 fun j hj => by
    have hl : j < f.code.length := by omega
    rw [List.getElem?_map, List.getElem?_eq_getElem hl]; simp [hb j hl hj]
  unfold fmE
  rw [if_neg (by simp [h]), if_neg (by omega), if_pos (by rw [hf]; exact h0), hf]
theorem fmE_end {Al : Int} {N : Nat} {f : Fm} (h : shB Al f = true) (h2 : f.code.length ≤ 1024) (hb : ∀ j (hj : j < f.code.length), minsE N f f.code[j] = 0) : fmE Al N f = if closedB f.code = false then 6 else 0 := by
  have hf : firstE (f.code.map (minsE N f)) = 0 := firstE_zero.2 fun e he => by
    obtain ⟨x, hx, rfl⟩ := List.mem_map.1 he
    obtain ⟨j, hj, rfl⟩ := List.mem_iff_getElem.1 hx
    exact hb j hj
  unfold fmE
  rw [if_neg (by simp [h]), if_neg (by omega), if_neg (by simpa using hf)]
theorem shB_b {Al : Int} {f : Fm} (h : shB Al f = true) : (0 ≤ f.params ∧ f.params ≤ 8) ∧ (0 ≤ f.size ∧ f.size ≤ 2147483519) := by
  unfold shB at h
  simp only [Bool.and_eq_true] at h
  have h1 := withB_true.1 h.2.1
  have h2 := withB_true.1 h.2.2.1
  omega

set_option maxHeartbeats 2000000 in
theorem chkfm_any (Al : Int) (A : Option Addr) (n c : Nat) (hs : List Fd) (F : Tg) (lo B i : Nat) (f : Fm) (w : World) (H : Hid (TgAt w lo B A n c hs F)) (hB : B ≤ w.heap.size) (hf : Hid (F[i]? = some f)) :
    Calls Tryz.prog 94 #[tv Al A n c, .int .i64 (i : Int)] w fun e w' => e = .returned (.int .i64 (fmE Al n f)) ∧ Below w.heap.size w w' := by
  have hin : i < n := by rw [← H.out.len]; exact (List.getElem?_eq_some_iff.1 hf.out).1
  obtain ⟨b, off, P, S, A1, n1, c1, f', rfl, hb, e1, hh, h, -, -, -⟩ := fm_at H.out hin
  obtain rfl : f' = f := by rw [hf.out] at e1; injection e1 with e1; exact e1.symm
  clear e1
  have ho := fun W (hb : Below w.heap.size w W) => frameof_any Al (some ⟨b, off, none⟩) n c hs F lo B i P S A1 n1 c1 f' W (hide (H.out.below (hb.mono hB))) (Nat.le_trans hB hb.size) hf (hide hh)
  have HO := hide ho
  have hP : P = f'.params := h.p
  have hS : S = f'.size := h.s
  have hL : f'.code.length = n1 := h.l
  have HL := hide hL
  have HP := hide hP
  have HS := hide hS
  have HC := hide h.c
  have hn1 : n1 ≤ 8796093022208 := h.k.2.2
  have R0 := Row.new w 53 [.int .i64 Al, .slice (some ⟨b, off, none⟩) n c]
  have hb1 := below1 w (.cells #[.int .i64 Al, .slice (some ⟨b, off, none⟩) n c] 53)
  obtain ⟨W1, hW1⟩ : ∃ V, w.alloc (.cells #[.int .i64 Al, .slice (some ⟨b, off, none⟩) n c] 53) = V := ⟨_, rfl⟩
  rw [show ([.int .i64 Al, .slice (some ⟨b, off, none⟩) n c] : List Value).toArray = #[.int .i64 Al, .slice (some ⟨b, off, none⟩) n c] from rfl, hW1] at R0
  rw [hW1] at hb1
  have co := HO.out W1 hb1
  have HW1 := hide hW1
  have HB1 := hide hb1
  have t0 := R0.cell (k := 0) rfl
  have t1 := R0.cell (k := 1) rfl
  clear ho hP hS hL h hh hW1 hb1 R0 HO
  cases hsh : shB Al f' with
  | false =>
    rw [hsh] at co
    have HR := hide (fmE_shape (N := n) hsh)
    clear hsh
    go_enter Tryz.func94, Tryz.ntmps94
    go_upto_region 1 with (fail)
    rw [HW1.out]
    clear HW1
    go_wp2_with fail
    refine co.mono ?_
    rintro e w2 ⟨rfl, hb2⟩
    have HB2 := hide (below_call HB1.out hb2)
    clear hb2 t0 t1
    go_wp2_with fail
    go_ret
    exact ⟨ret_int HR.out.symm, HB2.out.alloc HB2.out.size _⟩
  | true =>
    have hbs := shB_b hsh
    rw [← HP.out, ← HS.out] at hbs
    rw [hsh] at co
    by_cases hlong : 1024 < n1
    · have HR := hide (fmE_long (N := n) hsh (by rw [HL.out]; exact hlong))
      have hz : (1024 : Int) < (n1 : Int) := by omega
      clear hsh
      go_enter Tryz.func94, Tryz.ntmps94
      go_upto_region 1 with (fail)
      rw [HW1.out]
      clear HW1
      go_wp2_with fail
      refine co.mono ?_
      rintro e w2 ⟨rfl, hb2⟩
      have HB2 := hide (below_call HB1.out hb2)
      clear hb2 t0 t1
      go_wp2_with fail
      go_ret
      exact ⟨ret_int HR.out.symm, HB2.out.alloc HB2.out.size _⟩
    · have hz : (n1 : Int) ≤ 1024 := by omega
      have hz' : ¬ (1024 : Int) < (n1 : Int) := by omega
      have HIN := hide (fun (k : Nat) (e : Int) hk he h0 hb => fmE_instr (N := n) (k := k) (e := e) hsh (by rw [HL.out]; omega) hk he h0 hb)
      have HEN := hide (fun hb => fmE_end (N := n) hsh (by rw [HL.out]; omega) hb)
      clear hsh
      go_enter Tryz.func94, Tryz.ntmps94
      go_upto_region 1 with (fail)
      rw [HW1.out]
      clear HW1
      go_upto_region 2 with (go_at_call 135; refine co.mono ?_; rintro e w2 ⟨rfl, hb2⟩)
      obtain ⟨W3, hW3⟩ : ∃ V, w2.alloc (.cells #[.int .i64 P, .int .i64 S, .slice A1 n1 c1, .int .i64 (n : Int)] 187) = V := ⟨_, rfl⟩
      have R3 := hide (show Row W3 w2.heap.size 187 [.int .i64 P, .int .i64 S, .slice A1 n1 c1, .int .i64 (n : Int)] by rw [← hW3]; exact Row.new w2 _ _)
      have HB3 := hide (show Below w.heap.size w W3 by rw [← hW3]; have h := below_call HB1.out hb2; exact h.alloc h.size _)
      rw [hW3]
      obtain ⟨g, hg⟩ : ∃ g, w2.heap.size = g := ⟨_, rfl⟩
      rw [hg] at R3 ⊢
      clear hW3 hg hb2 co t0 t1 HB1
      have x2 := R3.out.cell (k := 2) rfl
      go_wp2_with fail
      clear x2
      go_loopw [29] (fun s wr => ∃ k : Nat, k ≤ n1 ∧ s = .int .i64 k ∧ Hid (∀ j (hj : j < f'.code.length), j < k → minsE n f' f'.code[j] = 0) ∧ Hid (Below W3.heap.size W3 wr)) (fun s _ => n1 - (intOf s).toNat)
      case atStart => exact ⟨0, by omega, rfl, hide (fun j hj h => by omega), hide (Below.refl _ _)⟩
      case round =>
        obtain ⟨k, hk, rfl, hno, hbr⟩ := hrel
        have R4 := hide (R3.out.call hbr.out)
        have HB4 := hide (HB3.out.trans (hbr.out.mono HB3.out.size))
        by_cases hlt : k < n1
        · have hkl : k < f'.code.length := by have := HL.out; omega
          obtain ⟨bb, oo, rfl, hbb, x0, x1, x2, x3, x4⟩ := ins_at (HC.out.below (HB4.out.mono hB)) hkl
          have HIT := hide (fun h0 : minsE n f' f'.code[k] ≠ 0 => HIN.out k _ hkl rfl h0 hno.out)
          obtain ⟨x, hx⟩ : ∃ x, f'.code[k] = x := ⟨_, rfl⟩
          have HX := hide hx
          rw [hx] at HIT x0 x1 x2 x3 x4
          obtain ⟨o, a, b, d, m⟩ := x
          simp only at x0 x1 x2 x3 x4
          have hkz : (0 : Int) ≤ (k : Int) := by omega
          have hkz' : (k : Int) < (n1 : Int) := by omega
          clear hx
          go_upto_region 9 with (fail)
          obtain ⟨W5, hW5⟩ : ∃ V, wr.alloc (.cells #[.int .i64 o, .int .i64 a, .int .i64 b, .int .i64 d, .int .u64 m] 64) = V := ⟨_, rfl⟩
          have R5 := hide (show Row W5 g 187 [.int .i64 P, .int .i64 S, .slice (some ⟨bb, oo, none⟩) n1 c1, .int .i64 (n : Int)] by rw [← hW5]; exact R4.out.alloc _)
          have Z5 := hide (show Row W5 wr.heap.size 64 [.int .i64 o, .int .i64 a, .int .i64 b, .int .i64 d, .int .u64 m] by rw [← hW5]; exact Row.new wr _ _)
          have HB5 := hide (show Below W3.heap.size W3 W5 by rw [← hW5]; exact hbr.out.alloc hbr.out.size _)
          rw [hW5]
          obtain ⟨g2, hg2⟩ : ∃ g, wr.heap.size = g := ⟨_, rfl⟩
          rw [hg2] at Z5 ⊢
          clear hW5 hg2 x0 x1 x2 x3 x4 R4
          have f0 := R5.out.cell (k := 0) rfl
          have f1 := R5.out.cell (k := 1) rfl
          have f2 := R5.out.cell (k := 2) rfl
          have f3 := R5.out.cell (k := 3) rfl
          have x0 := Z5.out.cell (k := 0) rfl
          have x1 := Z5.out.cell (k := 1) rfl
          have x2 := Z5.out.cell (k := 2) rfl
          have x3 := Z5.out.cell (k := 3) rfl
          have x4 := Z5.out.cell (k := 4) rfl
          have ci := chkinsm_any P S (some ⟨bb, oo, none⟩) n1 c1 n o a b d m W5 f' (hide ⟨HP.out.symm, HS.out.symm, HL.out⟩) hbs.1 hbs.2
          obtain ⟨ie, hie⟩ : ∃ ie, minsE n f' ⟨o, a, b, d, m⟩ = ie := ⟨_, rfl⟩
          rw [hie] at ci HIT
          have HIE := hide hie
          clear hie
          by_cases h0 : ie = 0
          · subst h0
            go_wp2_with fail
            refine ci.mono ?_
            rintro e w2 ⟨rfl, hb2⟩
            have HB2 := hide (below_call HB5.out hb2)
            clear hb2 f0 f1 f2 f3 x0 x1 x2 x3 x4
            go_wp2_with fail
            go_roundw
            case rel =>
              refine ⟨k + 1, by omega, by go_num, hide fun j hj hjk => ?_, HB2⟩
              by_cases e : j = k
              · subst e; rw [HX.out]; exact HIE.out
              · exact hno.out j hj (by omega)
            case measure => simp [intOf]; omega
          · have hne : (ie != 0) = true := by rw [bne_iff_ne]; exact h0
            have HR' := hide (HIT.out h0)
            clear HIT h0
            go_wp2_with fail
            refine ci.mono ?_
            rintro e w2 ⟨rfl, hb2⟩
            have HB2 := hide (HB3.out.trans ((below_call HB5.out hb2).mono HB3.out.size))
            clear hb2 f0 f1 f2 f3 x0 x1 x2 x3 x4
            go_wp2_with fail
            go_ret
            exact ⟨ret_int HR'.out.symm, HB2.out⟩
        · obtain rfl : k = n1 := by omega
          have HE := hide (HEN.out (fun j hj => hno.out j hj (by have := HL.out; omega)))
          have f0 := R4.out.cell (k := 0) rfl
          have f1 := R4.out.cell (k := 1) rfl
          have f2 := R4.out.cell (k := 2) rfl
          have f3 := R4.out.cell (k := 3) rfl
          have cc := mclosed_any P S A1 k c1 n f'.code B wr HL (by omega) (hide (HC.out.below (HB4.out.mono hB))) (Nat.le_trans hB HB4.out.size)
          obtain ⟨cl, hcl⟩ : ∃ v, closedB f'.code = v := ⟨_, rfl⟩
          rw [hcl] at cc HE
          clear hcl
          cases cl with
          | false =>
            go_wp2_with fail
            refine cc.mono ?_
            rintro e w2 ⟨rfl, hb2⟩
            have HB2 := hide (below_call HB4.out hb2)
            clear hb2
            go_wp2_with fail
            go_ret
            exact ⟨ret_int HE.out.symm, HB2.out⟩
          | true =>
            go_wp2_with fail
            refine cc.mono ?_
            rintro e w2 ⟨rfl, hb2⟩
            have HB2 := hide (below_call HB4.out hb2)
            clear hb2
            go_wp2_with fail
            go_ret
            exact ⟨ret_int HE.out.symm, HB2.out⟩
end Go.Proofs.YtlcmcmocjbeocaaGreatDoor
end

section
/-
  The contract of mach.Check: the first error of a target. Conditions: those of the types.
-/
namespace Go.Proofs.YtlcmcmocjbeocaaGreatDoor
open Go.RowKit

set_option maxHeartbeats 4000000 in
theorem chktg_any (Al : Int) (A : Option Addr) (n c : Nat) (hs : List Fd) (F : Tg) (lo B : Nat) (w : World) (H : Hid (TgAt w lo B A n c hs F)) (hB : B ≤ w.heap.size) :
    Calls Tryz.prog 63 #[tv Al A n c] w fun e w' => e = .returned (.int .i64 (tgE Al F)) ∧ Below w.heap.size w w' := by
  have hn := cap_le H.out.cap
  have HL := hide H.out.len
  by_cases hmany : 80 < n
  · have HR := hide (show tgE Al F = 3 from tgE_many (by rw [HL.out]; exact hmany))
    have hz : (80 : Int) < (n : Int) := by omega
    go_enter Tryz.func63, Tryz.ntmps63
    go_wp2_with fail
    go_ret
    exact ⟨ret_int HR.out.symm, below1 _ _⟩
  · by_cases hzero : n = 0
    · subst hzero
      have HR := hide (show tgE Al F = 4 by rw [List.eq_nil_of_length_eq_zero HL.out]; rfl)
      go_enter Tryz.func63, Tryz.ntmps63
      go_wp2_with fail
      go_ret
      exact ⟨ret_int HR.out.symm, below1 _ _⟩
    · have hpos : 0 < n := by omega
      obtain ⟨b, off, P, S, A1, n1, c1, f0, rfl, hbB, hf0, _, h, p0, p1, p2⟩ := fm_at H.out hpos
      have hP : P = f0.params := h.p
      have hbw : b < w.heap.size := by omega
      have hle : F.length ≤ 80 := by have := HL.out; omega
      have hz : ¬ (80 : Int) < (n : Int) := by omega
      have hz0 : ((n : Int) == 0) = false := by simp; omega
      have hzn : (0 : Int) < (n : Int) := by omega
      rw [Nat.zero_mul, Nat.add_zero] at p0
      have cp := power_any Al
      have hHL := hide hle
      have HF0 := hide hf0
      have HP := hide hP
      clear h hf0 p1 p2 hP hzero hle
      cases hpw : powB Al with
      | false =>
        rw [hpw] at cp
        have HR := hide (tgE_align hHL.out HF0.out (.inl hpw))
        clear hpw
        go_enter Tryz.func63, Tryz.ntmps63
        go_wp2_with fail
        refine (cp _).mono ?_
        rintro e w' ⟨rfl, rfl⟩
        go_wp2_with fail
        go_ret
        exact ⟨ret_int HR.out.symm, below1 _ _⟩
      | true =>
        rw [hpw] at cp
        by_cases hal : Al < 16
        · have HR := hide (tgE_align hHL.out HF0.out (.inr hal))
          clear hpw
          go_enter Tryz.func63, Tryz.ntmps63
          go_wp2_with fail
          refine (cp _).mono ?_
          rintro e w' ⟨rfl, rfl⟩
          go_wp2_with fail
          go_ret
          exact ⟨ret_int HR.out.symm, below1 _ _⟩
        · by_cases hp : P = 0
          · subst hp
            have HR := hide (tgE_rest hHL.out HF0.out ⟨hpw, by omega⟩ HP.out.symm)
            have HB0 := hide (below1 w (.cells #[.int .i64 Al, .slice (some ⟨b, off, none⟩) n c] 53))
            have R0 := hide (Row.new w 53 [.int .i64 Al, .slice (some ⟨b, off, none⟩) n c])
            clear hpw
            go_enter Tryz.func63, Tryz.ntmps63
            go_wp2_with fail
            refine (cp _).mono ?_
            rintro e w' ⟨rfl, rfl⟩
            go_wp2_with fail
            obtain ⟨W1, hW1⟩ : ∃ V, (w.alloc (.cells #[.int .i64 Al, .slice (some ⟨b, off, none⟩) n c] 53)) = V := ⟨_, rfl⟩
            rw [show ([.int .i64 Al, .slice (some ⟨b, off, none⟩) n c] : List Value).toArray = #[.int .i64 Al, .slice (some ⟨b, off, none⟩) n c] from rfl] at R0
            rw [hW1] at HB0 R0 ⊢
            clear hW1 p0 cp
            go_loopw [36] (fun s wr => ∃ k : Nat, k ≤ n ∧ s = .int .i64 k ∧ Hid (∀ j (hj : j < F.length), j < k → fmE Al n F[j] = 0) ∧ Hid (Below W1.heap.size W1 wr)) (fun s _ => n - (intOf s).toNat)
            case atStart => exact ⟨0, by omega, rfl, hide (fun j hj h => by omega), hide (Below.refl _ _)⟩
            case round =>
              obtain ⟨k, hk, rfl, hno, hbr⟩ := hrel
              have v0 := (R0.out.call hbr.out).cell (k := 0) rfl
              have v1 := (R0.out.call hbr.out).cell (k := 1) rfl
              have HBR := hide (HB0.out.trans (hbr.out.mono HB0.out.size))
              by_cases hlt : k < n
              · have hkl : k < F.length := by have := HL.out; omega
                have hx := List.getElem?_eq_getElem hkl
                have ci := chkfm_any Al (some ⟨b, off, none⟩) n c hs F lo B k F[k] wr (hide (H.out.below (HBR.out.mono hB))) (Nat.le_trans hB HBR.out.size) (hide hx)
                have HIT := hide (fun h0 : fmE Al n F[k] ≠ 0 => show tgE Al F = fmE Al n F[k] by
                  have hf : firstE (F.map (fmE Al F.length)) = fmE Al n F[k] := by
                    rw [HL.out]
                    exact firstE_hit (k := k) (by rw [List.getElem?_map, List.getElem?_eq_getElem hkl]; rfl) h0 fun j hj => by
                      have hl : j < F.length := by omega
                      rw [List.getElem?_map, List.getElem?_eq_getElem hl]; simp [hno.out j hl hj]
                  rw [HR.out, if_pos (by rw [hf]; exact h0), hf])
                obtain ⟨ie, hie⟩ : ∃ ie, fmE Al n F[k] = ie := ⟨_, rfl⟩
                rw [hie] at ci HIT
                have HIE := hide hie
                have CI := hide ci
                clear ci hie hx
                by_cases h0 : ie = 0
                · subst h0
                  go_wp2_with fail
                  refine (CI.out).mono ?_
                  rintro e w2 ⟨rfl, hb2⟩
                  have HB2 := hide (below_call hbr.out hb2)
                  clear hb2 v0 v1
                  go_wp2_with fail
                  go_roundw
                  case rel =>
                    refine ⟨k + 1, by omega, by go_num, hide fun j hj hjk => ?_, HB2⟩
                    by_cases e : j = k
                    · subst e; exact HIE.out
                    · exact hno.out j hj (by omega)
                  case measure => simp [intOf]; omega
                · have hne : (ie != 0) = true := by rw [bne_iff_ne]; exact h0
                  have HR' := hide (HIT.out h0)
                  clear HIT h0
                  go_wp2_with fail
                  refine (CI.out).mono ?_
                  rintro e w2 ⟨rfl, hb2⟩
                  have HB2 := hide (below_call HBR.out hb2)
                  clear hb2 v0 v1
                  go_wp2_with fail
                  go_ret
                  exact ⟨ret_int HR'.out.symm, HB2.out⟩
              · obtain rfl : k = n := by omega
                have HALL := hide (show ∀ j (hj : j < F.length), fmE Al k F[j] = 0 from fun j hj => hno.out j hj (by have := HL.out; omega))
                have HE := hide (show tgE Al F = if F.all (roomB F) then 0 else 7 by
                  have hf : firstE (F.map (fmE Al F.length)) = 0 := by
                    rw [firstE_zero, HL.out]
                    intro e he
                    obtain ⟨x, hx, rfl⟩ := List.mem_map.1 he
                    obtain ⟨j, hj, rfl⟩ := List.mem_iff_getElem.1 hx
                    exact HALL.out j hj
                  rw [HR.out, if_neg (by rw [hf]; simp)])
                have HPAR := hide (show ∀ g ∈ F, 0 ≤ g.params ∧ g.params ≤ 8 from fun g hg => by
                  obtain ⟨j, hj, rfl⟩ := List.mem_iff_getElem.1 hg
                  exact (shB_b (fmE_zero (HALL.out j hj)).1).1)
                have hbs := hbr.out.size
                go_wp2_with fail
                clear v0 v1
                go_loopw [49] (fun s wr => ∃ q : Nat, q ≤ k ∧ s = .int .i64 q ∧ Hid (∀ j (hj : j < F.length), j < q → roomB F F[j] = true) ∧ Hid (Below W1.heap.size W1 wr)) (fun s _ => k - (intOf s).toNat)
                case atStart => exact ⟨0, by omega, rfl, hide (fun j hj h => by omega), hbr⟩
                case round =>
                  obtain ⟨q, hq, rfl, hno2, hbq⟩ := hrel
                  have v0 := (R0.out.call hbq.out).cell (k := 0) rfl
                  have v1 := (R0.out.call hbq.out).cell (k := 1) rfl
                  have HBQ := hide (HB0.out.trans (hbq.out.mono HB0.out.size))
                  by_cases hlt : q < k
                  · have hkl : q < F.length := by have := HL.out; omega
                    have hx := List.getElem?_eq_getElem hkl
                    have ci := passes_any Al (some ⟨b, off, none⟩) k c hs F lo B q F[q] wr (hide (H.out.below (HBQ.out.mono hB))) (Nat.le_trans hB HBQ.out.size) (hide hx) (hide fun x hx h22 => mins_call ((fmE_zero (HALL.out q hkl)).2.2.1 x hx) h22) HPAR
                    have HIT := hide (fun h0 : roomB F F[q] = false => show tgE Al F = 7 by
                      rw [HE.out, if_neg (by
                        rw [Bool.not_eq_true, List.all_eq_false]
                        exact ⟨_, List.getElem_mem hkl, by simp [h0]⟩)])
                    obtain ⟨rb, hrb⟩ : ∃ v, roomB F F[q] = v := ⟨_, rfl⟩
                    rw [hrb] at ci HIT
                    have HRB := hide hrb
                    have CI := hide ci
                    clear ci hrb hx
                    cases rb with
                    | true =>
                      go_wp2_with fail
                      refine (CI.out).mono ?_
                      rintro e w2 ⟨rfl, hb2⟩
                      have HB2 := hide (below_call hbq.out hb2)
                      clear hb2 v0 v1
                      go_wp2_with fail
                      go_roundw
                      case rel =>
                        refine ⟨q + 1, by omega, by go_num, hide fun j hj hjk => ?_, HB2⟩
                        by_cases e : j = q
                        · subst e; exact HRB.out
                        · exact hno2.out j hj (by omega)
                      case measure => simp [intOf]; omega
                    | false =>
                      have HR' := hide (HIT.out rfl)
                      clear HIT
                      go_wp2_with fail
                      refine (CI.out).mono ?_
                      rintro e w2 ⟨rfl, hb2⟩
                      have HB2 := hide (below_call HBQ.out hb2)
                      clear hb2 v0 v1
                      go_wp2_with fail
                      go_ret
                      exact ⟨ret_int HR'.out.symm, HB2.out⟩
                  · obtain rfl : q = k := by omega
                    have HZ := hide (show tgE Al F = 0 by
                      rw [HE.out, if_pos]
                      rw [List.all_eq_true]
                      intro x hx
                      obtain ⟨j, hj, rfl⟩ := List.mem_iff_getElem.1 hx
                      exact hno2.out j hj (by have := HL.out; omega))
                    go_wp2_with fail
                    go_ret
                    exact ⟨ret_int HZ.out.symm, HBQ.out⟩
          · have hne : (P != 0) = true := by rw [bne_iff_ne]; exact hp
            have HR := hide (tgE_entry hHL.out HF0.out ⟨hpw, by omega⟩ (by rw [← HP.out]; exact hp))
            clear hpw hp
            go_enter Tryz.func63, Tryz.ntmps63
            go_wp2_with fail
            refine (cp _).mono ?_
            rintro e w' ⟨rfl, rfl⟩
            go_wp2_with fail
            go_ret
            exact ⟨ret_int HR.out.symm, below1 _ _⟩
end Go.Proofs.YtlcmcmocjbeocaaGreatDoor
end

section
/-
  The contract of the program's Encode (package machcode). Conditions: the types'; the table of TrailingZeros64 lies as it is laid.
-/
namespace Go.Proofs.YtlcmcmocjbeocaaGreatDoor
open Go.RowKit

theorem addE_in {b : Int} (h : bndB b = true) : addE b 0 = 0 := by
  have := bndB_iff.1 h
  unfold addE
  rw [h, show bndB 0 = true by decide]
  simp
  omega
theorem addE_out {b : Int} (h : bndB b = false) : addE b 0 = 4 := by unfold addE; rw [h]; rfl
/-- What Encode leaves. -/
def JcPost (Al bd : Int) (F : Tg) (w : World) (e : Ending) (w' : World) : Prop :=
  ∃ (A : Option Addr) (n c : Nat), e = .returned (.tuple #[.slice A n c, .int .i64 (encJE Al bd F)]) ∧ (encJE Al bd F = 0 → n = (encJ Al bd F).length ∧ w'.ownsRow w.heap.size 5 1 (.slice A n c) n (cellsU8 (encJ Al bd F))) ∧ (encJE Al bd F ≠ 0 → A = none ∧ n = 0 ∧ c = 0) ∧ Below w.heap.size w w'
theorem jc_bad {Al bd : Int} {F : Tg} {w w' : World} {x : Int} (h : encJE Al bd F = x) (h0 : x ≠ 0) (hb : Below w.heap.size w w') : JcPost Al bd F w (.returned (.tuple #[.slice none 0 0, .int .i64 x])) w' := by
  subst h
  exact ⟨none, 0, 0, rfl, fun e => absurd e h0, fun _ => ⟨rfl, rfl, rfl⟩, hb⟩

set_option maxRecDepth 100000 in
set_option maxHeartbeats 4000000 in
theorem jencode_any (Al bd : Int) (A : Option Addr) (n c : Nat) (hs : List Fd) (F : Tg) (lo : Nat) (w : World) (HT : Hid (TgAt w lo w.heap.size A n c hs F)) (HI : Hid (ImmT F)) (hTab : Hid (Tab w)) :
    Calls Tryz.prog 35 #[tv Al A n c, .int .i64 bd] w (JcPost Al bd F w) := by
  obtain ⟨W, hW⟩ : ∃ W, w.alloc (.cells #[.int .i64 Al, .slice A n c] 53) = W := ⟨_, rfl⟩
  have HW := hide hW
  have R0 := hide (show Row W w.heap.size 53 [.int .i64 Al, .slice A n c] by rw [← hW]; exact Row.new w _ _)
  have HB := hide (show Below w.heap.size w W by rw [← hW]; exact below1 w _)
  have HT1 := hide (HT.out.call HB.out)
  have cc := chktg_any Al A n c hs F lo W.heap.size W HT1 (Nat.le_refl _)
  have x0 := R0.out.cell (k := 0) rfl
  have x1 := R0.out.cell (k := 1) rfl
  clear hW
  by_cases h1 : tgE Al F = 0
  · rw [h1] at cc
    have E1 := hide h1
    clear h1
    cases hb : bndB bd with
    | false =>
      have hA := fun w => add_any bd 0 w
      rw [addE_out hb] at hA
      have HE := hide (show encJE Al bd F = 4 by unfold encJE; rw [if_neg (by rw [E1.out]; decide), if_pos hb])
      clear hb
      go_enter Tryz.func35, Tryz.ntmps35
      go_upto_region 1 with (fail)
      rw [HW.out]
      go_wp2_with fail
      refine cc.mono ?_
      rintro e w1 ⟨rfl, hb1⟩
      have HB1 := hide (below_call HB.out hb1)
      clear hb1 cc
      go_wp2_with fail
      refine (hA w1).mono ?_
      rintro e w' ⟨rfl, rfl⟩
      go_wp2_with fail
      go_ret2
      exact jc_bad HE.out (by decide) HB1.out
    | true =>
      have hA := fun w => add_any bd 0 w
      rw [addE_in hb] at hA
      have HW2 := hide (tgW_of E1.out hb HI.out)
      have EB := hide hb
      clear hb
      obtain ⟨L, hL⟩ : ∃ L, (encJ Al bd F).length = L := ⟨_, rfl⟩
      have HL := hide hL
      clear hL
      go_enter Tryz.func35, Tryz.ntmps35
      go_upto_region 1 with (fail)
      rw [HW.out]
      go_wp2_with fail
      refine cc.mono ?_
      rintro e w1 ⟨rfl, hb1⟩
      have HB1 := hide (below_call HB.out hb1)
      have ce := jencoded_any Al bd A n c hs F lo w1 (hide (HT1.out.call hb1)) HW2 (hide ((hTab.out.below HB.out).below hb1))
      have y0 := (R0.out.call hb1).cell (k := 0) rfl
      have y1 := (R0.out.call hb1).cell (k := 1) rfl
      clear hb1 cc
      go_wp2_with fail
      refine (hA w1).mono ?_
      rintro e w' ⟨rfl, rfl⟩
      go_wp2_with fail
      refine ce.mono ?_
      rintro e w2 ⟨A2, c2, rfl, ho2, hb2⟩
      have HB2 := hide (below_call HB1.out hb2)
      have HO2 := hide (own_less ho2 HB1.out.size)
      rw [HL.out] at HO2 ⊢
      clear ho2 hb2 ce
      by_cases hlim : 1048576 < L
      · have hlz : (1048576 : Int) < (L : Int) := by omega
        have HE := hide (show encJE Al bd F = 3 by unfold encJE; rw [if_neg (by rw [E1.out]; decide), if_neg (by rw [EB.out]; decide), HL.out, if_pos hlim])
        go_wp2_with fail
        go_ret2
        exact jc_bad HE.out (by decide) HB2.out
      · have hlz : ¬ ((1048576 : Int) < (L : Int)) := by omega
        have HE := hide (show encJE Al bd F = 0 by unfold encJE; rw [if_neg (by rw [E1.out]; decide), if_neg (by rw [EB.out]; decide), HL.out, if_neg hlim])
        have FIN := hide (show JcPost Al bd F w (.returned (.tuple #[.slice A2 L c2, .int .i64 0])) w2 from ⟨A2, L, c2, by rw [HE.out], fun _ => ⟨HL.out.symm, HO2.out⟩, fun h => absurd HE.out h, HB2.out⟩)
        clear hlim
        go_wp2_with fail
        go_ret2
        exact FIN.out
  · have hne : (tgE Al F == 0) = false := by simpa using h1
    have HE := hide (show encJE Al bd F = tgE Al F by unfold encJE; rw [if_pos h1])
    have HN := hide h1
    obtain ⟨x, hx⟩ : ∃ x, tgE Al F = x := ⟨_, rfl⟩
    rw [hx] at cc hne HE HN
    clear h1 hx
    go_enter Tryz.func35, Tryz.ntmps35
    go_upto_region 1 with (fail)
    rw [HW.out]
    go_wp2_with fail
    refine cc.mono ?_
    rintro e w1 ⟨rfl, hb1⟩
    have HB1 := hide (below_call HB.out hb1)
    clear hb1 cc
    go_wp2_with fail
    go_ret2
    exact jc_bad HE.out HN.out HB1.out
end Go.Proofs.YtlcmcmocjbeocaaGreatDoor
end
