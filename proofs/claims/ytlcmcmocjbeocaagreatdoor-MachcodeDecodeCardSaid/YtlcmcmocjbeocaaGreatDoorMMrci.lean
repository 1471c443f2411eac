import Derived.Test.YtlcmcmocjbeocaaGreatDoorMMrcia
import Derived.Test.YtlcmcmocjbeocaaGreatDoorMMrcib
import Derived.Test.YtlcmcmocjbeocaaGreatDoorMJrp
import Derived.Test.YtlcmcmocjbeocaaGreatDoorMMins
import Derived.Test.YtlcmcmocjbeocaaGreatDoorMPmem
import Derived.Test.YtlcmcmocjbeocaaGreatDoorMBitsm
import Derived.Outline
set_option linter.unusedVariables false
set_option linter.unusedSimpArgs false
section
/-
  The reference's CheckInstr (chapter 10) at an instruction that there is, in a frame of a right shape. Conditions: those of the types.
-/
namespace Go.Proofs.YtlcmcmocjbeocaaGreatDoor
open Go.RowKit

theorem mu_shapes (o : Int) (h0 : 0 ≤ o) (h1 : o < 25) : (muA o = true ∧ muB o = true ∧ muC o = true ∧ muI o = false) ∨ (muA o = true ∧ muB o = true ∧ muC o = false ∧ muI o = false) ∨ (muA o = true ∧ muB o = false ∧ muC o = false ∧ muI o = false) ∨ (muA o = true ∧ muB o = false ∧ muC o = false ∧ muI o = true) ∨ (muA o = false ∧ muB o = false ∧ muC o = false ∧ muI o = true) ∨ (muA o = false ∧ muB o = false ∧ muC o = false ∧ muI o = false) := by
  have e : ∀ k : Fin 25, (muA (k.val : Int) = true ∧ muB (k.val : Int) = true ∧ muC (k.val : Int) = true ∧ muI (k.val : Int) = false) ∨ (muA (k.val : Int) = true ∧ muB (k.val : Int) = true ∧ muC (k.val : Int) = false ∧ muI (k.val : Int) = false) ∨ (muA (k.val : Int) = true ∧ muB (k.val : Int) = false ∧ muC (k.val : Int) = false ∧ muI (k.val : Int) = false) ∨ (muA (k.val : Int) = true ∧ muB (k.val : Int) = false ∧ muC (k.val : Int) = false ∧ muI (k.val : Int) = true) ∨ (muA (k.val : Int) = false ∧ muB (k.val : Int) = false ∧ muC (k.val : Int) = false ∧ muI (k.val : Int) = true) ∨ (muA (k.val : Int) = false ∧ muB (k.val : Int) = false ∧ muC (k.val : Int) = false ∧ muI (k.val : Int) = false) := by decide
  have := e ⟨o.toNat, by omega⟩
  simp only at this
  rwa [Int.toNat_of_nonneg h0] at this
theorem rchkinsm_any (Al : Int) (A : Option Addr) (n c : Nat) (hs : List Fd) (F : Tg) (lo B i k : Nat) (f : Fm) (x : Ins) (w : World) (H : Hid (TgAt w lo B A n c hs F)) (hB : B ≤ w.heap.size) (hf : Hid (F[i]? = some f)) (hx : Hid (f.code[k]? = some x)) (hsh : Hid (shB Al f = true)) :
    Calls Tryz.prog 104 #[tv Al A n c, .int .i64 (i : Int), .int .i64 (k : Int)] w fun e w' => e = .returned (.int .i64 (minsE n f x)) ∧ Below w.heap.size w w' := by
  cases hx2 : exB x.op with
  | false => exact rmci_no Al A n c hs F lo B i k f x w H hB hf hx hsh (hide hx2)
  | true =>
    have ho := exB_b hx2
    rcases mu_shapes x.op ho.1 ho.2 with h | h | h | h | h | h
    · exact rmci_tttf Al A n c hs F lo B i k f x w H hB hf hx hsh (hide hx2) (hide h)
    · exact rmci_ttff Al A n c hs F lo B i k f x w H hB hf hx hsh (hide hx2) (hide h)
    · exact rmci_tfff Al A n c hs F lo B i k f x w H hB hf hx hsh (hide hx2) (hide h)
    · exact rmci_tfft Al A n c hs F lo B i k f x w H hB hf hx hsh (hide hx2) (hide h)
    · exact rmci_ffft Al A n c hs F lo B i k f x w H hB hf hx hsh (hide hx2) (hide h)
    · exact rmci_ffff Al A n c hs F lo B i k f x w H hB hf hx hsh (hide hx2) (hide h)
end Go.Proofs.YtlcmcmocjbeocaaGreatDoor
end

section
/-
  The contract of the reference's Terminator (chapter 5). No condition.
-/
namespace Go.Proofs.YtlcmcmocjbeocaaGreatDoor
open Go.RowKit

theorem r5term_any (op : Int) (w : World) : Calls Tryz.prog 105 #[.int .i64 op] w fun e w' => e = .returned (.bool (termB op)) ∧ w = w' := by
  by_cases h1 : op = 20
  · subst h1
    go_enter Tryz.func105, Tryz.ntmps105
    go_wp2_with fail
    go_ret
    exact ⟨rfl, rfl⟩
  · by_cases h2 : op = 23
    · subst h2
      go_enter Tryz.func105, Tryz.ntmps105
      go_wp2_with fail
      go_ret
      exact ⟨rfl, rfl⟩
    · have b1 : (op == 20) = false := by simpa using h1
      have b2 : (op == 23) = false := by simpa using h2
      have e := hide (show termB op = (op == 24) by simp [termB, b1, b2])
      clear h1 h2
      go_enter Tryz.func105, Tryz.ntmps105
      go_wp2_with fail
      go_ret
      exact ⟨ret_bool e.out.symm, rfl⟩
end Go.Proofs.YtlcmcmocjbeocaaGreatDoor
end

section
/-
  The reference's CheckFrame (chapter 10) at a frame that there is. Conditions: those of the types.
-/
namespace Go.Proofs.YtlcmcmocjbeocaaGreatDoor
open Go.RowKit

set_option maxRecDepth 100000 in
set_option maxHeartbeats 4000000 in
theorem rchkfm_any (Al : Int) (A : Option Addr) (n c : Nat) (hs : List Fd) (F : Tg) (lo B i : Nat) (f : Fm) (w : World) (H : Hid (TgAt w lo B A n c hs F)) (hB : B ≤ w.heap.size) (hf : Hid (F[i]? = some f)) :
    Calls Tryz.prog 67 #[tv Al A n c, .int .i64 (i : Int)] w fun e w' => e = .returned (.int .i64 (fmE Al n f)) ∧ Below w.heap.size w w' := by
  have hin : i < n := by rw [← H.out.len]; exact (List.getElem?_eq_some_iff.1 hf.out).1
  obtain ⟨b, off, P, S, A1, n1, c1, f', rfl, hb, e1, hh, h, p0, p1, p2⟩ := fm_at H.out hin
  obtain rfl : f' = f := by rw [hf.out] at e1; injection e1 with e1; exact e1.symm
  clear e1 hh
  have hn := H.out.cap.2.2
  have HL := hide (show f'.code.length = n1 from h.l)
  have HP := hide (show P = f'.params from h.p)
  have HS := hide (show S = f'.size from h.s)
  have HC := hide h.c
  have hn1 : n1 ≤ 8796093022208 := h.k.2.2
  have hbw : b < w.heap.size := by omega
  have hb1 := below1 w (.cells #[.int .i64 Al, .slice (some ⟨b, off, none⟩) n c] 53)
  have R0 := Row.new w 53 [.int .i64 Al, .slice (some ⟨b, off, none⟩) n c]
  obtain ⟨W1, hW1⟩ : ∃ V, w.alloc (.cells #[.int .i64 Al, .slice (some ⟨b, off, none⟩) n c] 53) = V := ⟨_, rfl⟩
  rw [show ([.int .i64 Al, .slice (some ⟨b, off, none⟩) n c] : List Value).toArray = #[.int .i64 Al, .slice (some ⟨b, off, none⟩) n c] from rfl, hW1] at R0
  rw [hW1] at hb1
  have q0 := (hb1.cell (p := ⟨b, off + i * 3, none⟩) hbw).trans p0
  have q1 := (hb1.cell (p := ⟨b, off + i * 3 + 1, none⟩) hbw).trans p1
  have q2 := (hb1.cell (p := ⟨b, off + i * 3 + 2, none⟩) hbw).trans p2
  have t0 := R0.cell (k := 0) rfl
  have t1 := R0.cell (k := 1) rfl
  have HW1 := hide hW1
  have HB1 := hide hb1
  have HR0 := hide R0
  have hiz : (0 : Int) ≤ (i : Int) := by omega
  have hiz' : (i : Int) < (n : Int) := by omega
  have t0' := after_cell t0
  have t1' := after_cell t1
  have q0' := after_cell q0
  have q1' := after_cell q1
  have q2' := after_cell q2
  obtain ⟨sb, hsb⟩ : ∃ v, shB Al f' = v := ⟨_, rfl⟩
  have cw1 : ∀ p : After W1, Calls Tryz.prog 102 #[.int .i64 (i : Int), .int .i64 (n : Int)] p.w fun e w' => e = .returned (.bool true) ∧ p.w = w' := fun p => by
    have := rwith10_any (i : Int) (n : Int) p.w; rwa [withB_true.2 ⟨by omega, by omega⟩] at this
  have cw3 : ∀ p : After W1, Calls Tryz.prog 103 #[tv Al (some ⟨b, off, none⟩) n c, mv P S A1 n1 c1] p.w fun e w' => e = .returned (.bool sb) ∧ Below p.w.heap.size p.w w' := fun p => by
    have := rshape10_any Al (some ⟨b, off, none⟩) n c P S A1 n1 c1 f' p.w (hide ⟨HP.out.symm, HS.out.symm⟩); rwa [hsb] at this
  have K1 := hide cw1
  have K3 := hide cw3
  have HSB := hide hsb
  clear hW1 hb1 R0 p0 p1 p2 h cw1 cw3 hsb
  cases sb with
  | false =>
    have HR := hide (fmE_shape (N := n) HSB.out)
    go_enter Tryz.func67, Tryz.ntmps67
    go_upto_region 1 with (fail)
    rw [HW1.out]
    clear HW1
    refine wp_region_after (by kernel_rfl) (by kernel_rfl) ?_
    repeat (go_big_quiet_step ((first
      | (go_at_call 102; with_reducible exact after_same (K1.out _))
      | (go_at_call 103; with_reducible exact after_of (K3.out _)))))
    refine wpQuiet_nil ?_
    intro _ hw'
    obtain ⟨p1, hw''⟩ := hw'
    subst hw''
    clear K1 K3
    have HBP := hide (HB1.out.trans (p1.b.mono HB1.out.size))
    go_wp2_with fail
    go_ret
    exact ⟨ret_int HR.out.symm, HBP.out⟩
  | true =>
    go_enter Tryz.func67, Tryz.ntmps67
    go_upto_region 1 with (fail)
    rw [HW1.out]
    clear HW1
    refine wp_region_after (by kernel_rfl) (by kernel_rfl) ?_
    repeat (go_big_quiet_step ((first
      | (go_at_call 102; with_reducible exact after_same (K1.out _))
      | (go_at_call 103; with_reducible exact after_of (K3.out _)))))
    refine wpQuiet_nil ?_
    intro _ hw'
    obtain ⟨p1, hw''⟩ := hw'
    subst hw''
    clear K1 K3
    have HBP := hide (HB1.out.trans (p1.b.mono HB1.out.size))
    have RP := hide (HR0.out.call p1.b)
    have t1 := t1' p1
    have q0 := q0' p1
    have q1 := q1' p1
    have q2 := q2' p1
    clear t0' t1' q0' q1' q2' HB1 HR0
    obtain ⟨W2, hW2⟩ : ∃ V, p1.w = V := ⟨_, rfl⟩
    rw [hW2] at HBP RP t1 q0 q1 q2 ⊢
    clear hW2
    go_upto_region 4 with (fail)
    obtain ⟨W3, hW3⟩ : ∃ V, W2.alloc (.cells #[.int .i64 P, .int .i64 S, .slice A1 n1 c1] 90) = V := ⟨_, rfl⟩
    have RF3 := hide (show Row W3 W2.heap.size 90 [.int .i64 P, .int .i64 S, .slice A1 n1 c1] by rw [← hW3]; exact Row.new W2 _ _)
    have RT3 := hide (show Row W3 w.heap.size 53 [.int .i64 Al, .slice (some ⟨b, off, none⟩) n c] by rw [← hW3]; exact RP.out.alloc _)
    have HB3 := hide (show Below w.heap.size w W3 by rw [← hW3]; exact HBP.out.alloc HBP.out.size _)
    rw [hW3]
    obtain ⟨gf, hgf⟩ : ∃ g, W2.heap.size = g := ⟨_, rfl⟩
    rw [hgf] at RF3 ⊢
    clear hW3 hgf RP HBP q0 q1 q2 t1
    have g2 := RF3.out.cell (k := 2) rfl
    by_cases hlong : 1024 < n1
    · have HR := hide (fmE_long (N := n) HSB.out (by rw [HL.out]; exact hlong))
      have hz : (1024 : Int) < (n1 : Int) := by omega
      go_wp2_with fail
      go_ret
      exact ⟨ret_int HR.out.symm, HB3.out⟩
    · have hz' : ¬ (1024 : Int) < (n1 : Int) := by omega
      have hzz : (n1 : Int) ≤ 1024 := by omega
      have HIN := hide (fun (k : Nat) (e : Int) hk he h0 hb => fmE_instr (N := n) (k := k) (e := e) HSB.out (by rw [HL.out]; omega) hk he h0 hb)
      have HEN := hide (fun hb => fmE_end (N := n) HSB.out (by rw [HL.out]; omega) hb)
      go_wp2_with fail
      clear g2
      go_loopw [6] (fun s wr => ∃ k : Nat, k ≤ n1 ∧ s = .int .i64 k ∧ Hid (∀ j (hj : j < f'.code.length), j < k → minsE n f' f'.code[j] = 0) ∧ Hid (Below W3.heap.size W3 wr)) (fun s _ => n1 - (intOf s).toNat)
      case atStart => exact ⟨0, by omega, rfl, hide (fun j hj h => by omega), hide (Below.refl _ _)⟩
      case round =>
        obtain ⟨k, hk, rfl, hno, hbr⟩ := hrel
        have RF4 := hide (RF3.out.call hbr.out)
        have RT4 := hide (RT3.out.call hbr.out)
        have HB4 := hide (HB3.out.trans (hbr.out.mono HB3.out.size))
        have g2 := RF4.out.cell (k := 2) rfl
        have t0 := RT4.out.cell (k := 0) rfl
        have t1 := RT4.out.cell (k := 1) rfl
        by_cases hlt : k < n1
        · have hkl : k < f'.code.length := by have := HL.out; omega
          have hkz : (0 : Int) ≤ (k : Int) := by omega
          have hkz' : (k : Int) < (n1 : Int) := by omega
          have ci := rchkinsm_any Al (some ⟨b, off, none⟩) n c hs F lo B i k f' f'.code[k] wr (hide (H.out.below (HB4.out.mono hB))) (Nat.le_trans hB HB4.out.size) hf (hide (List.getElem?_eq_getElem hkl)) (hide HSB.out)
          have HIT := hide (fun h0 : minsE n f' f'.code[k] ≠ 0 => HIN.out k _ hkl rfl h0 hno.out)
          obtain ⟨ie, hie⟩ : ∃ ie, minsE n f' f'.code[k] = ie := ⟨_, rfl⟩
          rw [hie] at ci HIT
          have HIE := hide hie
          have CI := hide ci
          clear hie ci
          by_cases h0 : ie = 0
          · subst h0
            go_wp2_with fail
            refine (CI.out).mono ?_
            rintro e w2 ⟨rfl, hb2⟩
            have HB2 := hide (below_call hbr.out hb2)
            clear hb2 g2 t0 t1
            go_wp2_with fail
            go_roundw
            case rel =>
              refine ⟨k + 1, by omega, by go_num, hide fun j hj hjk => ?_, HB2⟩
              by_cases e : j = k
              · subst e; exact HIE.out
              · exact hno.out j hj (by omega)
            case measure => simp [intOf]; omega
          · have hne : (ie != 0) = true := by rw [bne_iff_ne]; exact h0
            have HR' := hide (HIT.out h0)
            clear HIT h0
            go_wp2_with fail
            refine (CI.out).mono ?_
            rintro e w2 ⟨rfl, hb2⟩
            have HB2 := hide (below_call HB4.out hb2)
            clear hb2 g2 t0 t1
            go_wp2_with fail
            go_ret
            exact ⟨ret_int HR'.out.symm, HB2.out⟩
        · obtain rfl : k = n1 := by omega
          have HE := hide (HEN.out (fun j hj => hno.out j hj (by have := HL.out; omega)))
          by_cases hk0 : k = 0
          · subst hk0
            have hc : closedB f'.code = false := by rw [List.eq_nil_of_length_eq_zero HL.out]; rfl
            have HZ := hide (show fmE Al n f' = 6 by rw [HE.out, hc]; rfl)
            clear hc
            go_wp2_with fail
            go_ret
            exact ⟨ret_int HZ.out.symm, HB4.out⟩
          · obtain ⟨q, rfl⟩ : ∃ q, k = q + 1 := ⟨k - 1, by omega⟩
            have hq : q < f'.code.length := by have := HL.out; omega
            have hc := closedB_at' (l := f'.code) (k := q) HL.out.symm
            obtain ⟨bb, oo, rfl, hbb, x0, -, -, -, -⟩ := ins_at (HC.out.below (HB4.out.mono hB)) hq
            obtain ⟨o, ho⟩ : ∃ o, (f'.code[q]'hq).op = o := ⟨_, rfl⟩
            rw [ho] at x0 hc
            have ct := r5term_any o
            obtain ⟨tb, htb⟩ : ∃ v, termB o = v := ⟨_, rfl⟩
            rw [htb] at ct
            rw [htb] at hc
            have HZ := hide (show fmE Al n f' = if tb = false then 6 else 0 by rw [HE.out, hc])
            have e1 : ((q + 1 : Nat) : Int) - 1 = (q : Int) := by omega
            have hz0 : (((q + 1 : Nat) : Int) == 0) = false := by simp; omega
            have hqz : (0 : Int) ≤ (q : Int) := by omega
            have hqz' : (q : Int) < ((q + 1 : Nat) : Int) := by omega
            clear hc ho htb hk0
            cases tb with
            | false =>
              go_wp2_with fail
              refine (ct _).mono ?_
              rintro e w' ⟨rfl, rfl⟩
              go_wp2_with fail
              go_ret
              exact ⟨ret_int HZ.out.symm, HB4.out⟩
            | true =>
              go_wp2_with fail
              refine (ct _).mono ?_
              rintro e w' ⟨rfl, rfl⟩
              go_wp2_with fail
              go_ret
              exact ⟨ret_int HZ.out.symm, HB4.out⟩
end Go.Proofs.YtlcmcmocjbeocaaGreatDoor
end
